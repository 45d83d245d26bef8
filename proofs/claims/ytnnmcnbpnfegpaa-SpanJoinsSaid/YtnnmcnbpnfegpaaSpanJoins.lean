/-
  For every list of lists of spans, the law SpanJoins returns true and leaves its arguments as they were. No condition.
-/
import Derived.Test.YtnnmcnbpnfegpaaRows
import Derived.Test.YtnnmcnbpnfegpaaSpLawJoins
import Derived.Test.YtnnmcnbpnfegpaaSpHolds
import Derived.Test.YtnnmcnbpnfegpaaOpenMany
import Derived.OpenShut
import Derived.WalkKit
import Derived.ProofKit
import Derived.SizedLaws
namespace Go.Proofs.Ytnnmcnbpnfegpaa.spanJoins
open Go.ChangeShapes Go.WideShapes Go.ChangeAt Go.RowKit

theorem cells : Try.prog.cellsOf 44 = 2 := by kernel_rfl
theorem bytes : Try.prog.bytesOf 44 = 16 := by kernel_rfl
theorem own : ownKnob Try.prog.godebug = none := by kernel_rfl
theorem laidOut : laidOutB Try.prog = true := by kernel_rfl
theorem reads : ∀ t ∈ Try.f5.params.toList, Try.prog.readableRec t = true ∧ t < Try.prog.types.size := by
  intro t ht
  rw [Try.params5] at ht
  obtain rfl : t = 33 := by simpa using ht
  exact ⟨by kernel_rfl, of_decide_eq_true (by kernel_rfl)⟩

set_option maxRecDepth 100000 in
theorem lifted (os : Os) (started : os.Started) (H : Type) (enc : TypeId × Value → H) :
    ReturnsInHanded {} Try.checked os 5 .any (Rows.spanJoinsSpec.pre6 enc Try.prog Try.f5 Rows.spanJoinsRow.domain false) (Rows.spanJoinsSpec.post enc Try.prog Try.f5 false true false false) := by
  refine returnsInHanded_of_change_sized (C := Try.checked) own started (by kernel_rfl) Try.func5
    (ChangeSpec.witness6 (enc := enc) (C := Try.checked) false ⟨#[], #[.slice none 0 0], []⟩ 8 (by kernel_rfl) (by kernel_rfl) (by kernel_rfl) (by kernel_rfl)) ?_
  intro W base args ds gs before hval0 hW _ hsz0 _
  have hval : ∀ (j : Nat) t v, Try.f5.params[j]? = some t → args[j]? = some v → Value.okWide Try.prog W .any base t v := hval0
  have hsz : (DataW.weightsEach Try.prog (Try.f5.params.toList ++ Rows.spanJoinsSpec.plain.varTypes Try.prog) (ds ++ gs)).all (· ≤ reachBytes) = true := hsz0
  have hW' := hW
  obtain ⟨p, q, hA0, hV, rfl, hfz, hnd⟩ := hW
  have hA : DataW.TrodAll enc Try.prog W 0 (fun _ => true) true Try.f5.params.toList args.toList ds p := hA0
  rw [Try.params5] at hA hval hsz
  obtain ⟨v0, vs0, d0, ds0, p0, q0, hargs, rfl, rfl, h0, r0⟩ := trodAll_cons hA
  obtain ⟨rfl, rfl, rfl⟩ := trodAll_nil r0
  obtain rfl : args = #[v0] := by cases args; simp_all
  obtain ⟨rfl, rfl⟩ := trodVars_none hV
  obtain ⟨A0, cap0, ls0, rfl, hc0, hm0, hn0, hr0, hd0⟩ := open_rows Try.underlying33 (by kernel_rfl) Try.underlying22 Try.underlying44 (by kernel_rfl) cells rfl rfl Try.underlying3 (hval 0 33 v0 rfl rfl) h0
  have z0 : ∀ k, k < ls0.length → (ls0.getD k []).length * 16 ≤ 140737488355328 := fun k hk => by
    rcases hd0 k hk with h | ⟨elems, spare, e', sp', rfl, h1, h2⟩
    · omega
    · have := sized_in hsz (j := 0) (t := 33) (e := 22) rfl rfl Try.underlying33 Try.underlying22 h1
      rw [bytes] at this
      simp only [reachBytes] at this
      omega
  have y0 : ls0.length ≤ 9223372036854775807 := by unfold maxLen at hm0; omega
  clear hA0 hval0 hsz hsz0
  refine (lawJoins_any spanSpec A0 cap0 ls0 W y0 z0 hr0).mono fun e W' ⟨he, hg⟩ => ?_
  subst he
  exact ⟨_, rfl, law_post laidOut hW' rfl rfl (by kernel_rfl) Try.underlying4 reads hg⟩

theorem over : Rows.spanJoinsRow.holds Try.pinned (OpenSpec.ofChange Rows.spanJoinsSpec) :=
  OpenClaim.holds_of_wide 5 Try.f5 rfl rfl rfl rfl rfl rfl rfl ⟨rfl, rfl, rfl, rfl, rfl⟩ rfl rfl rfl rfl rfl (by kernel_rfl) Try.func5 (by kernel_rfl)
    (of_decide_eq_true (by kernel_rfl)) (by unfold Func.isWrapper; first | (rw [if_pos (by decide +kernel)]; kernel_rfl) | (rw [if_neg (by decide +kernel)]; exact ⟨rfl, rfl⟩))
    (fun os started H enc _ => lifted os started H enc)

/-- The statement. -/
theorem proved : Rows.SpanJoinsSaid :=
  over

end Go.Proofs.Ytnnmcnbpnfegpaa.spanJoins
