/-
  For every list of numbers, the law SpanOfs returns true and leaves its arguments as they were. No condition.
-/
import Derived.Test.YtnnmcnbpnfegpaaRows
import Derived.Test.YtnnmcnbpnfegpaaSpLawOfs
import Derived.Test.YtnnmcnbpnfegpaaSpHolds
import Derived.Test.YtnnmcnbpnfegpaaOpenMany
import Derived.OpenShut
import Derived.WalkKit
import Derived.ProofKit
import Derived.SizedLaws
namespace Go.Proofs.Ytnnmcnbpnfegpaa.spanOfs
open Go.ChangeShapes Go.WideShapes Go.ChangeAt Go.RowKit

theorem cells : Try.prog.cellsOf 44 = 2 := by kernel_rfl
theorem bytes : Try.prog.bytesOf 44 = 16 := by kernel_rfl
theorem cellsI : Try.prog.cellsOf 3 = 1 := by kernel_rfl
theorem bytesI : Try.prog.bytesOf 3 = 8 := by kernel_rfl
theorem own : ownKnob Try.prog.godebug = none := by kernel_rfl
theorem laidOut : laidOutB Try.prog = true := by kernel_rfl
theorem reads : ∀ t ∈ Try.f4.params.toList, Try.prog.readableRec t = true ∧ t < Try.prog.types.size := by
  intro t ht
  rw [Try.params4] at ht
  obtain rfl : t = 29 := by simpa using ht
  exact ⟨by kernel_rfl, of_decide_eq_true (by kernel_rfl)⟩

set_option maxRecDepth 100000 in
theorem lifted (os : Os) (started : os.Started) (H : Type) (enc : TypeId × Value → H) :
    ReturnsInHanded {} Try.checked os 4 .any (Rows.spanOfsSpec.pre6 enc Try.prog Try.f4 Rows.spanOfsRow.domain false) (Rows.spanOfsSpec.post enc Try.prog Try.f4 false true false false) := by
  refine returnsInHanded_of_change_sized (C := Try.checked) own started (by kernel_rfl) Try.func4
    (ChangeSpec.witness6 (enc := enc) (C := Try.checked) false ⟨#[], #[.slice none 0 0], []⟩ 8 (by kernel_rfl) (by kernel_rfl) (by kernel_rfl) (by kernel_rfl)) ?_
  intro W base args ds gs before hval0 hW _ hsz0 _
  have hval : ∀ (j : Nat) t v, Try.f4.params[j]? = some t → args[j]? = some v → Value.okWide Try.prog W .any base t v := hval0
  have hsz : (DataW.weightsEach Try.prog (Try.f4.params.toList ++ Rows.spanOfsSpec.plain.varTypes Try.prog) (ds ++ gs)).all (· ≤ reachBytes) = true := hsz0
  have hW' := hW
  obtain ⟨p, q, hA0, hV, rfl, hfz, hnd⟩ := hW
  have hA : DataW.TrodAll enc Try.prog W 0 (fun _ => true) true Try.f4.params.toList args.toList ds p := hA0
  rw [Try.params4] at hA hval hsz
  obtain ⟨v0, vs0, d0, ds0, p0, q0, hargs, rfl, rfl, h0, r0⟩ := trodAll_cons hA
  obtain ⟨rfl, rfl, rfl⟩ := trodAll_nil r0
  obtain rfl : args = #[v0] := by cases args; simp_all
  obtain ⟨rfl, rfl⟩ := trodVars_none hV
  obtain ⟨A0, cap0, l0, rfl, hc0, hm0, hn0, hl0, hd0⟩ := open_nums Try.underlying29 Try.underlying3 cellsI (hval 0 29 v0 rfl rfl) h0
  have o0 : Nums W A0 cap0 l0 := ⟨hc0, hm0, hn0, hl0⟩
  have z0 : l0.length * 8 ≤ 140737488355328 := by
    rcases hd0 with ⟨_, h, _⟩ | ⟨elems, spare, rfl, h1, h2⟩
    · omega
    · have := sized_slice hsz (j := 0) (t := 29) (e := 3) rfl rfl Try.underlying29
      rw [bytesI] at this
      simp only [reachBytes] at this
      omega
  clear hA0 hval0 hsz hsz0
  refine (lawOfs_any spanSpec A0 cap0 l0 W z0 o0).mono fun e W' ⟨he, hg⟩ => ?_
  subst he
  exact ⟨_, rfl, law_post laidOut hW' rfl rfl (by kernel_rfl) Try.underlying4 reads hg⟩

theorem over : Rows.spanOfsRow.holds Try.pinned (OpenSpec.ofChange Rows.spanOfsSpec) :=
  OpenClaim.holds_of_wide 4 Try.f4 rfl rfl rfl rfl rfl rfl rfl ⟨rfl, rfl, rfl, rfl, rfl⟩ rfl rfl rfl rfl rfl (by kernel_rfl) Try.func4 (by kernel_rfl)
    (of_decide_eq_true (by kernel_rfl)) (by unfold Func.isWrapper; first | (rw [if_pos (by decide +kernel)]; kernel_rfl) | (rw [if_neg (by decide +kernel)]; exact ⟨rfl, rfl⟩))
    (fun os started H enc _ => lifted os started H enc)

/-- The statement. -/
theorem proved : Rows.SpanOfsSaid :=
  over

end Go.Proofs.Ytnnmcnbpnfegpaa.spanOfs
