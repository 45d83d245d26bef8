/-
  For any list of writes and any list of spans, the law ShelfWithins returns true and leaves its arguments as they were. No condition.
-/
import Derived.Test.YtbpgofgdlikedaaRows
import Derived.Test.YtbpgofgdlikedaaG19
import Derived.Test.YtbpgofgdlikedaaG09
import Derived.Test.YtbpgofgdlikedaaG01
import Derived.OpenShut
import Derived.WalkKit
import Derived.ProofKit
import Derived.SizedLaws
namespace Go.Proofs.Ytbpgofgdlikedaa.shelfWithins
open Go.ChangeShapes Go.WideShapes Go.ChangeAt Go.RowKit

theorem cellsWrite : Try.prog.cellsOf 27 = 4 := by kernel_rfl
theorem bytesWrite : Try.prog.bytesOf 27 = 32 := by kernel_rfl
theorem cellsSpan : Try.prog.cellsOf 66 = 2 := by kernel_rfl
theorem writeE {H : Type} {enc : TypeId × Value → H} {w : World} (fuel : Nat) (cs : List Value) (x : DataW H × List MemPlace) (h : DataW.trod enc Try.prog w 0 (fun _ => true) true fuel 27 cs = some x) : ∃ a, cs = Nt.wrCell a :=
  write_cells Try.underlying27 (by kernel_rfl) (by kernel_rfl) rfl (by kernel_rfl) rfl (by kernel_rfl) rfl Try.underlying25 (by kernel_rfl) rfl rfl Try.underlying3 Try.underlying3 Try.underlying4 h
theorem own : ownKnob Try.prog.godebug = none := by kernel_rfl
theorem laidOut : laidOutB Try.prog = true := by kernel_rfl
theorem reads : ∀ t ∈ Try.f5.params.toList, Try.prog.readableRec t = true ∧ t < Try.prog.types.size := by
  intro t ht
  rw [Try.params5] at ht
  have : t = 22 ∨ t = 37 := by simpa using ht
  rcases this with rfl | rfl <;> exact ⟨by kernel_rfl, of_decide_eq_true (by kernel_rfl)⟩

set_option maxRecDepth 100000 in
theorem lifted (os : Os) (started : os.Started) (H : Type) (enc : TypeId × Value → H) :
    ReturnsInHanded {} Try.checked os 5 .any (Rows.shelfWithinsSpec.pre6 enc Try.prog Try.f5 Rows.shelfWithinsRow.domain false) (Rows.shelfWithinsSpec.post enc Try.prog Try.f5 false true false false) := by
  refine returnsInHanded_of_change (C := Try.checked) own started (by kernel_rfl) Try.func5
    (ChangeSpec.witness6 (enc := enc) (C := Try.checked) false ⟨#[], #[.slice none 0 0, .slice none 0 0], []⟩ 8 (by kernel_rfl) (by kernel_rfl) (by kernel_rfl) (by kernel_rfl)) ?_
  intro W base args ds gs before hval0 hW _ _
  have hval : ∀ (j : Nat) t v, Try.f5.params[j]? = some t → args[j]? = some v → Value.okWide Try.prog W .any base t v := hval0
  have hW' := hW
  obtain ⟨p, q, hA0, hV, rfl, hfz, hnd⟩ := hW
  have hA : DataW.TrodAll enc Try.prog W 0 (fun _ => true) true Try.f5.params.toList args.toList ds p := hA0
  rw [Try.params5] at hA hval
  obtain ⟨v0, vs0, d0, ds0, p0, q0, hargs, rfl, rfl, h0, r0⟩ := trodAll_cons hA
  obtain ⟨v1, vs1, d1, ds1, p1, q1, rfl, rfl, rfl, h1, r1⟩ := trodAll_cons r0
  obtain ⟨rfl, rfl, rfl⟩ := trodAll_nil r1
  obtain rfl : args = #[v0, v1] := by cases args; simp_all
  obtain ⟨rfl, rfl⟩ := trodVars_none hV
  obtain ⟨A0, cap0, l0, rfl, hc0, hm0, hn0, hl0, _, hd0⟩ := open_list Nt.zeroW Nt.wrCell (fun _ => True) (size := 4) (fun _ => rfl) Try.underlying22 cellsWrite (by decide) (fun fuel cs x hx => (writeE fuel cs x hx).elim fun a ha => ⟨a, ha, trivial⟩) (hval 0 22 v0 rfl rfl) h0
  have o0 : OneW W A0 cap0 l0 := ⟨hc0, hm0, hn0, hl0⟩
  obtain ⟨A1, cap1, l1, rfl, hc1, hm1, hn1, hl1, _, hd1⟩ := open_stamps Try.underlying37 Try.underlying66 (by kernel_rfl) cellsSpan rfl rfl Try.underlying3 (hval 1 37 v1 rfl rfl) h1
  have o1 : OneL W A1 cap1 l1 := ⟨hc1, hm1, hn1, hl1⟩
  clear hA0 hval0
  refine (lawSfWithins_any shelfSpec A0 A1 cap0 cap1 l0 l1 W o0 o1).mono fun e W' ⟨he, hg⟩ => ?_
  subst he
  exact ⟨_, rfl, law_post laidOut hW' rfl rfl (by kernel_rfl) Try.underlying4 reads hg⟩

theorem over : Rows.shelfWithinsRow.holds Try.pinned (OpenSpec.ofChange Rows.shelfWithinsSpec) :=
  OpenClaim.holds_of_wide 5 Try.f5 rfl rfl rfl rfl rfl rfl rfl ⟨rfl, rfl, rfl, rfl, rfl⟩ rfl rfl rfl rfl rfl (by kernel_rfl) Try.func5 (by kernel_rfl)
    (of_decide_eq_true (by kernel_rfl)) (by unfold Func.isWrapper; first | (rw [if_pos (by decide +kernel)]; kernel_rfl) | (rw [if_neg (by decide +kernel)]; exact ⟨rfl, rfl⟩))
    (fun os started H enc _ => lifted os started H enc)

/-- The statement. -/
theorem proved : Rows.ShelfWithinsSaid :=
  over

end Go.Proofs.Ytbpgofgdlikedaa.shelfWithins
