/-
  For any three lists of stamps, the law VectorLattice returns true and leaves its arguments as they were. No condition.
-/
import Derived.Test.YtjdiopoikppifaaRows
import Derived.Test.YtjdiopoikppifaaVecLawLattice
import Derived.Test.YtjdiopoikppifaaVecHolds
import Derived.Test.YtjdiopoikppifaaOpenMany
import Derived.OpenShut
import Derived.WalkKit
import Derived.ProofKit
import Derived.SizedLaws
namespace Go.Proofs.Ytjdiopoikppifaa.vectorLattice
open Go.ChangeShapes Go.WideShapes Go.ChangeAt Go.RowKit

theorem cells : Try.prog.cellsOf 24 = 2 := by kernel_rfl
theorem bytes : Try.prog.bytesOf 24 = 16 := by kernel_rfl
theorem own : ownKnob Try.prog.godebug = none := by kernel_rfl
theorem laidOut : laidOutB Try.prog = true := by kernel_rfl
theorem reads : ∀ t ∈ Try.f8.params.toList, Try.prog.readableRec t = true ∧ t < Try.prog.types.size := by
  intro t ht
  rw [Try.params8] at ht
  obtain rfl : t = 22 := by simpa using ht
  exact ⟨by kernel_rfl, of_decide_eq_true (by kernel_rfl)⟩

set_option maxRecDepth 100000 in
theorem lifted (os : Os) (started : os.Started) (H : Type) (enc : TypeId × Value → H) :
    ReturnsInHanded {} Try.checked os 8 .any (Rows.vectorLatticeSpec.pre6 enc Try.prog Try.f8 Rows.vectorLatticeRow.domain false) (Rows.vectorLatticeSpec.post enc Try.prog Try.f8 false true false false) := by
  refine returnsInHanded_of_change (C := Try.checked) own started (by kernel_rfl) Try.func8
    (ChangeSpec.witness6 (enc := enc) (C := Try.checked) false ⟨#[], #[.slice none 0 0, .slice none 0 0, .slice none 0 0], []⟩ 8 (by kernel_rfl) (by kernel_rfl) (by kernel_rfl) (by kernel_rfl)) ?_
  intro W base args ds gs before hval0 hW _ _
  have hval : ∀ (j : Nat) t v, Try.f8.params[j]? = some t → args[j]? = some v → Value.okWide Try.prog W .any base t v := hval0
  have hW' := hW
  obtain ⟨p, q, hA0, hV, rfl, hfz, hnd⟩ := hW
  have hA : DataW.TrodAll enc Try.prog W 0 (fun _ => true) true Try.f8.params.toList args.toList ds p := hA0
  rw [Try.params8] at hA hval
  obtain ⟨v0, vs0, d0, ds0, p0, q0, hargs, rfl, rfl, h0, r0⟩ := trodAll_cons hA
  obtain ⟨v1, vs1, d1, ds1, p1, q1, rfl, rfl, rfl, h1, r1⟩ := trodAll_cons r0
  obtain ⟨v2, vs2, d2, ds2, p2, q2, rfl, rfl, rfl, h2, r2⟩ := trodAll_cons r1
  obtain ⟨rfl, rfl, rfl⟩ := trodAll_nil r2
  obtain rfl : args = #[v0, v1, v2] := by cases args; simp_all
  obtain ⟨rfl, rfl⟩ := trodVars_none hV
  obtain ⟨A0, cap0, l0, rfl, hc0, hm0, hn0, hl0, _, hd0⟩ := open_stamps Try.underlying22 Try.underlying24 (by kernel_rfl) cells rfl rfl Try.underlying3 (hval 0 22 v0 rfl rfl) h0
  have o0 : OneL W A0 cap0 l0 := ⟨hc0, hm0, hn0, hl0⟩
  obtain ⟨A1, cap1, l1, rfl, hc1, hm1, hn1, hl1, _, hd1⟩ := open_stamps Try.underlying22 Try.underlying24 (by kernel_rfl) cells rfl rfl Try.underlying3 (hval 1 22 v1 rfl rfl) h1
  have o1 : OneL W A1 cap1 l1 := ⟨hc1, hm1, hn1, hl1⟩
  obtain ⟨A2, cap2, l2, rfl, hc2, hm2, hn2, hl2, _, hd2⟩ := open_stamps Try.underlying22 Try.underlying24 (by kernel_rfl) cells rfl rfl Try.underlying3 (hval 2 22 v2 rfl rfl) h2
  have o2 : OneL W A2 cap2 l2 := ⟨hc2, hm2, hn2, hl2⟩
  clear hA0 hval0
  refine (lawLattice_any vecSpec A0 A1 A2 cap0 cap1 cap2 l0 l1 l2 W o0 o1 o2).mono fun e W' ⟨he, hg⟩ => ?_
  subst he
  exact ⟨_, rfl, law_post laidOut hW' rfl rfl (by kernel_rfl) Try.underlying4 reads hg⟩

theorem over : Rows.vectorLatticeRow.holds Try.pinned (OpenSpec.ofChange Rows.vectorLatticeSpec) :=
  OpenClaim.holds_of_wide 8 Try.f8 rfl rfl rfl rfl rfl rfl rfl ⟨rfl, rfl, rfl, rfl, rfl⟩ rfl rfl rfl rfl rfl (by kernel_rfl) Try.func8 (by kernel_rfl)
    (of_decide_eq_true (by kernel_rfl)) (by unfold Func.isWrapper; first | (rw [if_pos (by decide +kernel)]; kernel_rfl) | (rw [if_neg (by decide +kernel)]; exact ⟨rfl, rfl⟩))
    (fun os started H enc _ => lifted os started H enc)

/-- The statement. -/
theorem proved : Rows.VectorLatticeSaid :=
  over

end Go.Proofs.Ytjdiopoikppifaa.vectorLattice
