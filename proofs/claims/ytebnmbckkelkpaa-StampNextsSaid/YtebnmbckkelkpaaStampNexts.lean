/-
  For every count, node and skip, the law StampNexts returns true and leaves its arguments as they were: the next stamp, or its error, is the document's. No condition.
-/
import Derived.Test.YtebnmbckkelkpaaRows
import Derived.Test.YtebnmbckkelkpaaLaw
import Derived.Test.YtebnmbckkelkpaaStampNext
import Derived.OpenShut
import Derived.WalkKit
import Derived.ProofKit
namespace Go.Proofs.Ytebnmbckkelkpaa.stampNexts
open Go.ChangeShapes Go.WideShapes Go.ChangeAt Go.RowKit

theorem own : ownKnob Try.prog.godebug = none := by kernel_rfl
theorem laidOut : laidOutB Try.prog = true := by kernel_rfl
theorem reads : ∀ t ∈ Try.f4.params.toList, Try.prog.readableRec t = true ∧ t < Try.prog.types.size := by
  intro t ht
  rw [Try.params4] at ht
  obtain rfl : t = 3 := by simpa using ht
  exact ⟨by kernel_rfl, of_decide_eq_true (by kernel_rfl)⟩

theorem below_cells {W w1 : World} (hb : Below W.heap.size W w1) : (∀ b o, b < W.heap.size → w1.cell? ⟨b, o, none⟩ = W.cell? ⟨b, o, none⟩) ∧ (∀ b o, b < W.heap.size → w1.frozen? ⟨b, o, none⟩ = W.frozen? ⟨b, o, none⟩) :=
  ⟨fun b o h => hb.cell (p := ⟨b, o, none⟩) h, fun b o h => hb.frozen (p := ⟨b, o, none⟩) h⟩

theorem walk (a0 a1 a2 : Int) (_w0 : a0 ≤ 9223372036854775807) (w : World) :
    Calls Try.prog 4 #[.int .i64 a0, .int .i64 a1, .int .i64 a2] w fun e w' => e = .returned (.bool true) ∧ Below w.heap.size w w' := by
  have h8 : St.nextC 7 2 0 = 8 := by decide +kernel
  have h2 : St.nextN 7 2 0 = 2 := by decide +kernel
  have h0 : St.nextE 7 2 0 = 0 := by decide +kernel
  have H8 := Lib.hid h8; clear h8
  have H2 := Lib.hid h2; clear h2
  have H0 := Lib.hid h0; clear h0
  go_enter Try.func4, Try.ntmps4
  go_wp2_with fail
  refine (next_any _ _ _ _ (by assumption)).mono ?_
  rintro e w1 ⟨rfl, hb1⟩
  go_wp2_with fail
  refine (rnext_any _ _ _ _ (by assumption)).mono ?_
  rintro e w2 ⟨rfl, hb2⟩
  have k0 : w2.cell? ⟨w1.heap.size, 0, none⟩ = some (.int .i64 (St.nextC a0 a1 a2)) := by rw [hb2.cell (by simp)]; simp
  have k1 : w2.cell? ⟨w1.heap.size, 1, none⟩ = some (.int .i64 (St.nextN a0 a1 a2)) := by rw [hb2.cell (by simp)]; simp
  have z2 : w1.heap.size < w2.heap.size := by have := hb2.size; simp at this; omega
  go_wp2_with fail
  refine (next_any _ _ _ _ (by decide)).mono ?_
  rintro e w3 ⟨rfl, hb3⟩
  rw [H8.out, H2.out, H0.out]
  have l0 : w3.cell? ⟨w1.heap.size, 0, none⟩ = some (.int .i64 (St.nextC a0 a1 a2)) := by rw [hb3.cell (by simp; omega)]; exact (World.cell?_alloc_lt _ _ _ z2).trans (by assumption)
  have l1 : w3.cell? ⟨w1.heap.size, 1, none⟩ = some (.int .i64 (St.nextN a0 a1 a2)) := by rw [hb3.cell (by simp; omega)]; exact (World.cell?_alloc_lt _ _ _ z2).trans (by assumption)
  have m0 : w3.cell? ⟨w2.heap.size, 0, none⟩ = some (.int .i64 (St.nextC a0 a1 a2)) := by rw [hb3.cell (by simp)]; simp
  have m1 : w3.cell? ⟨w2.heap.size, 1, none⟩ = some (.int .i64 (St.nextN a0 a1 a2)) := by rw [hb3.cell (by simp)]; simp
  have z3 : w2.heap.size < w3.heap.size := by have := hb3.size; simp at this; omega
  have z4 : w1.heap.size < w3.heap.size := by omega
  go_wp2
  go_ret
  refine ⟨rfl, ?_⟩
  have e1 := (Below.refl w.heap.size w).trans hb1
  have e2 := (e1.alloc (by have := hb1.size; omega) (.cells #[.int .i64 (St.nextC a0 a1 a2), .int .i64 (St.nextN a0 a1 a2)] 23)).trans (hb2.mono (by have := hb1.size; simp; omega))
  have e3 := (e2.alloc (by have := hb1.size; omega) (.cells #[.int .i64 (St.nextC a0 a1 a2), .int .i64 (St.nextN a0 a1 a2)] 23)).trans (hb3.mono (by have := hb1.size; simp; omega))
  exact e3.alloc (by have := hb1.size; omega) _

set_option maxRecDepth 100000 in
theorem lifted (os : Os) (started : os.Started) (H : Type) (enc : TypeId × Value → H) :
    ReturnsInHanded {} Try.checked os 4 .any (Rows.stampNextsSpec.pre6 enc Try.prog Try.f4 Rows.stampNextsRow.domain false) (Rows.stampNextsSpec.post enc Try.prog Try.f4 false true false false) := by
  refine returnsInHanded_of_change (C := Try.checked) own started (by kernel_rfl) Try.func4
    (ChangeSpec.witness6 (enc := enc) (C := Try.checked) false ⟨#[], #[.int .i64 0, .int .i64 0, .int .i64 0], []⟩ 8 (by kernel_rfl) (by kernel_rfl) (by kernel_rfl) (by kernel_rfl)) ?_
  intro W base args ds gs before hval0 hW _ _
  have hval : ∀ (j : Nat) t v, Try.f4.params[j]? = some t → args[j]? = some v → Value.okWide Try.prog W .any base t v := hval0
  have hW' := hW
  obtain ⟨p, q, hA0, hV, rfl, hfz, hnd⟩ := hW
  have hA : DataW.TrodAll enc Try.prog W 0 (fun _ => true) true Try.f4.params.toList args.toList ds p := hA0
  rw [Try.params4] at hA hval
  obtain ⟨v0, vs0, d0, ds0, p0, q0, hargs, rfl, rfl, h0, r0⟩ := trodAll_cons hA
  obtain ⟨v1, vs1, d1, ds1, p1, q1, rfl, rfl, rfl, h1, r1⟩ := trodAll_cons r0
  obtain ⟨v2, vs2, d2, ds2, p2, q2, rfl, rfl, rfl, h2, r2⟩ := trodAll_cons r1
  obtain ⟨rfl, rfl, rfl⟩ := trodAll_nil r2
  obtain rfl : args = #[v0, v1, v2] := by cases args; simp_all
  obtain ⟨rfl, rfl⟩ := trodVars_none hV
  obtain ⟨a0, rfl, rfl, rfl, w0⟩ := open_int Try.underlying3 (hval 0 3 v0 rfl rfl) h0
  obtain ⟨a1, rfl, rfl, rfl, w1⟩ := open_int Try.underlying3 (hval 1 3 v1 rfl rfl) h1
  obtain ⟨a2, rfl, rfl, rfl, w2⟩ := open_int Try.underlying3 (hval 2 3 v2 rfl rfl) h2
  clear hA0 hval0
  refine (walk a0 a1 a2 (bounds_i64 w0).2 W).mono fun e W' ⟨he, hg⟩ => ?_
  subst he
  exact ⟨_, rfl, law_post laidOut hW' rfl rfl (by kernel_rfl) Try.underlying4 reads hg⟩

theorem over : Rows.stampNextsRow.holds Try.pinned (OpenSpec.ofChange Rows.stampNextsSpec) :=
  OpenClaim.holds_of_wide 4 Try.f4 rfl rfl rfl rfl rfl rfl rfl ⟨rfl, rfl, rfl, rfl, rfl⟩ rfl rfl rfl rfl rfl (by kernel_rfl) Try.func4 (by kernel_rfl)
    (of_decide_eq_true (by kernel_rfl)) (by unfold Func.isWrapper; first | (rw [if_pos (by decide +kernel)]; kernel_rfl) | (rw [if_neg (by decide +kernel)]; exact ⟨rfl, rfl⟩))
    (fun os started H enc _ => lifted os started H enc)

/-- The statement. -/
theorem proved : Rows.StampNextsSaid :=
  over

end Go.Proofs.Ytebnmbckkelkpaa.stampNexts
