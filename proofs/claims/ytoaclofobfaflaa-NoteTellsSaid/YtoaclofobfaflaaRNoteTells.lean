/-
  NoteTells walked from note's contracts.
  For every note and number, the law NoteTells returns true and leaves its arguments as they were. No condition.
-/
import Derived.Test.YtoaclofobfaflaaG19
import Derived.Test.YtoaclofobfaflaaRows
import Derived.Test.YtoaclofobfaflaaG20
import Derived.OpenShut
import Derived.WalkKit
import Derived.ProofKit
import Derived.SizedLaws
namespace Go.Proofs.Ytoaclofobfaflaa
open Go.RowKit

set_option maxRecDepth 100000 in
set_option maxHeartbeats 1600000 in
theorem lawTells_any (SP : NoteSpec) (S E B V : Option Addr) (cs ce cb cv : Nat) (n : Note) (o : Int) (w : World) (h1 : NoteAt w S E B V cs ce cb cv n) :
    Calls Try.prog 5 #[.agg (noteCells S E B V cs ce cb cv n), .int .i64 o] w (Says (.bool true) w) := by
  have N0 := Lib.hid (fun wx => nalive_any SP wx)
  have b0 := below_new (Below.refl w.heap.size w) (.cells (noteCells S E B V cs ce cb cv n) 26)
  have HB := Lib.hid (Blk.new w 26 (noteCells S E B V cs ce cb cv n))
  obtain ⟨c0, c1, c2, c3⟩ := note_cells HB.out
  obtain ⟨⟨x, sh, er⟩, hx⟩ : ∃ r, Nt.told n o = r := ⟨_, rfl⟩
  have n1 := fun wx hN => SP.told S E B V cs ce cb cv n o wx hN
  have n2 := fun wx hN => ntold_any S E B V cs ce cb cv n o wx hN
  rw [hx] at n1 n2
  have N1 := Lib.hid (fun wx (hN : NoteAt wx S E B V cs ce cb cv n) => (show Calls Try.prog 23 #[.agg (noteCells S E B V cs ce cb cv n), .int .i64 o] wx (Says (.tuple #[.agg #[.int .i64 x.1, .int .i64 x.2.1, .int .i64 x.2.2.1, .bool x.2.2.2], .bool sh, .int .i64 er]) wx) from n1 wx hN))
  have N2 := Lib.hid (fun wx (hN : NoteAt wx S E B V cs ce cb cv n) => (show Calls Try.prog 24 #[.agg (noteCells S E B V cs ce cb cv n), .int .i64 o] wx (Says (.tuple #[.agg #[.int .i64 x.1, .int .i64 x.2.1, .int .i64 x.2.2.1, .bool x.2.2.2], .bool sh, .int .i64 er]) wx) from n2 wx hN))
  have HN := Lib.hid (h1.later b0)
  clear h1 n1 n2 hx
  go_enter Try.func5, Try.ntmps5
  go_wp2_with fail
  refine (N0.out _).mono ?_
  rintro e w1 ⟨rfl, b1⟩
  have d0 := cell_later b1 c0
  have d1 := cell_later b1 c1
  have d2 := cell_later b1 c2
  have d3 := cell_later b1 c3
  go_wp2_with fail
  refine (N1.out _ (HN.out.later b1)).mono ?_
  rintro e w2 ⟨rfl, b2⟩
  have bA := below_new (below_on b1 b2) (.cells #[.int .i64 x.1, .int .i64 x.2.1, .int .i64 x.2.2.1, .bool x.2.2.2] 35)
  have e0 := cell_later bA c0
  have e1 := cell_later bA c1
  have e2 := cell_later bA c2
  have e3 := cell_later bA c3
  have hX := Blk.new w2 35 (Nt.wrArr x)
  clear d0 d1 d2 d3
  go_wp2_with fail
  refine (N2.out _ (HN.out.later bA)).mono ?_
  rintro e w3 ⟨rfl, b3⟩
  have hY := Blk.new w3 35 (Nt.wrArr x)
  have hX2 := (hX.later b3).alloc (.cells #[.int .i64 x.1, .int .i64 x.2.1, .int .i64 x.2.2.1, .bool x.2.2.2] 35)
  obtain ⟨⟨m0, m1, m2, m3⟩, t0, t1, t2, t3⟩ := wr_cells hX2
  obtain ⟨⟨l0, l1, l2, l3⟩, v0, v1, v2, v3⟩ := wr_cells hY
  have bB := below_new (below_on bA b3) (.cells #[.int .i64 x.1, .int .i64 x.2.1, .int .i64 x.2.2.1, .bool x.2.2.2] 35)
  clear hX hX2 hY
  go_wp2
  go_ret
  exact ⟨rfl, below_on b0 bB⟩

end Go.Proofs.Ytoaclofobfaflaa
namespace Go.Proofs.Ytoaclofobfaflaa.noteTells
open Go.ChangeShapes Go.WideShapes Go.ChangeAt Go.RowKit

theorem cellsStamp : Try.prog.cellsOf 33 = 2 := by kernel_rfl
theorem bytesStamp : Try.prog.bytesOf 33 = 16 := by kernel_rfl
theorem cellsSpan : Try.prog.cellsOf 50 = 2 := by kernel_rfl
theorem bytesSpan : Try.prog.bytesOf 50 = 16 := by kernel_rfl
theorem cellsWrite : Try.prog.cellsOf 35 = 4 := by kernel_rfl
theorem bytesWrite : Try.prog.bytesOf 35 = 32 := by kernel_rfl
theorem stampE {H : Type} {enc : TypeId × Value → H} {w : World} (fuel : Nat) (cs : List Value) (x : DataW H × List MemPlace) (h : DataW.trod enc Try.prog w 0 (fun _ => true) true fuel 33 cs = some x) : ∃ a, cs = stCell a := by
  obtain ⟨c, n, rfl, _⟩ := stamp_cells Try.underlying33 (by kernel_rfl) (by kernel_rfl) rfl rfl Try.underlying3 h
  exact ⟨(c, n), rfl⟩
theorem spanE {H : Type} {enc : TypeId × Value → H} {w : World} (fuel : Nat) (cs : List Value) (x : DataW H × List MemPlace) (h : DataW.trod enc Try.prog w 0 (fun _ => true) true fuel 50 cs = some x) : ∃ a, cs = stCell a := by
  obtain ⟨c, n, rfl, _⟩ := stamp_cells Try.underlying50 (by kernel_rfl) (by kernel_rfl) rfl rfl Try.underlying3 h
  exact ⟨(c, n), rfl⟩
theorem writeE {H : Type} {enc : TypeId × Value → H} {w : World} (fuel : Nat) (cs : List Value) (x : DataW H × List MemPlace) (h : DataW.trod enc Try.prog w 0 (fun _ => true) true fuel 35 cs = some x) : ∃ a, cs = Nt.wrCell a :=
  write_cells Try.underlying35 (by kernel_rfl) (by kernel_rfl) rfl (by kernel_rfl) rfl (by kernel_rfl) rfl Try.underlying33 (by kernel_rfl) rfl rfl Try.underlying3 Try.underlying3 Try.underlying4 h
theorem own : ownKnob Try.prog.godebug = none := by kernel_rfl
theorem laidOut : laidOutB Try.prog = true := by kernel_rfl
theorem reads : ∀ t ∈ Try.f5.params.toList, Try.prog.readableRec t = true ∧ t < Try.prog.types.size := by
  intro t ht
  rw [Try.params5] at ht
  have : t = 26 ∨ t = 3 := by simpa using ht
  rcases this with rfl | rfl <;> exact ⟨by kernel_rfl, of_decide_eq_true (by kernel_rfl)⟩

set_option maxRecDepth 100000 in
theorem lifted (os : Os) (started : os.Started) (H : Type) (enc : TypeId × Value → H) :
    ReturnsInHanded {} Try.checked os 5 .any (Rows.noteTellsSpec.pre6 enc Try.prog Try.f5 Rows.noteTellsRow.domain false) (Rows.noteTellsSpec.post enc Try.prog Try.f5 false true false false) := by
  refine returnsInHanded_of_change (C := Try.checked) own started (by kernel_rfl) Try.func5
    (ChangeSpec.witness6 (enc := enc) (C := Try.checked) false ⟨#[], #[.agg #[.slice none 0 0, .slice none 0 0, .slice none 0 0, .slice none 0 0], .int .i64 0], []⟩ 8 (by kernel_rfl) (by kernel_rfl) (by kernel_rfl) (by kernel_rfl)) ?_
  intro W base args ds gs before hval0 hW _ _
  have hval : ∀ (j : Nat) t v, Try.f5.params[j]? = some t → args[j]? = some v → Value.okWide Try.prog W .any base t v := hval0
  have hW' := hW
  obtain ⟨p, q, hA0, hV, rfl, hfz, hnd⟩ := hW
  have hA : DataW.TrodAll enc Try.prog W 0 (fun _ => true) true Try.f5.params.toList args.toList ds p := hA0
  rw [Try.params5] at hA hval
  obtain ⟨v0, vs0, d0, ds0, p0, q0, hargs, rfl, rfl, h0, r0⟩ := trodAll_cons hA
  obtain ⟨v1, vs1, d1, ds1, p1, q1, rfl, rfl, rfl, h1, r1⟩ := trodAll_cons r0
  obtain ⟨rfl, rfl, rfl⟩ := trodAll_nil r1
  obtain rfl : args = #[v0, v1] := by cases args; simp_all
  obtain ⟨rfl, rfl⟩ := trodVars_none hV
  obtain ⟨S0, E0, B0, V0, cs0, ce0, cb0, cv0, n0, rfl, o0, x00, x01, x02, x03, rfl, m00, m01, m02, m03⟩ := open_note Try.underlying26 (by kernel_rfl) (by kernel_rfl) Try.underlying22 Try.underlying22 Try.underlying23 Try.underlying24 (by kernel_rfl) (by kernel_rfl) (by kernel_rfl) stampE spanE writeE (hval 0 26 v0 rfl rfl) h0
  obtain ⟨a1, rfl, rfl, rfl, w1⟩ := open_int Try.underlying3 (hval 1 3 v1 rfl rfl) h1
  clear hA0 hval0
  refine (lawTells_any noteSpec S0 E0 B0 V0 cs0 ce0 cb0 cv0 n0 a1 W o0).mono fun e W' ⟨he, hg⟩ => ?_
  subst he
  exact ⟨_, rfl, law_post laidOut hW' rfl rfl (by kernel_rfl) Try.underlying4 reads hg⟩

theorem over : Rows.noteTellsRow.holds Try.pinned (OpenSpec.ofChange Rows.noteTellsSpec) :=
  OpenClaim.holds_of_wide 5 Try.f5 rfl rfl rfl rfl rfl rfl rfl ⟨rfl, rfl, rfl, rfl, rfl⟩ rfl rfl rfl rfl rfl (by kernel_rfl) Try.func5 (by kernel_rfl)
    (of_decide_eq_true (by kernel_rfl)) (by unfold Func.isWrapper; first | (rw [if_pos (by decide +kernel)]; kernel_rfl) | (rw [if_neg (by decide +kernel)]; exact ⟨rfl, rfl⟩))
    (fun os started H enc _ => lifted os started H enc)

/-- The statement. -/
theorem proved : Rows.NoteTellsSaid :=
  over

end Go.Proofs.Ytoaclofobfaflaa.noteTells
