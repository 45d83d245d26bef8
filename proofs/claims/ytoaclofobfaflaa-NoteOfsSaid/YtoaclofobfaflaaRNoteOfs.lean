/-
  NoteOfs walked from note's contracts.
  For every list of stamps and write, the law NoteOfs returns true and leaves its arguments as they were. No condition.
-/
import Derived.Test.YtoaclofobfaflaaG19
import Derived.Test.YtoaclofobfaflaaRows
import Derived.Test.YtoaclofobfaflaaG20
import Derived.OpenShut
import Derived.WalkKit
import Derived.ProofKit
import Derived.SizedLaws
namespace Go.Proofs.Ytoaclofobfaflaa
open Go.RowKit

set_option maxRecDepth 100000 in
set_option maxHeartbeats 3200000 in
theorem lawNOfs_any (SP : NoteSpec) (A : Option Addr) (c : Nat) (l : List (Int × Int)) (y : Wr) (w : World) (hl : l.length * 16 ≤ 140737488355328) (h1 : OneL w A c l) :
    Calls Try.prog 4 #[.slice A l.length c, .agg #[.int .i64 y.1, .int .i64 y.2.1, .int .i64 y.2.2.1, .bool y.2.2.2]] w (Says (.bool true) w) := by
  have N0 := Lib.hid (fun wx => nalive_any SP wx)
  have b0 := below_new (Below.refl w.heap.size w) (.cells #[.int .i64 y.1, .int .i64 y.2.1, .int .i64 y.2.2.1, .bool y.2.2.2] 35)
  have HB := Lib.hid (Blk.new w 35 (Nt.wrArr y))
  obtain ⟨⟨c0, c1, c2, c3⟩, _⟩ := wr_cells HB.out
  have HL := Lib.hid (h1.later b0)
  obtain ⟨⟨M, er⟩, hM⟩ : ∃ r, ofN l y = r := ⟨_, rfl⟩
  have n2 := fun B d wx (hx : OneL wx B d l) => SP.of_ B d l y wx hl hx
  have n3 := fun wx (hx : OneL wx A c l) => nof_any A c l y wx hl hx
  rw [hM] at n2 n3
  have N1 := Lib.hid (fun wx (hx : OneL wx A c l) => (rcopy_any A c l wx hl hx.2.2.1 hx.2.2.2).mono fun _ _ hg => hg.one)
  have N2 := Lib.hid (fun B d wx (hx : OneL wx B d l) => (show Calls Try.prog 20 #[.slice B l.length d, .agg #[.int .i64 y.1, .int .i64 y.2.1, .int .i64 y.2.2.1, .bool y.2.2.2]] wx (AnsNE M er wx) from n2 B d wx hx))
  have N3 := Lib.hid (fun wx (hx : OneL wx A c l) => (show Calls Try.prog 21 #[.slice A l.length c, .agg #[.int .i64 y.1, .int .i64 y.2.1, .int .i64 y.2.2.1, .bool y.2.2.2]] wx (AnsNE M er wx) from n3 wx hx))
  clear h1 n2 n3 hM
  go_enter Try.func4, Try.ntmps4
  go_wp2_with fail
  refine (N0.out _).mono ?_
  rintro e w1 ⟨rfl, b1⟩
  have hL1 := HL.out.later b1
  go_wp2_with fail
  refine (N1.out _ hL1).mono ?_
  rintro e w2 ⟨B, d, rfl, hO, b2⟩
  have bb2 := below_on b1 b2
  have d0 := cell_later bb2 c0
  have d1 := cell_later bb2 c1
  have d2 := cell_later bb2 c2
  have d3 := cell_later bb2 c3
  go_wp2_with fail
  refine (N2.out _ _ _ hO).mono ?_
  rintro e w3 ⟨A1, A2, A3, A4, k1, k2, k3, k4, rfl, hN, b3⟩
  rw [show noteCells A1 A2 A3 A4 k1 k2 k3 k4 M = #[.slice A1 M.s.length k1, .slice A2 M.e.length k2, .slice A3 M.b.length k3, .slice A4 M.ws.length k4] from rfl]
  have bA := below_new b3 (.cells #[.slice A1 M.s.length k1, .slice A2 M.e.length k2, .slice A3 M.b.length k3, .slice A4 M.ws.length k4] 26)
  have hX := Blk.new w3 26 #[.slice A1 M.s.length k1, .slice A2 M.e.length k2, .slice A3 M.b.length k3, .slice A4 M.ws.length k4]
  have hNX := hN.later (below_new (Below.refl _ _) (.cells #[.slice A1 M.s.length k1, .slice A2 M.e.length k2, .slice A3 M.b.length k3, .slice A4 M.ws.length k4] 26))
  have bb3 := below_on bb2 bA
  have e0 := cell_later bb3 c0
  have e1 := cell_later bb3 c1
  have e2 := cell_later bb3 c2
  have e3 := cell_later bb3 c3
  clear d0 d1 d2 d3
  go_wp2_with fail
  refine (N3.out _ (HL.out.later bb3)).mono ?_
  rintro e w4 ⟨B1, B2, B3, B4, l1, l2, l3, l4, rfl, hN', b4⟩
  rw [show noteCells B1 B2 B3 B4 l1 l2 l3 l4 M = #[.slice B1 M.s.length l1, .slice B2 M.e.length l2, .slice B3 M.b.length l3, .slice B4 M.ws.length l4] from rfl]
  have bB := below_new b4 (.cells #[.slice B1 M.s.length l1, .slice B2 M.e.length l2, .slice B3 M.b.length l3, .slice B4 M.ws.length l4] 26)
  have hY := Blk.new w4 26 #[.slice B1 M.s.length l1, .slice B2 M.e.length l2, .slice B3 M.b.length l3, .slice B4 M.ws.length l4]
  have hX2 := (hX.later b4).alloc (.cells #[.slice B1 M.s.length l1, .slice B2 M.e.length l2, .slice B3 M.b.length l3, .slice B4 M.ws.length l4] 26)
  have bb4 := below_on bb3 bB
  obtain ⟨⟨m0, m1, m2, m3⟩, t0, t1, t2, t3⟩ := nt_cells hX2
  obtain ⟨⟨l0, l1', l2', l3'⟩, v0, v1, v2, v3⟩ := nt_cells hY
  have hN1 := hNX.later bB
  have hN2 := hN'.later (below_new (Below.refl _ _) (.cells #[.slice B1 M.s.length l1, .slice B2 M.e.length l2, .slice B3 M.b.length l3, .slice B4 M.ws.length l4] 26))
  have n4 := fun wx (hb : Below (w4.alloc (.cells #[.slice B1 M.s.length l1, .slice B2 M.e.length l2, .slice B3 M.b.length l3, .slice B4 M.ws.length l4] 26)).heap.size (w4.alloc (.cells #[.slice B1 M.s.length l1, .slice B2 M.e.length l2, .slice B3 M.b.length l3, .slice B4 M.ws.length l4] 26)) wx) => nsame_any A1 A2 A3 A4 B1 B2 B3 B4 k1 k2 k3 k4 l1 l2 l3 l4 M M wx (hN1.later hb) (hN2.later hb)
  rw [sameN_self] at n4
  have N4 := Lib.hid (fun wx hb => (show Calls Try.prog 18 #[.agg #[.slice A1 M.s.length k1, .slice A2 M.e.length k2, .slice A3 M.b.length k3, .slice A4 M.ws.length k4], .agg #[.slice B1 M.s.length l1, .slice B2 M.e.length l2, .slice B3 M.b.length l3, .slice B4 M.ws.length l4]] wx (Says (.bool true) wx) from n4 wx hb))
  have hO4 := hO.later (below_on bA bB)
  have hL4 := HL.out.later bb4
  have n5 := fun wx (hb : Below (w4.alloc (.cells #[.slice B1 M.s.length l1, .slice B2 M.e.length l2, .slice B3 M.b.length l3, .slice B4 M.ws.length l4] 26)).heap.size (w4.alloc (.cells #[.slice B1 M.s.length l1, .slice B2 M.e.length l2, .slice B3 M.b.length l3, .slice B4 M.ws.length l4] 26)) wx) => rsame_any B A d c l l wx hO4.len (hO4.later hb).stamps (hL4.later hb).stamps
  rw [decide_eq_true rfl] at n5
  have N5 := Lib.hid n5
  clear hX hX2 hY hNX hN hN' hN1 hN2 n4 n5 hO4 hL4 e0 e1 e2 e3 N0 N1 N2 N3
  go_wp2_with fail
  refine (N4.out _ (Below.refl _ _)).mono ?_
  rintro e w5 ⟨rfl, b5⟩
  go_wp2_with fail
  refine (N5.out _ b5).mono ?_
  rintro e w6 ⟨rfl, b6⟩
  go_wp2
  go_ret
  exact ⟨rfl, below_on b0 (below_on bb4 (below_on b5 b6))⟩

end Go.Proofs.Ytoaclofobfaflaa
namespace Go.Proofs.Ytoaclofobfaflaa.noteOfs
open Go.ChangeShapes Go.WideShapes Go.ChangeAt Go.RowKit

theorem cellsStamp : Try.prog.cellsOf 33 = 2 := by kernel_rfl
theorem bytesStamp : Try.prog.bytesOf 33 = 16 := by kernel_rfl
theorem cellsSpan : Try.prog.cellsOf 50 = 2 := by kernel_rfl
theorem bytesSpan : Try.prog.bytesOf 50 = 16 := by kernel_rfl
theorem cellsWrite : Try.prog.cellsOf 35 = 4 := by kernel_rfl
theorem bytesWrite : Try.prog.bytesOf 35 = 32 := by kernel_rfl
theorem stampE {H : Type} {enc : TypeId × Value → H} {w : World} (fuel : Nat) (cs : List Value) (x : DataW H × List MemPlace) (h : DataW.trod enc Try.prog w 0 (fun _ => true) true fuel 33 cs = some x) : ∃ a, cs = stCell a := by
  obtain ⟨c, n, rfl, _⟩ := stamp_cells Try.underlying33 (by kernel_rfl) (by kernel_rfl) rfl rfl Try.underlying3 h
  exact ⟨(c, n), rfl⟩
theorem spanE {H : Type} {enc : TypeId × Value → H} {w : World} (fuel : Nat) (cs : List Value) (x : DataW H × List MemPlace) (h : DataW.trod enc Try.prog w 0 (fun _ => true) true fuel 50 cs = some x) : ∃ a, cs = stCell a := by
  obtain ⟨c, n, rfl, _⟩ := stamp_cells Try.underlying50 (by kernel_rfl) (by kernel_rfl) rfl rfl Try.underlying3 h
  exact ⟨(c, n), rfl⟩
theorem writeE {H : Type} {enc : TypeId × Value → H} {w : World} (fuel : Nat) (cs : List Value) (x : DataW H × List MemPlace) (h : DataW.trod enc Try.prog w 0 (fun _ => true) true fuel 35 cs = some x) : ∃ a, cs = Nt.wrCell a :=
  write_cells Try.underlying35 (by kernel_rfl) (by kernel_rfl) rfl (by kernel_rfl) rfl (by kernel_rfl) rfl Try.underlying33 (by kernel_rfl) rfl rfl Try.underlying3 Try.underlying3 Try.underlying4 h
theorem own : ownKnob Try.prog.godebug = none := by kernel_rfl
theorem laidOut : laidOutB Try.prog = true := by kernel_rfl
theorem reads : ∀ t ∈ Try.f4.params.toList, Try.prog.readableRec t = true ∧ t < Try.prog.types.size := by
  intro t ht
  rw [Try.params4] at ht
  have : t = 22 ∨ t = 35 := by simpa using ht
  rcases this with rfl | rfl <;> exact ⟨by kernel_rfl, of_decide_eq_true (by kernel_rfl)⟩

set_option maxRecDepth 100000 in
theorem lifted (os : Os) (started : os.Started) (H : Type) (enc : TypeId × Value → H) :
    ReturnsInHanded {} Try.checked os 4 .any (Rows.noteOfsSpec.pre6 enc Try.prog Try.f4 Rows.noteOfsRow.domain false) (Rows.noteOfsSpec.post enc Try.prog Try.f4 false true false false) := by
  refine returnsInHanded_of_change_sized (C := Try.checked) own started (by kernel_rfl) Try.func4
    (ChangeSpec.witness6 (enc := enc) (C := Try.checked) false ⟨#[], #[.slice none 0 0, .agg #[.int .i64 0, .int .i64 0, .int .i64 0, .bool false]], []⟩ 8 (by kernel_rfl) (by kernel_rfl) (by kernel_rfl) (by kernel_rfl)) ?_
  intro W base args ds gs before hval0 hW _ hsz0 _
  have hval : ∀ (j : Nat) t v, Try.f4.params[j]? = some t → args[j]? = some v → Value.okWide Try.prog W .any base t v := hval0
  have hsz : (DataW.weightsEach Try.prog (Try.f4.params.toList ++ Rows.noteOfsSpec.plain.varTypes Try.prog) (ds ++ gs)).all (· ≤ reachBytes) = true := hsz0
  have hW' := hW
  obtain ⟨p, q, hA0, hV, rfl, hfz, hnd⟩ := hW
  have hA : DataW.TrodAll enc Try.prog W 0 (fun _ => true) true Try.f4.params.toList args.toList ds p := hA0
  rw [Try.params4] at hA hval hsz
  obtain ⟨v0, vs0, d0, ds0, p0, q0, hargs, rfl, rfl, h0, r0⟩ := trodAll_cons hA
  obtain ⟨v1, vs1, d1, ds1, p1, q1, rfl, rfl, rfl, h1, r1⟩ := trodAll_cons r0
  obtain ⟨rfl, rfl, rfl⟩ := trodAll_nil r1
  obtain rfl : args = #[v0, v1] := by cases args; simp_all
  obtain ⟨rfl, rfl⟩ := trodVars_none hV
  obtain ⟨A0, cap0, l0, rfl, hc0, hm0, hn0, hl0, _, hd0⟩ := open_stamps Try.underlying22 Try.underlying33 (by kernel_rfl) cellsStamp rfl rfl Try.underlying3 (hval 0 22 v0 rfl rfl) h0
  have o0 : OneL W A0 cap0 l0 := ⟨hc0, hm0, hn0, hl0⟩
  have z0 : l0.length * 16 ≤ 140737488355328 := by
    rcases hd0 with ⟨_, h, _⟩ | ⟨elems, spare, rfl, h1, h2⟩
    · omega
    · have := sized_slice hsz (j := 0) (t := 22) (e := 33) rfl rfl Try.underlying22
      rw [bytesStamp] at this
      simp only [reachBytes] at this
      omega
  obtain ⟨y1, rfl⟩ := open_write Try.underlying35 (by kernel_rfl) (by kernel_rfl) rfl (by kernel_rfl) rfl (by kernel_rfl) rfl Try.underlying33 (by kernel_rfl) rfl rfl Try.underlying3 Try.underlying3 Try.underlying4 (hval 1 35 v1 rfl rfl) h1
  clear hA0 hval0 hsz hsz0
  refine (lawNOfs_any noteSpec A0 cap0 l0 y1 W z0 o0).mono fun e W' ⟨he, hg⟩ => ?_
  subst he
  exact ⟨_, rfl, law_post laidOut hW' rfl rfl (by kernel_rfl) Try.underlying4 reads hg⟩

theorem over : Rows.noteOfsRow.holds Try.pinned (OpenSpec.ofChange Rows.noteOfsSpec) :=
  OpenClaim.holds_of_wide 4 Try.f4 rfl rfl rfl rfl rfl rfl rfl ⟨rfl, rfl, rfl, rfl, rfl⟩ rfl rfl rfl rfl rfl (by kernel_rfl) Try.func4 (by kernel_rfl)
    (of_decide_eq_true (by kernel_rfl)) (by unfold Func.isWrapper; first | (rw [if_pos (by decide +kernel)]; kernel_rfl) | (rw [if_neg (by decide +kernel)]; exact ⟨rfl, rfl⟩))
    (fun os started H enc _ => lifted os started H enc)

/-- The statement. -/
theorem proved : Rows.NoteOfsSaid :=
  over

end Go.Proofs.Ytoaclofobfaflaa.noteOfs
