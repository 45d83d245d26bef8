/-
  NoteMerges walked from note's contracts.
  For any two notes, the law NoteMerges returns true and leaves its arguments as they were. No condition.
-/
import Derived.Test.YtoaclofobfaflaaG17
import Derived.Lib.QuietBelow
import Derived.Test.YtoaclofobfaflaaRows
import Derived.Test.YtoaclofobfaflaaG25
import Derived.Test.YtoaclofobfaflaaG19
import Derived.OpenShut
import Derived.WalkKit
import Derived.ProofKit
import Derived.SizedLaws
namespace Go.Proofs.Ytoaclofobfaflaa
open Go.RowKit

set_option maxRecDepth 100000 in
set_option maxHeartbeats 3200000 in
theorem lawNMerges_any (SP : MergeSpec) (S E B V S' E' B' V' : Option Addr) (cs ce cb cv cs' ce' cb' cv' : Nat) (n o : Note) (w : World) (hls : n.s.length * 16 ≤ 140737488355328) (hle : n.e.length * 16 ≤ 140737488355328) (hlb : n.b.length * 16 ≤ 140737488355328) (hlw : n.ws.length * 32 ≤ 140737488355328) (hform : (((Nt.merge n o).2 = 0 ∧ Nt.fmd (Nt.merge n o).1 = true) ∨ (Nt.merge n o).2 = 1)) (h1 : NoteAt w S E B V cs ce cb cv n) (h2 : NoteAt w S' E' B' V' cs' ce' cb' cv' o) :
    Calls Try.prog 7 #[.agg (noteCells S E B V cs ce cb cv n), .agg (noteCells S' E' B' V' cs' ce' cb' cv' o)] w (Says (.bool true) w) := by
  have N0 := Lib.hid (fun wx => nalive_any SP.toNoteSpec wx)
  have b0 := below_new (below_new (Below.refl w.heap.size w) (.cells (noteCells S E B V cs ce cb cv n) 26)) (.cells (noteCells S' E' B' V' cs' ce' cb' cv' o) 26)
  have HB := Lib.hid ((Blk.new w 26 (noteCells S E B V cs ce cb cv n)).alloc (.cells (noteCells S' E' B' V' cs' ce' cb' cv' o) 26))
  have hBB : Blk ((w.alloc (.cells (noteCells S E B V cs ce cb cv n) 26)).alloc (.cells (noteCells S' E' B' V' cs' ce' cb' cv' o) 26)) (w.heap.size + 1) 26 (noteCells S' E' B' V' cs' ce' cb' cv' o) := by
    rw [show w.heap.size + 1 = (w.alloc (.cells (noteCells S E B V cs ce cb cv n) 26)).heap.size from by simp]
    exact Blk.new _ _ _
  have HBB := Lib.hid hBB
  clear hBB
  obtain ⟨c0, c1, c2, c3⟩ := note_cells HB.out
  obtain ⟨c4, c5, c6, c7⟩ := note_cells HBB.out
  have HN := Lib.hid (h1.later b0)
  have HL := Lib.hid (h2.later b0)
  obtain ⟨⟨M, er⟩, hM⟩ : ∃ r, Nt.merge n o = r := ⟨_, rfl⟩
  have n2 := fun A1 A2 A3 A4 k1 k2 k3 k4 wx (hx : NoteAt wx A1 A2 A3 A4 k1 k2 k3 k4 n) (hy : NoteAt wx S' E' B' V' cs' ce' cb' cv' o) => SP.merge A1 A2 A3 A4 S' E' B' V' k1 k2 k3 k4 cs' ce' cb' cv' n o wx hx hy
  have n3 := fun wx (hx : NoteAt wx S E B V cs ce cb cv n) (hy : NoteAt wx S' E' B' V' cs' ce' cb' cv' o) => nmerge_any S E B V S' E' B' V' cs ce cb cv cs' ce' cb' cv' n o wx hx hy
  rw [hM] at n2 n3 hform
  have HF := Lib.hid (show (er = 0 ∧ Nt.fmd M = true) ∨ er = 1 from hform)
  have N1 := Lib.hid (fun wx (hx : NoteAt wx S E B V cs ce cb cv n) => ncopy_any S E B V cs ce cb cv n wx hls hle hlb hlw hx)
  have N2 := Lib.hid (fun A1 A2 A3 A4 k1 k2 k3 k4 wx (hx : NoteAt wx A1 A2 A3 A4 k1 k2 k3 k4 n) (hy : NoteAt wx S' E' B' V' cs' ce' cb' cv' o) => (show Calls Try.prog 27 #[.agg #[.slice A1 n.s.length k1, .slice A2 n.e.length k2, .slice A3 n.b.length k3, .slice A4 n.ws.length k4], .agg #[.slice S' o.s.length cs', .slice E' o.e.length ce', .slice B' o.b.length cb', .slice V' o.ws.length cv']] wx (AnsNE M er wx) from n2 A1 A2 A3 A4 k1 k2 k3 k4 wx hx hy))
  have N3 := Lib.hid (fun wx (hx : NoteAt wx S E B V cs ce cb cv n) (hy : NoteAt wx S' E' B' V' cs' ce' cb' cv' o) => (show Calls Try.prog 28 #[.agg #[.slice S n.s.length cs, .slice E n.e.length ce, .slice B n.b.length cb, .slice V n.ws.length cv], .agg #[.slice S' o.s.length cs', .slice E' o.e.length ce', .slice B' o.b.length cb', .slice V' o.ws.length cv']] wx (AnsNE M er wx) from n3 wx hx hy))
  clear h1 h2 n2 n3 hM hform
  go_enter Try.func7, Try.ntmps7
  go_wp2_with fail
  refine (N0.out _).mono ?_
  rintro e w1 ⟨rfl, b1⟩
  have d0 := cell_later b1 c0
  have d1 := cell_later b1 c1
  have d2 := cell_later b1 c2
  have d3 := cell_later b1 c3
  have d4 := cell_later b1 c4
  have d5 := cell_later b1 c5
  have d6 := cell_later b1 c6
  have d7 := cell_later b1 c7
  go_wp2_with fail
  refine (N1.out _ (HN.out.later b1)).mono ?_
  rintro e w2 ⟨A1, A2, A3, A4, k1, k2, k3, k4, rfl, hN, b2⟩
  rw [show noteCells A1 A2 A3 A4 k1 k2 k3 k4 n = #[.slice A1 n.s.length k1, .slice A2 n.e.length k2, .slice A3 n.b.length k3, .slice A4 n.ws.length k4] from rfl]
  have bA := below_new (below_on b1 b2) (.cells #[.slice A1 n.s.length k1, .slice A2 n.e.length k2, .slice A3 n.b.length k3, .slice A4 n.ws.length k4] 26)
  have hX := Blk.new w2 26 #[.slice A1 n.s.length k1, .slice A2 n.e.length k2, .slice A3 n.b.length k3, .slice A4 n.ws.length k4]
  have hN1 := hN.later (below_new (Below.refl _ _) (.cells #[.slice A1 n.s.length k1, .slice A2 n.e.length k2, .slice A3 n.b.length k3, .slice A4 n.ws.length k4] 26))
  obtain ⟨⟨m0, m1, m2, m3⟩, _⟩ := nt_cells hX
  have e0 := cell_later bA c0
  have e1 := cell_later bA c1
  have e2 := cell_later bA c2
  have e3 := cell_later bA c3
  have e4 := cell_later bA c4
  have e5 := cell_later bA c5
  have e6 := cell_later bA c6
  have e7 := cell_later bA c7
  clear d0 d1 d2 d3 d4 d5 d6 d7
  go_wp2_with fail
  refine (N2.out _ _ _ _ _ _ _ _ _ hN1 (HL.out.later bA)).mono ?_
  rintro e w3 ⟨F1, F2, F3, F4, i1, i2, i3, i4, rfl, hF, b3⟩
  rw [show noteCells F1 F2 F3 F4 i1 i2 i3 i4 M = #[.slice F1 M.s.length i1, .slice F2 M.e.length i2, .slice F3 M.b.length i3, .slice F4 M.ws.length i4] from rfl]
  have bB := below_new b3 (.cells #[.slice F1 M.s.length i1, .slice F2 M.e.length i2, .slice F3 M.b.length i3, .slice F4 M.ws.length i4] 26)
  have bbB := below_on bA bB
  have hX1 := hX.later bB
  have hN2 := hN1.later bB
  have hXF := Blk.new w3 26 #[.slice F1 M.s.length i1, .slice F2 M.e.length i2, .slice F3 M.b.length i3, .slice F4 M.ws.length i4]
  have hF1 := hF.later (below_new (Below.refl _ _) (.cells #[.slice F1 M.s.length i1, .slice F2 M.e.length i2, .slice F3 M.b.length i3, .slice F4 M.ws.length i4] 26))
  clear e0 e1 e2 e3 e4 e5 e6 e7 m0 m1 m2 m3
  have e0 := cell_later bbB c0
  have e1 := cell_later bbB c1
  have e2 := cell_later bbB c2
  have e3 := cell_later bbB c3
  have e4 := cell_later bbB c4
  have e5 := cell_later bbB c5
  have e6 := cell_later bbB c6
  have e7 := cell_later bbB c7
  go_wp2_with fail
  refine (N3.out _ (HN.out.later bbB) (HL.out.later bbB)).mono ?_
  rintro e w4 ⟨H1, H2, H3, H4, j1, j2, j3, j4, rfl, hH, b4⟩
  rw [show noteCells H1 H2 H3 H4 j1 j2 j3 j4 M = #[.slice H1 M.s.length j1, .slice H2 M.e.length j2, .slice H3 M.b.length j3, .slice H4 M.ws.length j4] from rfl]
  have bC := below_new b4 (.cells #[.slice H1 M.s.length j1, .slice H2 M.e.length j2, .slice H3 M.b.length j3, .slice H4 M.ws.length j4] 26)
  have bbC := below_on bbB bC
  have hX2 := hX1.later bC
  have hN3 := hN2.later bC
  have hXF2 := hXF.later bC
  have hF2 := hF1.later bC
  have hXH := Blk.new w4 26 #[.slice H1 M.s.length j1, .slice H2 M.e.length j2, .slice H3 M.b.length j3, .slice H4 M.ws.length j4]
  have hH1 := hH.later (below_new (Below.refl _ _) (.cells #[.slice H1 M.s.length j1, .slice H2 M.e.length j2, .slice H3 M.b.length j3, .slice H4 M.ws.length j4] 26))
  have hR3 := HN.out.later bbC
  clear e0 e1 e2 e3 e4 e5 e6 e7
  obtain ⟨⟨m0, m1, m2, m3⟩, _⟩ := nt_cells hX2
  obtain ⟨⟨o0, o1, o2, o3⟩, _⟩ := nt_cells hXF2
  obtain ⟨⟨p0, p1, p2, p3⟩, _⟩ := nt_cells hXH
  have e0 := cell_later bbC c0
  have e1 := cell_later bbC c1
  have e2 := cell_later bbC c2
  have e3 := cell_later bbC c3
  have q0 := fun wx (bb : Below (w4.alloc (.cells #[.slice H1 M.s.length j1, .slice H2 M.e.length j2, .slice H3 M.b.length j3, .slice H4 M.ws.length j4] 26)).heap.size (w4.alloc (.cells #[.slice H1 M.s.length j1, .slice H2 M.e.length j2, .slice H3 M.b.length j3, .slice H4 M.ws.length j4] 26)) wx) => (show Calls Try.prog 18 #[.agg #[.slice F1 M.s.length i1, .slice F2 M.e.length i2, .slice F3 M.b.length i3, .slice F4 M.ws.length i4], .agg #[.slice H1 M.s.length j1, .slice H2 M.e.length j2, .slice H3 M.b.length j3, .slice H4 M.ws.length j4]] wx (Says (.bool (true)) wx) from by have q := nsame_any F1 F2 F3 F4 H1 H2 H3 H4 i1 i2 i3 i4 j1 j2 j3 j4 M M wx (hF2.later bb) (hH1.later bb); rw [sameN_self] at q; exact q)
  have q1 := fun wx (bb : Below (w4.alloc (.cells #[.slice H1 M.s.length j1, .slice H2 M.e.length j2, .slice H3 M.b.length j3, .slice H4 M.ws.length j4] 26)).heap.size (w4.alloc (.cells #[.slice H1 M.s.length j1, .slice H2 M.e.length j2, .slice H3 M.b.length j3, .slice H4 M.ws.length j4] 26)) wx) => (show Calls Try.prog 18 #[.agg #[.slice A1 n.s.length k1, .slice A2 n.e.length k2, .slice A3 n.b.length k3, .slice A4 n.ws.length k4], .agg #[.slice S n.s.length cs, .slice E n.e.length ce, .slice B n.b.length cb, .slice V n.ws.length cv]] wx (Says (.bool (true)) wx) from by have q := nsame_any A1 A2 A3 A4 S E B V k1 k2 k3 k4 cs ce cb cv n n wx (hN3.later bb) (hR3.later bb); rw [sameN_self] at q; exact q)
  have q2 := fun wx (bb : Below (w4.alloc (.cells #[.slice H1 M.s.length j1, .slice H2 M.e.length j2, .slice H3 M.b.length j3, .slice H4 M.ws.length j4] 26)).heap.size (w4.alloc (.cells #[.slice H1 M.s.length j1, .slice H2 M.e.length j2, .slice H3 M.b.length j3, .slice H4 M.ws.length j4] 26)) wx) => (show Calls Try.prog 12 #[.agg #[.slice F1 M.s.length i1, .slice F2 M.e.length i2, .slice F3 M.b.length i3, .slice F4 M.ws.length i4]] wx (Says (.bool (Nt.fmd M)) wx) from SP.formed F1 F2 F3 F4 i1 i2 i3 i4 M wx (hF2.later bb))
  have Q0 := Lib.hid q0
  have Q1 := Lib.hid q1
  clear q0 q1 hN hN1 hN2 hN3 hX hX1 hX2 hXF hXF2 hXH hF hF1 hF2 hH hH1 hR3 N0 N1 N2 N3
  rcases HF.out with ⟨rfl, hf⟩ | rfl
  · rw [hf] at q2
    have Q2 := Lib.hid q2
    clear q2 hf HF
    go_wp2_with fail
    refine (Q0.out _ (Below.refl _ _)).mono ?_
    rintro e u0 ⟨rfl, bu0⟩
    have r0 := cell_later bu0 m0
    have s0 := cell_later bu0 e0
    have r1 := cell_later bu0 m1
    have s1 := cell_later bu0 e1
    have r2 := cell_later bu0 m2
    have s2 := cell_later bu0 e2
    have r3 := cell_later bu0 m3
    have s3 := cell_later bu0 e3
    go_wp2_with fail
    refine (Q1.out _ bu0).mono ?_
    rintro e u1 ⟨rfl, bu1⟩
    have bu01 := below_on bu0 bu1
    have t0 := cell_later bu01 o0
    have t1 := cell_later bu01 o1
    have t2 := cell_later bu01 o2
    have t3 := cell_later bu01 o3
    go_wp2_with fail
    refine (Q2.out _ bu01).mono ?_
    rintro e u2 ⟨rfl, bu2⟩
    go_wp2
    go_ret
    exact ⟨rfl, below_on b0 (below_on bbC (below_on bu01 bu2))⟩
  · clear q2 HF
    go_wp2_with fail
    refine (Q0.out _ (Below.refl _ _)).mono ?_
    rintro e u0 ⟨rfl, bu0⟩
    have r0 := cell_later bu0 m0
    have s0 := cell_later bu0 e0
    have r1 := cell_later bu0 m1
    have s1 := cell_later bu0 e1
    have r2 := cell_later bu0 m2
    have s2 := cell_later bu0 e2
    have r3 := cell_later bu0 m3
    have s3 := cell_later bu0 e3
    go_wp2_with fail
    refine (Q1.out _ bu0).mono ?_
    rintro e u1 ⟨rfl, bu1⟩
    have bu01 := below_on bu0 bu1
    go_wp2
    go_ret
    exact ⟨rfl, below_on b0 (below_on bbC bu01)⟩

end Go.Proofs.Ytoaclofobfaflaa
namespace Go.Proofs.Ytoaclofobfaflaa.noteMerges
open Go.ChangeShapes Go.WideShapes Go.ChangeAt Go.RowKit

theorem cellsStamp : Try.prog.cellsOf 33 = 2 := by kernel_rfl
theorem bytesStamp : Try.prog.bytesOf 33 = 16 := by kernel_rfl
theorem cellsSpan : Try.prog.cellsOf 50 = 2 := by kernel_rfl
theorem bytesSpan : Try.prog.bytesOf 50 = 16 := by kernel_rfl
theorem cellsWrite : Try.prog.cellsOf 35 = 4 := by kernel_rfl
theorem bytesWrite : Try.prog.bytesOf 35 = 32 := by kernel_rfl
theorem stampE {H : Type} {enc : TypeId × Value → H} {w : World} (fuel : Nat) (cs : List Value) (x : DataW H × List MemPlace) (h : DataW.trod enc Try.prog w 0 (fun _ => true) true fuel 33 cs = some x) : ∃ a, cs = stCell a := by
  obtain ⟨c, n, rfl, _⟩ := stamp_cells Try.underlying33 (by kernel_rfl) (by kernel_rfl) rfl rfl Try.underlying3 h
  exact ⟨(c, n), rfl⟩
theorem spanE {H : Type} {enc : TypeId × Value → H} {w : World} (fuel : Nat) (cs : List Value) (x : DataW H × List MemPlace) (h : DataW.trod enc Try.prog w 0 (fun _ => true) true fuel 50 cs = some x) : ∃ a, cs = stCell a := by
  obtain ⟨c, n, rfl, _⟩ := stamp_cells Try.underlying50 (by kernel_rfl) (by kernel_rfl) rfl rfl Try.underlying3 h
  exact ⟨(c, n), rfl⟩
theorem writeE {H : Type} {enc : TypeId × Value → H} {w : World} (fuel : Nat) (cs : List Value) (x : DataW H × List MemPlace) (h : DataW.trod enc Try.prog w 0 (fun _ => true) true fuel 35 cs = some x) : ∃ a, cs = Nt.wrCell a :=
  write_cells Try.underlying35 (by kernel_rfl) (by kernel_rfl) rfl (by kernel_rfl) rfl (by kernel_rfl) rfl Try.underlying33 (by kernel_rfl) rfl rfl Try.underlying3 Try.underlying3 Try.underlying4 h
theorem own : ownKnob Try.prog.godebug = none := by kernel_rfl
theorem laidOut : laidOutB Try.prog = true := by kernel_rfl
theorem reads : ∀ t ∈ Try.f7.params.toList, Try.prog.readableRec t = true ∧ t < Try.prog.types.size := by
  intro t ht
  rw [Try.params7] at ht
  obtain rfl : t = 26 := by simpa using ht
  exact ⟨by kernel_rfl, of_decide_eq_true (by kernel_rfl)⟩

set_option maxRecDepth 100000 in
theorem lifted (os : Os) (started : os.Started) (H : Type) (enc : TypeId × Value → H) :
    ReturnsInHanded {} Try.checked os 7 .any (Rows.noteMergesSpec.pre6 enc Try.prog Try.f7 Rows.noteMergesRow.domain false) (Rows.noteMergesSpec.post enc Try.prog Try.f7 false true false false) := by
  refine returnsInHanded_of_change_sized (C := Try.checked) own started (by kernel_rfl) Try.func7
    (ChangeSpec.witness6 (enc := enc) (C := Try.checked) false ⟨#[], #[.agg #[.slice none 0 0, .slice none 0 0, .slice none 0 0, .slice none 0 0], .agg #[.slice none 0 0, .slice none 0 0, .slice none 0 0, .slice none 0 0]], []⟩ 8 (by kernel_rfl) (by kernel_rfl) (by kernel_rfl) (by kernel_rfl)) ?_
  intro W base args ds gs before hval0 hW _ hsz0 _
  have hval : ∀ (j : Nat) t v, Try.f7.params[j]? = some t → args[j]? = some v → Value.okWide Try.prog W .any base t v := hval0
  have hsz : (DataW.weightsEach Try.prog (Try.f7.params.toList ++ Rows.noteMergesSpec.plain.varTypes Try.prog) (ds ++ gs)).all (· ≤ reachBytes) = true := hsz0
  have hW' := hW
  obtain ⟨p, q, hA0, hV, rfl, hfz, hnd⟩ := hW
  have hA : DataW.TrodAll enc Try.prog W 0 (fun _ => true) true Try.f7.params.toList args.toList ds p := hA0
  rw [Try.params7] at hA hval hsz
  obtain ⟨v0, vs0, d0, ds0, p0, q0, hargs, rfl, rfl, h0, r0⟩ := trodAll_cons hA
  obtain ⟨v1, vs1, d1, ds1, p1, q1, rfl, rfl, rfl, h1, r1⟩ := trodAll_cons r0
  obtain ⟨rfl, rfl, rfl⟩ := trodAll_nil r1
  obtain rfl : args = #[v0, v1] := by cases args; simp_all
  obtain ⟨rfl, rfl⟩ := trodVars_none hV
  obtain ⟨S0, E0, B0, V0, cs0, ce0, cb0, cv0, n0, rfl, o0, x00, x01, x02, x03, rfl, m00, m01, m02, m03⟩ := open_note Try.underlying26 (by kernel_rfl) (by kernel_rfl) Try.underlying22 Try.underlying22 Try.underlying23 Try.underlying24 (by kernel_rfl) (by kernel_rfl) (by kernel_rfl) stampE spanE writeE (hval 0 26 v0 rfl rfl) h0
  have z0s : n0.s.length * 16 ≤ 140737488355328 := by
    have := sized_field hsz (j := 0) (t := 26) rfl rfl Try.underlying26 (i := 0) (tf := 22) (e := 33) rfl rfl Try.underlying22 m00
    rw [bytesStamp] at this
    simp only [reachBytes] at this
    omega
  have z0e : n0.e.length * 16 ≤ 140737488355328 := by
    have := sized_field hsz (j := 0) (t := 26) rfl rfl Try.underlying26 (i := 1) (tf := 22) (e := 33) rfl rfl Try.underlying22 m01
    rw [bytesStamp] at this
    simp only [reachBytes] at this
    omega
  have z0b : n0.b.length * 16 ≤ 140737488355328 := by
    have := sized_field hsz (j := 0) (t := 26) rfl rfl Try.underlying26 (i := 2) (tf := 23) (e := 50) rfl rfl Try.underlying23 m02
    rw [bytesSpan] at this
    simp only [reachBytes] at this
    omega
  have z0w : n0.ws.length * 32 ≤ 140737488355328 := by
    have := sized_field hsz (j := 0) (t := 26) rfl rfl Try.underlying26 (i := 3) (tf := 24) (e := 35) rfl rfl Try.underlying24 m03
    rw [bytesWrite] at this
    simp only [reachBytes] at this
    omega
  obtain ⟨S1, E1, B1, V1, cs1, ce1, cb1, cv1, n1, rfl, o1, x10, x11, x12, x13, rfl, m10, m11, m12, m13⟩ := open_note Try.underlying26 (by kernel_rfl) (by kernel_rfl) Try.underlying22 Try.underlying22 Try.underlying23 Try.underlying24 (by kernel_rfl) (by kernel_rfl) (by kernel_rfl) stampE spanE writeE (hval 1 26 v1 rfl rfl) h1
  clear hA0 hval0 hsz hsz0
  refine (lawNMerges_any mergeSpec S0 E0 B0 V0 S1 E1 B1 V1 cs0 ce0 cb0 cv0 cs1 ce1 cb1 cv1 n0 n1 W z0s z0e z0b z0w (Nt.merge_form n0 n1) o0 o1).mono fun e W' ⟨he, hg⟩ => ?_
  subst he
  exact ⟨_, rfl, law_post laidOut hW' rfl rfl (by kernel_rfl) Try.underlying4 reads hg⟩

theorem over : Rows.noteMergesRow.holds Try.pinned (OpenSpec.ofChange Rows.noteMergesSpec) :=
  OpenClaim.holds_of_wide 7 Try.f7 rfl rfl rfl rfl rfl rfl rfl ⟨rfl, rfl, rfl, rfl, rfl⟩ rfl rfl rfl rfl rfl (by kernel_rfl) Try.func7 (by kernel_rfl)
    (of_decide_eq_true (by kernel_rfl)) (by unfold Func.isWrapper; first | (rw [if_pos (by decide +kernel)]; kernel_rfl) | (rw [if_neg (by decide +kernel)]; exact ⟨rfl, rfl⟩))
    (fun os started H enc _ => lifted os started H enc)

/-- The statement. -/
theorem proved : Rows.NoteMergesSaid :=
  over

end Go.Proofs.Ytoaclofobfaflaa.noteMerges
