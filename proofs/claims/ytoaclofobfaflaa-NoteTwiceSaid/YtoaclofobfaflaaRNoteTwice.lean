/-
  NoteTwice walked from note's contracts.
  For every note and any two lists of spans, the law NoteTwice returns true and leaves its arguments as they were. No condition.
-/
import Derived.Test.YtoaclofobfaflaaG19
import Derived.Test.YtoaclofobfaflaaG21
import Derived.Lib.QuietBelow
import Derived.Test.YtoaclofobfaflaaRows
import Derived.Test.YtoaclofobfaflaaG20
import Derived.OpenShut
import Derived.WalkKit
import Derived.ProofKit
import Derived.SizedLaws
namespace Go.Proofs.Ytoaclofobfaflaa
open Go.RowKit

set_option maxRecDepth 100000 in
set_option maxHeartbeats 3200000 in
theorem lawNTwice_any (SP : NoteSpec) (S E B V I J : Option Addr) (cs ce cb cv ci cj : Nat) (n : Note) (a b : List (Int × Int)) (w : World) (hls : n.s.length * 16 ≤ 140737488355328) (hle : n.e.length * 16 ≤ 140737488355328) (hlw : n.ws.length * 32 ≤ 140737488355328) (h1 : NoteAt w S E B V cs ce cb cv n) (h2 : OneL w I ci a) (h3 : OneL w J cj b) :
    Calls Try.prog 8 #[.agg (noteCells S E B V cs ce cb cv n), .slice I a.length ci, .slice J b.length cj] w (Says (.bool true) w) := by
  have N0 := Lib.hid (fun wx => nalive_any SP wx)
  have b0 := below_new (Below.refl w.heap.size w) (.cells (noteCells S E B V cs ce cb cv n) 26)
  have HB := Lib.hid (Blk.new w 26 (noteCells S E B V cs ce cb cv n))
  obtain ⟨c0, c1, c2, c3⟩ := note_cells HB.out
  have HN := Lib.hid (h1.later b0)
  have HI := Lib.hid (h2.later b0)
  have HJ := Lib.hid (h3.later b0)
  have NF := Lib.hid (fun wx (hx : NoteAt wx S E B V cs ce cb cv n) => nformed_any S E B V cs ce cb cv n wx hx)
  obtain ⟨x0, hx0⟩ : ∃ x, Nt.fmd n = x := ⟨_, rfl⟩
  rw [hx0] at NF
  clear h1 h2 h3
  cases x0 with
  | false =>
    go_enter Try.func8, Try.ntmps8
    go_wp2_with fail
    refine (N0.out _).mono ?_
    rintro e w1 ⟨rfl, b1⟩
    have d0 := cell_later b1 c0
    have d1 := cell_later b1 c1
    have d2 := cell_later b1 c2
    have d3 := cell_later b1 c3
    go_wp2_with fail
    refine (NF.out _ (HN.out.later b1)).mono ?_
    rintro e w2 ⟨rfl, b2⟩
    go_wp2
    go_ret
    exact ⟨rfl, below_on b0 (below_on b1 b2)⟩
  | true =>
    obtain ⟨X, hX⟩ : ∃ X, (Nt.through n a).1 = X := ⟨_, rfl⟩
    have hXe : Nt.through n a = (X, 0) := by rw [← hX, Nt.through_yes a hx0]
    have hXf : X.s.length = n.s.length ∧ X.e.length = n.e.length ∧ X.ws.length ≤ n.ws.length := by
      rw [← hX, Nt.through_yes a hx0]
      exact ⟨rfl, rfl, List.length_filter_le _ _⟩
    have htw := Nt.through_twice a b hx0
    rw [hX] at htw
    obtain ⟨Y, hY⟩ : ∃ Y, (Nt.through n (Sp.meetS a b)).1 = Y := ⟨_, rfl⟩
    have hZe : Nt.through n (Sp.meetS a b) = (Y, 0) := by rw [← hY, Nt.through_yes _ hx0]
    have hYe : Nt.through X b = (Y, 0) := htw.trans hZe
    have hall := Nt.through_all hx0
    have t1 := fun wx (hx : NoteAt wx S E B V cs ce cb cv n) (hy : OneL wx I ci a) => SP.through S E B V I cs ce cb cv ci n a wx hls hle hlw hx hy
    have t2 := fun F1 F2 F3 F4 i1 i2 i3 i4 wx (hx : NoteAt wx F1 F2 F3 F4 i1 i2 i3 i4 X) (hy : OneL wx J cj b) => SP.through F1 F2 F3 F4 J i1 i2 i3 i4 cj X b wx (by rw [hXf.1]; exact hls) (by rw [hXf.2.1]; exact hle) (by have := hXf.2.2; omega) hx hy
    have t3 := fun M cm wx (hx : NoteAt wx S E B V cs ce cb cv n) (hy : OneL wx M cm (Sp.meetS a b)) => SP.through S E B V M cs ce cb cv cm n (Sp.meetS a b) wx hls hle hlw hx hy
    have t4 := fun M wx (hx : NoteAt wx S E B V cs ce cb cv n) (hy : OneL wx M 1 [(0, 255)]) => SP.through S E B V M cs ce cb cv 1 n [(0, 255)] wx hls hle hlw hx hy
    rw [hXe] at t1
    rw [hYe] at t2
    rw [hZe] at t3
    rw [hall] at t4
    have T1 := Lib.hid t1
    have T2 := Lib.hid (fun F1 F2 F3 F4 i1 i2 i3 i4 wx (hx : NoteAt wx F1 F2 F3 F4 i1 i2 i3 i4 X) (hy : OneL wx J cj b) => (show Calls Try.prog 25 #[.agg #[.slice F1 X.s.length i1, .slice F2 X.e.length i2, .slice F3 X.b.length i3, .slice F4 X.ws.length i4], .slice J b.length cj] wx (AnsNE Y 0 wx) from t2 F1 F2 F3 F4 i1 i2 i3 i4 wx hx hy))
    have T3 := Lib.hid t3
    have T4 := Lib.hid t4
    clear t1 t2 t3 t4 hX hXe htw hY hZe hYe hall hXf hx0
    go_enter Try.func8, Try.ntmps8
    go_wp2_with fail
    refine (N0.out _).mono ?_
    rintro e w1 ⟨rfl, b1⟩
    have d0 := cell_later b1 c0
    have d1 := cell_later b1 c1
    have d2 := cell_later b1 c2
    have d3 := cell_later b1 c3
    go_wp2_with fail
    refine (NF.out _ (HN.out.later b1)).mono ?_
    rintro e w2 ⟨rfl, b2⟩
    have bb2 := below_on b1 b2
    clear d0 d1 d2 d3
    have d0 := cell_later bb2 c0
    have d1 := cell_later bb2 c1
    have d2 := cell_later bb2 c2
    have d3 := cell_later bb2 c3
    go_wp2_with fail
    refine (T1.out _ (HN.out.later bb2) (HI.out.later bb2)).mono ?_
    rintro e w3 ⟨F1, F2, F3, F4, i1, i2, i3, i4, rfl, hF, b3⟩
    simp only [noteCells]
    have bA := below_new (below_on bb2 b3) (.cells #[.slice F1 X.s.length i1, .slice F2 X.e.length i2, .slice F3 X.b.length i3, .slice F4 X.ws.length i4] 26)
    have hXB := Blk.new w3 26 #[.slice F1 X.s.length i1, .slice F2 X.e.length i2, .slice F3 X.b.length i3, .slice F4 X.ws.length i4]
    obtain ⟨⟨m0, m1, m2, m3⟩, _⟩ := nt_cells hXB
    have hF1 := hF.later (below_new (Below.refl _ _) (.cells #[.slice F1 X.s.length i1, .slice F2 X.e.length i2, .slice F3 X.b.length i3, .slice F4 X.ws.length i4] 26))
    clear d0 d1 d2 d3
    go_wp2_with fail
    refine (T2.out _ _ _ _ _ _ _ _ _ hF1 (HJ.out.later bA)).mono ?_
    rintro e w4 ⟨G1, G2, G3, G4, j1, j2, j3, j4, rfl, hG, b4⟩
    simp only [noteCells]
    have bB := below_new b4 (.cells #[.slice G1 Y.s.length j1, .slice G2 Y.e.length j2, .slice G3 Y.b.length j3, .slice G4 Y.ws.length j4] 26)
    have bbB := below_on bA bB
    have hYB := Blk.new w4 26 #[.slice G1 Y.s.length j1, .slice G2 Y.e.length j2, .slice G3 Y.b.length j3, .slice G4 Y.ws.length j4]
    have hG1 := hG.later (below_new (Below.refl _ _) (.cells #[.slice G1 Y.s.length j1, .slice G2 Y.e.length j2, .slice G3 Y.b.length j3, .slice G4 Y.ws.length j4] 26))
    clear m0 m1 m2 m3
    go_wp2_with fail
    obtain ⟨W5, hW5⟩ : ∃ W5, w4.alloc (.cells #[.slice G1 Y.s.length j1, .slice G2 Y.e.length j2, .slice G3 Y.b.length j3, .slice G4 Y.ws.length j4] 26) = W5 := ⟨_, rfl⟩
    rw [hW5] at bB bbB hYB hG1 ⊢
    have r0 := cell_later bbB c0
    have r1 := cell_later bbB c1
    have r2 := cell_later bbB c2
    have r3 := cell_later bbB c3
    have RN := Lib.hid (HN.out.later bbB)
    have HI5 := HI.out.later bbB
    have HJ5 := HJ.out.later bbB
    have M3 := Lib.hid (fun wx (hb : Below W5.heap.size W5 wx) => (smeet_any I J ci cj a b wx (HI5.later hb) (HJ5.later hb)).mono fun _ _ hg => hg.one)
    have HYB := Lib.hid hYB
    have HG1 := Lib.hid hG1
    clear hYB hG1 HI5 HJ5 hW5
    refine wp_region_facts3 10 (by kernel_rfl) (by kernel_rfl)
      (fun v => { tmps := #[.agg #[.slice S n.s.length cs, .slice E n.e.length ce, .slice B n.b.length cb, .slice V n.ws.length cv], .slice I a.length ci, .slice J b.length cj, .pointer (some ⟨w.heap.size, 0, none⟩), undef, undef, .bool false, .pointer (some ⟨w3.heap.size, 0, none⟩), .int .i64 0, .pointer (some ⟨w4.heap.size, 0, none⟩), .int .i64 0, v 8, undef, undef, undef, .bool true, .bool false, .agg #[.slice S n.s.length cs, .slice E n.e.length ce, .slice B n.b.length cb, .slice V n.ws.length cv], .bool true, .bool false, .tuple #[.agg #[.slice F1 X.s.length i1, .slice F2 X.e.length i2, .slice F3 X.b.length i3, .slice F4 X.ws.length i4], .int .i64 0], .agg #[.slice S n.s.length cs, .slice E n.e.length ce, .slice B n.b.length cb, .slice V n.ws.length cv], .slice I a.length ci, .tuple #[.agg #[.slice F1 X.s.length i1, .slice F2 X.e.length i2, .slice F3 X.b.length i3, .slice F4 X.ws.length i4], .int .i64 0], .agg #[.slice F1 X.s.length i1, .slice F2 X.e.length i2, .slice F3 X.b.length i3, .slice F4 X.ws.length i4], .int .i64 0, .tuple #[.agg #[.slice G1 Y.s.length j1, .slice G2 Y.e.length j2, .slice G3 Y.b.length j3, .slice G4 Y.ws.length j4], .int .i64 0], .agg #[.slice F1 X.s.length i1, .slice F2 X.e.length i2, .slice F3 X.b.length i3, .slice F4 X.ws.length i4], .slice J b.length cj, .tuple #[.agg #[.slice G1 Y.s.length j1, .slice G2 Y.e.length j2, .slice G3 Y.b.length j3, .slice G4 Y.ws.length j4], .int .i64 0], .agg #[.slice G1 Y.s.length j1, .slice G2 Y.e.length j2, .slice G3 Y.b.length j3, .slice G4 Y.ws.length j4], .int .i64 0, v 5, v 0, v 1, v 2, v 3, v 4, v 6, v 7, undef, undef, undef, undef, undef, undef, undef, undef, undef, undef, undef, undef, undef, undef, undef, undef, undef, undef, undef, undef, undef, undef, undef, undef, undef, undef, undef, undef, undef, undef, undef], defers := [] }) (fun _ => undef)
      (TwF W5.heap.size 26 (.agg #[.slice S n.s.length cs, .slice E n.e.length ce, .slice B n.b.length cb, .slice V n.ws.length cv]) (.slice I a.length ci) (.slice J b.length cj) (Sp.meetS a b) Y)
      (fun w1 w2 => Below W5.heap.size w1 w2) (fun h1 h2 => h1.trans h2) (fun _ => Below.refl _ _) (Below.drew (Below.refl _ _)) ?loc ?step ?done
    case loc =>
      intro i k v x wx hk hd h
      exact TwF.loc hk (fun e h8 => by subst e; subst h8; exact hd (List.elem_iff.1 (by kernel_rfl))) h
    case step =>
      intro i hi v w' hb hd
      match i, hi with
      | 0, _ =>
        refine wpOp_oneK rfl (fun KK hKK => ?_)
        have HKK := Lib.hid hKK
        clear hKK hd
        have q0 := cell_later hb r0
        have q1 := cell_later hb r1
        have q2 := cell_later hb r2
        have q3 := cell_later hb r3
        go_wp2
        exact HKK.out _ _ ⟨_, (by simp [upd]; done), Below.refl _ _, rfl, fun _ _ _ h => h⟩
      | 1, _ =>
        refine wpOp_oneK rfl (fun KK hKK => ?_)
        have HKK := Lib.hid hKK
        clear hKK hd
        go_wp2
        exact HKK.out _ _ ⟨_, (by simp [upd]; done), Below.refl _ _, rfl, fun _ _ _ h => h⟩
      | 2, _ =>
        refine wpOp_oneK rfl (fun KK hKK => ?_)
        have HKK := Lib.hid hKK
        clear hKK hd
        go_wp2
        exact HKK.out _ _ ⟨_, (by simp [upd]; done), Below.refl _ _, rfl, fun _ _ _ h => h⟩
      | 3, _ =>
        have h1 : v 1 = .slice I a.length ci := hd 1 (List.elem_iff.1 (by kernel_rfl))
        have h2 : v 2 = .slice J b.length cj := hd 2 (List.elem_iff.1 (by kernel_rfl))
        refine wpOp_oneK rfl (fun KK hKK => ?_)
        have HKK := Lib.hid hKK
        clear hKK hd
        rw [h1, h2]
        go_wp2_with fail
        refine (M3.out _ hb).mono ?_
        rintro e w'' ⟨A, c, rfl, hA, bA'⟩
        go_wp2
        exact HKK.out _ _ ⟨_, (by simp [upd, h1, h2]; done), bA'.mono hb.size, ⟨A, c, rfl, hA⟩, fun _ _ _ h => h.later bA'⟩
      | 4, _ =>
        have h0 : v 0 = .agg #[.slice S n.s.length cs, .slice E n.e.length ce, .slice B n.b.length cb, .slice V n.ws.length cv] := hd 0 (List.elem_iff.1 (by kernel_rfl))
        obtain ⟨A3, k3, h3, o3⟩ := hd 3 (List.elem_iff.1 (by kernel_rfl))
        refine wpOp_oneK rfl (fun KK hKK => ?_)
        have HKK := Lib.hid hKK
        clear hKK hd
        rw [h0, h3]
        go_wp2_with fail
        refine (T3.out _ _ _ (RN.out.later hb) o3).mono ?_
        rintro e w'' ⟨P1, P2, P3, P4, p1, p2, p3, p4, rfl, hP, bP⟩
        simp only [noteCells]
        go_wp2
        exact HKK.out _ _ ⟨_, (by simp [upd, h0, h3, noteCells]; done), bP.mono hb.size, ⟨P1, P2, P3, P4, p1, p2, p3, p4, rfl, hP⟩, fun _ _ _ h => h.later bP⟩
      | 5, _ =>
        obtain ⟨P1, P2, P3, P4, p1, p2, p3, p4, h4, o4⟩ := hd 4 (List.elem_iff.1 (by kernel_rfl))
        refine wpOp_oneK rfl (fun KK hKK => ?_)
        have HKK := Lib.hid hKK
        clear hKK hd
        have h4 : v 4 = .tuple #[.agg #[.slice P1 Y.s.length p1, .slice P2 Y.e.length p2, .slice P3 Y.b.length p3, .slice P4 Y.ws.length p4], .int .i64 0] := h4
        rw [h4]
        go_wp2
        exact HKK.out _ _ ⟨_, (by simp [upd, h4, noteCells]; done), Below.refl _ _, ⟨P1, P2, P3, P4, p1, p2, p3, p4, rfl, o4⟩, fun _ _ _ h => h⟩
      | 6, _ =>
        obtain ⟨P1, P2, P3, P4, p1, p2, p3, p4, h5, o5⟩ := hd 5 (List.elem_iff.1 (by kernel_rfl))
        refine wpOp_oneK rfl (fun KK hKK => ?_)
        have HKK := Lib.hid hKK
        clear hKK hd
        have h5 : v 5 = .tuple #[.agg #[.slice P1 Y.s.length p1, .slice P2 Y.e.length p2, .slice P3 Y.b.length p3, .slice P4 Y.ws.length p4], .int .i64 0] := h5
        rw [h5]
        go_wp2
        exact HKK.out _ _ ⟨_, (by simp [upd, h5, noteCells]; done), Below.refl _ _, ⟨P1, P2, P3, P4, p1, p2, p3, p4, rfl, o5⟩, fun _ _ _ h => h⟩
      | 7, _ =>
        obtain ⟨P1, P2, P3, P4, p1, p2, p3, p4, h5, o5⟩ := hd 5 (List.elem_iff.1 (by kernel_rfl))
        refine wpOp_oneK rfl (fun KK hKK => ?_)
        have HKK := Lib.hid hKK
        clear hKK hd
        have h5 : v 5 = .tuple #[.agg #[.slice P1 Y.s.length p1, .slice P2 Y.e.length p2, .slice P3 Y.b.length p3, .slice P4 Y.ws.length p4], .int .i64 0] := h5
        rw [h5]
        go_wp2
        exact HKK.out _ _ ⟨_, (by simp [upd, h5]; done), Below.refl _ _, rfl, fun _ _ _ h => h⟩
      | 8, _ =>
        refine wpOp_oneK rfl (fun KK hKK => ?_)
        have HKK := Lib.hid hKK
        clear hKK hd
        go_wp2
        exact HKK.out _ _ ⟨_, (by simp [upd]; done), (below_new (Below.refl w'.heap.size w') (.cells #[.slice none 0 0, .slice none 0 0, .slice none 0 0, .slice none 0 0] 26)).mono hb.size, ⟨w'.heap.size, _, _, _, _, rfl, hb.size, Blk.new _ _ _, rfl, rfl, rfl, rfl⟩, fun _ _ _ h => h.later (below_new (Below.refl w'.heap.size w') (.cells #[.slice none 0 0, .slice none 0 0, .slice none 0 0, .slice none 0 0] 26))⟩
      | 9, _ =>
        obtain ⟨P1, P2, P3, P4, p1, p2, p3, p4, h6, o6⟩ := hd 6 (List.elem_iff.1 (by kernel_rfl))
        obtain ⟨g, y0, y1, y2, y3, h8, l8, q8, s8⟩ := hd 8 (List.elem_iff.1 (by kernel_rfl))
        have h6 : v 6 = .agg #[.slice P1 Y.s.length p1, .slice P2 Y.e.length p2, .slice P3 Y.b.length p3, .slice P4 Y.ws.length p4] := h6
        refine wpOp_oneK rfl (fun KK hKK => ?_)
        have HKK := Lib.hid hKK
        clear hKK hd
        rw [h6, h8]
        have fin := o6.puts q8 s8 (.slice P1 Y.s.length p1) (.slice P2 Y.e.length p2) (.slice P3 Y.b.length p3) (.slice P4 Y.ws.length p4) ⟨rfl, rfl, rfl⟩
        have fin2 := (RelS.puts l8 q8 s8 (.slice P1 Y.s.length p1) (.slice P2 Y.e.length p2) (.slice P3 Y.b.length p3) (.slice P4 Y.ws.length p4) ⟨rfl, rfl, rfl⟩).1
        have FIN := Lib.hid (And.intro fin fin2)
        obtain ⟨⟨z0, z1, z2, z3⟩, u0, u1, u2, u3⟩ := nt_cells q8
        clear fin fin2
        go_wp2
        exact HKK.out _ _ ⟨undef, (by simp [upd, h6, h8]; done), FIN.out.2, ⟨g, P1, P2, P3, P4, p1, p2, p3, p4, (upd_other v 9 undef (by decide)).trans h8, l8, (((q8.put 0 _).put 1 _).put 2 _).put 3 _, FIN.out.1⟩, TwF.store h8 l8 q8 s8 ⟨rfl, rfl, rfl, rfl⟩⟩
    case done =>
      intro v w' hb hf
      have h7 : v 7 = .int .i64 0 := hf 7 (by omega)
      obtain ⟨gz, P1, P2, P3, P4, p1, p2, p3, p4, h8, lz, qz, oP⟩ := hf 9 (by omega)
      clear hf
      simp only [List.drop_succ_cons, List.drop_zero]
      rw [h7, h8]
      have s0 := cell_later hb r0
      have s1 := cell_later hb r1
      have s2 := cell_later hb r2
      have s3 := cell_later hb r3
      have HP := Lib.hid oP
      have HZB := Lib.hid (show Blk w' gz 26 #[.slice P1 Y.s.length p1, .slice P2 Y.e.length p2, .slice P3 Y.b.length p3, .slice P4 Y.ws.length p4] from qz)
      have RN6 := Lib.hid (RN.out.later hb)
      have HG6 := Lib.hid (HG1.out.later hb)
      have HYB6 := Lib.hid (HYB.out.later hb)
      have bb6 := below_on bbB hb
      clear RN HG1 HYB qz oP
      go_wp2_with fail
      have b7 := below_new (Below.refl w'.heap.size w') (.cells #[.int .i64 0, .int .i64 255] 50)
      have hI7 := one_stamp (Blk.new w' 50 #[.int .i64 0, .int .i64 255])
      refine (T4.out _ _ (RN6.out.later b7) hI7).mono ?_
      rintro e w8 ⟨A1, A2, A3, A4, k1, k2, k3, k4, rfl, hA, b8⟩
      simp only [noteCells]
      have bC := below_new (below_on b7 b8) (.cells #[.slice A1 n.s.length k1, .slice A2 n.e.length k2, .slice A3 n.b.length k3, .slice A4 n.ws.length k4] 26)
      have hAB := Blk.new w8 26 #[.slice A1 n.s.length k1, .slice A2 n.e.length k2, .slice A3 n.b.length k3, .slice A4 n.ws.length k4]
      have hA1 := hA.later (below_new (Below.refl _ _) (.cells #[.slice A1 n.s.length k1, .slice A2 n.e.length k2, .slice A3 n.b.length k3, .slice A4 n.ws.length k4] 26))
      have hY9 := HYB6.out.later bC
      have hZ9 := HZB.out.later bC
      have HG9 := Lib.hid (HG6.out.later bC)
      have HP9 := Lib.hid (HP.out.later bC)
      have RN9 := Lib.hid (RN6.out.later bC)
      have HA9 := Lib.hid hA1
      obtain ⟨⟨l0, l1, l2, l3⟩, _⟩ := nt_cells hY9
      obtain ⟨⟨l4, l5, l6, l7⟩, _⟩ := nt_cells hZ9
      obtain ⟨⟨l8, l9, l10, l11⟩, _⟩ := nt_cells hAB
      have n0 := cell_later (below_on bb6 bC) c0
      have n1 := cell_later (below_on bb6 bC) c1
      have n2 := cell_later (below_on bb6 bC) c2
      have n3 := cell_later (below_on bb6 bC) c3
      have hsy : sameN Y Y = true := by simp [sameN]
      have hsn : sameN n n = true := by simp [sameN]
      have e1 := fun wx (hx : NoteAt wx G1 G2 G3 G4 j1 j2 j3 j4 Y) (hy : NoteAt wx P1 P2 P3 P4 p1 p2 p3 p4 Y) => nsame_any G1 G2 G3 G4 P1 P2 P3 P4 j1 j2 j3 j4 p1 p2 p3 p4 Y Y wx hx hy
      have e2 := fun wx (hx : NoteAt wx A1 A2 A3 A4 k1 k2 k3 k4 n) (hy : NoteAt wx S E B V cs ce cb cv n) => nsame_any A1 A2 A3 A4 S E B V k1 k2 k3 k4 cs ce cb cv n n wx hx hy
      rw [hsy] at e1
      rw [hsn] at e2
      have E1 := Lib.hid (fun wx (hx : NoteAt wx G1 G2 G3 G4 j1 j2 j3 j4 Y) (hy : NoteAt wx P1 P2 P3 P4 p1 p2 p3 p4 Y) => (show Calls Try.prog 18 #[.agg #[.slice G1 Y.s.length j1, .slice G2 Y.e.length j2, .slice G3 Y.b.length j3, .slice G4 Y.ws.length j4], .agg #[.slice P1 Y.s.length p1, .slice P2 Y.e.length p2, .slice P3 Y.b.length p3, .slice P4 Y.ws.length p4]] wx (Says (.bool true) wx) from e1 wx hx hy))
      have E2 := Lib.hid (fun wx (hx : NoteAt wx A1 A2 A3 A4 k1 k2 k3 k4 n) (hy : NoteAt wx S E B V cs ce cb cv n) => (show Calls Try.prog 18 #[.agg #[.slice A1 n.s.length k1, .slice A2 n.e.length k2, .slice A3 n.b.length k3, .slice A4 n.ws.length k4], .agg #[.slice S n.s.length cs, .slice E n.e.length ce, .slice B n.b.length cb, .slice V n.ws.length cv]] wx (Says (.bool true) wx) from e2 wx hx hy))
      clear hsy hsn e1 e2 hA1 hA hY9 hZ9 hAB s0 s1 s2 s3 T4 HP HG6 RN6 HZB HYB6
      go_wp2_with fail
      refine (E1.out _ HG9.out HP9.out).mono ?_
      rintro e w9 ⟨rfl, b9⟩
      have o8 := cell_later b9 l8
      have o9 := cell_later b9 l9
      have o10 := cell_later b9 l10
      have o11 := cell_later b9 l11
      have o0 := cell_later b9 n0
      have o1 := cell_later b9 n1
      have o2 := cell_later b9 n2
      have o3 := cell_later b9 n3
      clear E1 l0 l1 l2 l3 l4 l5 l6 l7 l8 l9 l10 l11 n0 n1 n2 n3
      go_wp2_with fail
      refine (E2.out _ (HA9.out.later b9) (RN9.out.later b9)).mono ?_
      rintro e w10 ⟨rfl, b10⟩
      go_wp2
      go_ret
      exact ⟨rfl, below_on (below_on b0 (below_on bb6 bC)) (below_on b9 b10)⟩

end Go.Proofs.Ytoaclofobfaflaa
namespace Go.Proofs.Ytoaclofobfaflaa.noteTwice
open Go.ChangeShapes Go.WideShapes Go.ChangeAt Go.RowKit

theorem cellsStamp : Try.prog.cellsOf 33 = 2 := by kernel_rfl
theorem bytesStamp : Try.prog.bytesOf 33 = 16 := by kernel_rfl
theorem cellsSpan : Try.prog.cellsOf 50 = 2 := by kernel_rfl
theorem bytesSpan : Try.prog.bytesOf 50 = 16 := by kernel_rfl
theorem cellsWrite : Try.prog.cellsOf 35 = 4 := by kernel_rfl
theorem bytesWrite : Try.prog.bytesOf 35 = 32 := by kernel_rfl
theorem stampE {H : Type} {enc : TypeId × Value → H} {w : World} (fuel : Nat) (cs : List Value) (x : DataW H × List MemPlace) (h : DataW.trod enc Try.prog w 0 (fun _ => true) true fuel 33 cs = some x) : ∃ a, cs = stCell a := by
  obtain ⟨c, n, rfl, _⟩ := stamp_cells Try.underlying33 (by kernel_rfl) (by kernel_rfl) rfl rfl Try.underlying3 h
  exact ⟨(c, n), rfl⟩
theorem spanE {H : Type} {enc : TypeId × Value → H} {w : World} (fuel : Nat) (cs : List Value) (x : DataW H × List MemPlace) (h : DataW.trod enc Try.prog w 0 (fun _ => true) true fuel 50 cs = some x) : ∃ a, cs = stCell a := by
  obtain ⟨c, n, rfl, _⟩ := stamp_cells Try.underlying50 (by kernel_rfl) (by kernel_rfl) rfl rfl Try.underlying3 h
  exact ⟨(c, n), rfl⟩
theorem writeE {H : Type} {enc : TypeId × Value → H} {w : World} (fuel : Nat) (cs : List Value) (x : DataW H × List MemPlace) (h : DataW.trod enc Try.prog w 0 (fun _ => true) true fuel 35 cs = some x) : ∃ a, cs = Nt.wrCell a :=
  write_cells Try.underlying35 (by kernel_rfl) (by kernel_rfl) rfl (by kernel_rfl) rfl (by kernel_rfl) rfl Try.underlying33 (by kernel_rfl) rfl rfl Try.underlying3 Try.underlying3 Try.underlying4 h
theorem own : ownKnob Try.prog.godebug = none := by kernel_rfl
theorem laidOut : laidOutB Try.prog = true := by kernel_rfl
theorem reads : ∀ t ∈ Try.f8.params.toList, Try.prog.readableRec t = true ∧ t < Try.prog.types.size := by
  intro t ht
  rw [Try.params8] at ht
  have : t = 26 ∨ t = 23 ∨ t = 23 := by simpa using ht
  rcases this with rfl | rfl | rfl <;> exact ⟨by kernel_rfl, of_decide_eq_true (by kernel_rfl)⟩

set_option maxRecDepth 100000 in
theorem lifted (os : Os) (started : os.Started) (H : Type) (enc : TypeId × Value → H) :
    ReturnsInHanded {} Try.checked os 8 .any (Rows.noteTwiceSpec.pre6 enc Try.prog Try.f8 Rows.noteTwiceRow.domain false) (Rows.noteTwiceSpec.post enc Try.prog Try.f8 false true false false) := by
  refine returnsInHanded_of_change_sized (C := Try.checked) own started (by kernel_rfl) Try.func8
    (ChangeSpec.witness6 (enc := enc) (C := Try.checked) false ⟨#[], #[.agg #[.slice none 0 0, .slice none 0 0, .slice none 0 0, .slice none 0 0], .slice none 0 0, .slice none 0 0], []⟩ 8 (by kernel_rfl) (by kernel_rfl) (by kernel_rfl) (by kernel_rfl)) ?_
  intro W base args ds gs before hval0 hW _ hsz0 _
  have hval : ∀ (j : Nat) t v, Try.f8.params[j]? = some t → args[j]? = some v → Value.okWide Try.prog W .any base t v := hval0
  have hsz : (DataW.weightsEach Try.prog (Try.f8.params.toList ++ Rows.noteTwiceSpec.plain.varTypes Try.prog) (ds ++ gs)).all (· ≤ reachBytes) = true := hsz0
  have hW' := hW
  obtain ⟨p, q, hA0, hV, rfl, hfz, hnd⟩ := hW
  have hA : DataW.TrodAll enc Try.prog W 0 (fun _ => true) true Try.f8.params.toList args.toList ds p := hA0
  rw [Try.params8] at hA hval hsz
  obtain ⟨v0, vs0, d0, ds0, p0, q0, hargs, rfl, rfl, h0, r0⟩ := trodAll_cons hA
  obtain ⟨v1, vs1, d1, ds1, p1, q1, rfl, rfl, rfl, h1, r1⟩ := trodAll_cons r0
  obtain ⟨v2, vs2, d2, ds2, p2, q2, rfl, rfl, rfl, h2, r2⟩ := trodAll_cons r1
  obtain ⟨rfl, rfl, rfl⟩ := trodAll_nil r2
  obtain rfl : args = #[v0, v1, v2] := by cases args; simp_all
  obtain ⟨rfl, rfl⟩ := trodVars_none hV
  obtain ⟨S0, E0, B0, V0, cs0, ce0, cb0, cv0, n0, rfl, o0, x00, x01, x02, x03, rfl, m00, m01, m02, m03⟩ := open_note Try.underlying26 (by kernel_rfl) (by kernel_rfl) Try.underlying22 Try.underlying22 Try.underlying23 Try.underlying24 (by kernel_rfl) (by kernel_rfl) (by kernel_rfl) stampE spanE writeE (hval 0 26 v0 rfl rfl) h0
  have z0s : n0.s.length * 16 ≤ 140737488355328 := by
    have := sized_field hsz (j := 0) (t := 26) rfl rfl Try.underlying26 (i := 0) (tf := 22) (e := 33) rfl rfl Try.underlying22 m00
    rw [bytesStamp] at this
    simp only [reachBytes] at this
    omega
  have z0e : n0.e.length * 16 ≤ 140737488355328 := by
    have := sized_field hsz (j := 0) (t := 26) rfl rfl Try.underlying26 (i := 1) (tf := 22) (e := 33) rfl rfl Try.underlying22 m01
    rw [bytesStamp] at this
    simp only [reachBytes] at this
    omega
  have z0b : n0.b.length * 16 ≤ 140737488355328 := by
    have := sized_field hsz (j := 0) (t := 26) rfl rfl Try.underlying26 (i := 2) (tf := 23) (e := 50) rfl rfl Try.underlying23 m02
    rw [bytesSpan] at this
    simp only [reachBytes] at this
    omega
  have z0w : n0.ws.length * 32 ≤ 140737488355328 := by
    have := sized_field hsz (j := 0) (t := 26) rfl rfl Try.underlying26 (i := 3) (tf := 24) (e := 35) rfl rfl Try.underlying24 m03
    rw [bytesWrite] at this
    simp only [reachBytes] at this
    omega
  obtain ⟨A1, cap1, l1, rfl, hc1, hm1, hn1, hl1, _, hd1⟩ := open_stamps Try.underlying23 Try.underlying50 (by kernel_rfl) cellsSpan rfl rfl Try.underlying3 (hval 1 23 v1 rfl rfl) h1
  have o1 : OneL W A1 cap1 l1 := ⟨hc1, hm1, hn1, hl1⟩
  obtain ⟨A2, cap2, l2, rfl, hc2, hm2, hn2, hl2, _, hd2⟩ := open_stamps Try.underlying23 Try.underlying50 (by kernel_rfl) cellsSpan rfl rfl Try.underlying3 (hval 2 23 v2 rfl rfl) h2
  have o2 : OneL W A2 cap2 l2 := ⟨hc2, hm2, hn2, hl2⟩
  clear hA0 hval0 hsz hsz0
  refine (lawNTwice_any noteSpec S0 E0 B0 V0 A1 A2 cs0 ce0 cb0 cv0 cap1 cap2 n0 l1 l2 W z0s z0e z0w o0 o1 o2).mono fun e W' ⟨he, hg⟩ => ?_
  subst he
  exact ⟨_, rfl, law_post laidOut hW' rfl rfl (by kernel_rfl) Try.underlying4 reads hg⟩

theorem over : Rows.noteTwiceRow.holds Try.pinned (OpenSpec.ofChange Rows.noteTwiceSpec) :=
  OpenClaim.holds_of_wide 8 Try.f8 rfl rfl rfl rfl rfl rfl rfl ⟨rfl, rfl, rfl, rfl, rfl⟩ rfl rfl rfl rfl rfl (by kernel_rfl) Try.func8 (by kernel_rfl)
    (of_decide_eq_true (by kernel_rfl)) (by unfold Func.isWrapper; first | (rw [if_pos (by decide +kernel)]; kernel_rfl) | (rw [if_neg (by decide +kernel)]; exact ⟨rfl, rfl⟩))
    (fun os started H enc _ => lifted os started H enc)

/-- The statement. -/
theorem proved : Rows.NoteTwiceSaid :=
  over

end Go.Proofs.Ytoaclofobfaflaa.noteTwice
