/-
  What disk's Append answers.
-/
import Derived.Test.YtgjcpdcepmgafaaDkDevE
import Derived.Lib.QuietBelow
namespace Go.Proofs.Ytgjcpdcepmgafaa
open Go.RowKit

namespace Dk
theorem two_filters (n : Int) : ∀ l : List Fi, (l.filter (fun f => decide (f.1 < n))).length + (l.filter (fun f => decide (n < f.1))).length ≤ l.length
  | [] => Nat.le_refl _
  | f :: r => by
    have ih := two_filters n r
    rw [List.filter_cons, List.filter_cons]
    by_cases h1 : f.1 < n
    · have h2 : ¬ n < f.1 := by omega
      simp [h1, h2]
      omega
    · by_cases h2 : n < f.1
      · simp [h1, h2]
        omega
      · simp [h1, h2]
        omega
theorem len_ins_mem {n : Int} {L : List Fc} {room : Int} (hq : fmd room (L.map Fc.fi) = true) {L2 : List Fc} (h : L2.map Fc.fi = ins (L.map Fc.fi) n) : L2.length ≤ 1048578 ∧ ∀ f ∈ L2, (f.l.length : Int) ≤ used (L.map Fc.fi) := by
  have hl := congrArg List.length h
  rw [List.length_map] at hl
  have hlen := len_le hq
  have hmem : ∀ g ∈ ins (L.map Fc.fi) n, (g.2.1.length : Int) ≤ used (L.map Fc.fi) := fun g hg => by
    unfold ins at hg
    have h0 := used_nonneg (L.map Fc.fi)
    split at hg
    · rcases List.mem_append.1 hg with h1 | h1
      · exact used_mem (List.mem_filter.1 h1).1
      · rcases List.mem_cons.1 h1 with rfl | h1
        · simpa using h0
        · exact used_mem (List.mem_filter.1 h1).1
    · exact used_mem hg
  refine ⟨?_, fun f hf => ?_⟩
  · rw [hl]
    unfold ins
    split
    · rw [List.length_append, List.length_cons]
      have h1 := two_filters n (L.map Fc.fi)
      rw [List.length_map] at h1
      exact Nat.le_trans (Nat.succ_le_succ h1) (by omega)
    · rw [List.length_map]
      omega
  · have : f.fi ∈ ins (L.map Fc.fi) n := by rw [← h]; exact List.mem_map.2 ⟨f, hf, rfl⟩
    exact hmem f.fi this
end Dk

set_option maxRecDepth 100000 in
set_option maxHeartbeats 3200000 in
theorem dappend_any (room n : Int) (A B : Option Addr) (c cb : Nat) (L : List Fc) (b : List Int) (w : World) (h : OneD w A c L) (hb : OneB w B cb b) :
    Calls Try.prog 10 #[.agg #[.int .i64 room, .slice A L.length c], .int .i64 n, .slice B b.length cb] w (GivesDE (Dk.appR room (L.map Fc.fi) n b) w) := by
  have bn := below_new (below_new (below_new (Below.refl w.heap.size w) (.cells #[.int .i64 room, .slice A L.length c] 24)) (.cells #[.slice B b.length cb] 25)) (.cells #[.int .i64 0, .slice none 0 0] 24)
  have N := Lib.hid (dformed_any room A c L _ (h.later bn))
  have B0 := Lib.hid (((Blk.new w 24 #[.int .i64 room, .slice A L.length c]).alloc (.cells #[.slice B b.length cb] 25)).alloc (.cells #[.int .i64 0, .slice none 0 0] 24))
  have B1 := Lib.hid (show Blk _ (w.heap.size + 1) 25 #[.slice B b.length cb] from by simpa using (Blk.new (w.alloc (.cells #[.int .i64 room, .slice A L.length c] 24)) 25 #[.slice B b.length cb]).alloc (.cells #[.int .i64 0, .slice none 0 0] 24))
  have B2 := Lib.hid (show Blk _ (w.heap.size + 1 + 1) 24 #[.int .i64 0, .slice none 0 0] from by simpa using Blk.new ((w.alloc (.cells #[.int .i64 room, .slice A L.length c] 24)).alloc (.cells #[.slice B b.length cb] 25)) 24 #[.int .i64 0, .slice none 0 0])
  have HD := Lib.hid h
  have HBB := Lib.hid hb
  have hbl := hb.len
  have W3 := Lib.hid (fun w => within_any n 1048576 w)
  clear h hb
  cases hq : Dk.fmd room (L.map Fc.fi) with
  | false =>
    have hR : Dk.appR room (L.map Fc.fi) n b = (0, [], 1) := by unfold Dk.appR; rw [if_neg (fun h => by rw [hq] at h; exact absurd h.1 Bool.false_ne_true)]
    rw [hR]
    rw [hq] at N
    clear hq hR HD B0 B1
    go_enter Try.func10, Try.ntmps10
    go_wp2_with fail
    refine N.out.mono ?_
    rintro e w1 ⟨rfl, b1⟩
    have z' := B2.out.later b1
    have y0 := z'.cell (i := 0) rfl
    have y1 := z'.cell (i := 1) rfl
    have s0 := z'.free 0
    have s1 := z'.free 1
    have hz := (z'.put 0 (.int .i64 0)).put 1 (.slice none 0 0)
    have z0 := Lib.hid (hz.cell (i := 0) rfl)
    have z1 := Lib.hid (hz.cell (i := 1) rfl)
    have hbz := ((below_on bn b1).setCell (p := ⟨w.heap.size + 1 + 1, 0, none⟩) (by show w.heap.size ≤ w.heap.size + 1 + 1; omega) (.int .i64 0)).setCell (p := ⟨w.heap.size + 1 + 1, 1, none⟩) (by show w.heap.size ≤ w.heap.size + 1 + 1; omega) (.slice none 0 0)
    have FIN := Lib.hid (GivesDE.err 1 hbz)
    clear z' hz hbz 
    go_wp2
    have z0 := z0.out
    have z1 := z1.out
    exact bodyPost_ret (v := .tuple #[.agg #[.int .i64 0, .slice none 0 0], .int .i64 1]) (by simp [results, Try.results10, go_sem, z0, z1]) rfl FIN.out
  | true =>
    rw [hq] at N
    have HQ := Lib.hid hq
    have hF := Dk.fmd_facts hq
    have hu0 := Dk.used_nonneg (L.map Fc.fi)
    have hu1 := hF.use
    have hr0 := hF.r0
    have hr1 := hF.r1
    obtain ⟨u, hU⟩ : ∃ u, Dk.used (L.map Fc.fi) = u := ⟨_, rfl⟩
    have HU := Lib.hid hU
    rw [hU] at hu0 hu1
    cases hw : Dk.win n 1048576 with
    | false =>
      have hR : Dk.appR room (L.map Fc.fi) n b = (0, [], 1) := by unfold Dk.appR; rw [if_neg (fun h => by rw [hw] at h; exact absurd h.2 Bool.false_ne_true)]
      rw [hR]
      rw [hw] at W3
      clear hq hR hF hU hw HD B1
      go_enter Try.func10, Try.ntmps10
      go_wp2_with fail
      refine N.out.mono ?_
      rintro e w1 ⟨rfl, b1⟩
      go_wp2_with fail
      refine (W3.out _).mono ?_
      rintro e w' ⟨rfl, rfl⟩
      have z' := B2.out.later b1
      have y0 := z'.cell (i := 0) rfl
      have y1 := z'.cell (i := 1) rfl
      have s0 := z'.free 0
      have s1 := z'.free 1
      have hz := (z'.put 0 (.int .i64 0)).put 1 (.slice none 0 0)
      have z0 := Lib.hid (hz.cell (i := 0) rfl)
      have z1 := Lib.hid (hz.cell (i := 1) rfl)
      have hbz := ((below_on bn b1).setCell (p := ⟨w.heap.size + 1 + 1, 0, none⟩) (by show w.heap.size ≤ w.heap.size + 1 + 1; omega) (.int .i64 0)).setCell (p := ⟨w.heap.size + 1 + 1, 1, none⟩) (by show w.heap.size ≤ w.heap.size + 1 + 1; omega) (.slice none 0 0)
      have FIN := Lib.hid (GivesDE.err 1 hbz)
      clear z' hz hbz 
      go_wp2
      have z0 := z0.out
      have z1 := z1.out
      exact bodyPost_ret (v := .tuple #[.agg #[.int .i64 0, .slice none 0 0], .int .i64 1]) (by simp [results, Try.results10, go_sem, z0, z1]) rfl FIN.out
    | true =>
      rw [hw] at W3
      by_cases hsp : room - u < (b.length : Int)
      · have hR : Dk.appR room (L.map Fc.fi) n b = (0, [], 7) := by unfold Dk.appR; rw [if_pos ⟨hq, hw⟩, if_pos (by rw [hU]; exact hsp)]
        rw [hR]
        have dsp : decide (room - u < (b.length : Int)) = true := decide_eq_true hsp
        clear hq hR hF hU hw
        go_enter Try.func10, Try.ntmps10
        go_wp2_with fail
        refine N.out.mono ?_
        rintro e w1 ⟨rfl, b1⟩
        have bb := below_on bn b1
        have k1 := fun d os => cell_regrown (d := d) (os := os) ((B1.out.later b1).cell (i := 0) rfl)
        have k2 := fun d os => cell_regrown (d := d) (os := os) ((B0.out.later b1).cell (i := 0) rfl)
        have k3 := fun d os => cell_regrown (d := d) (os := os) ((B0.out.later b1).cell (i := 1) rfl)
        have CN := Lib.hid (fun d os => Calls.regrown_of (dused_any room A c L (Sort.grow (redrawn w1 d) os) ((HD.out.later bb).later (below_regrown w1 d os))))
        rw [Dk.usd_yes HQ.out, HU.out] at CN
        go_wp2_with fail
        refine (W3.out _).mono ?_
        rintro e w' ⟨rfl, hw'⟩
        have hw2 := hw'.symm
        subst hw2
        clear hw'
        go_wp2_with fail
        refine wp_region_quiet_below (by kernel_rfl) (by kernel_rfl) ?_
        repeat (first | go_big_quiet_step (exact CN.out _ _) | quiet_step (exact CN.out _ _))
        refine wpQuiet_nil ?_
        intro _ hw'
        obtain ⟨⟨dq, osq⟩, hw''⟩ := hw'
        subst hw''
        have bq := below_regrown w1 dq osq
        have z' := (B2.out.later b1).later bq
        have y0 := z'.cell (i := 0) rfl
        have y1 := z'.cell (i := 1) rfl
        have s0 := z'.free 0
        have s1 := z'.free 1
        have hz := (z'.put 0 (.int .i64 0)).put 1 (.slice none 0 0)
        have z0 := Lib.hid (hz.cell (i := 0) rfl)
        have z1 := Lib.hid (hz.cell (i := 1) rfl)
        have hbz := ((below_on bb bq).setCell (p := ⟨w.heap.size + 1 + 1, 0, none⟩) (by show w.heap.size ≤ w.heap.size + 1 + 1; omega) (.int .i64 0)).setCell (p := ⟨w.heap.size + 1 + 1, 1, none⟩) (by show w.heap.size ≤ w.heap.size + 1 + 1; omega) (.slice none 0 0)
        have FIN := Lib.hid (GivesDE.err 7 hbz)
        clear z' hz hbz k1 k2 k3
        go_wp2
        have z0 := z0.out
        have z1 := z1.out
        exact bodyPost_ret (v := .tuple #[.agg #[.int .i64 0, .slice none 0 0], .int .i64 7]) (by simp [results, Try.results10, go_sem, z0, z1]) rfl FIN.out
      · have hR : Dk.appR room (L.map Fc.fi) n b = (room, (Dk.ins (L.map Fc.fi) n).map (Dk.app1 n b), 0) := by unfold Dk.appR; rw [if_pos ⟨hq, hw⟩, if_neg (by rw [hU]; exact hsp)]
        rw [hR]
        have dsp : decide (room - u < (b.length : Int)) = false := decide_eq_false hsp
        clear hq hR hF hU hw
        go_enter Try.func10, Try.ntmps10
        go_wp2_with fail
        refine N.out.mono ?_
        rintro e w1 ⟨rfl, b1⟩
        have bb := below_on bn b1
        have k1 := fun d os => cell_regrown (d := d) (os := os) ((B1.out.later b1).cell (i := 0) rfl)
        have k2 := fun d os => cell_regrown (d := d) (os := os) ((B0.out.later b1).cell (i := 0) rfl)
        have k3 := fun d os => cell_regrown (d := d) (os := os) ((B0.out.later b1).cell (i := 1) rfl)
        have CN := Lib.hid (fun d os => Calls.regrown_of (dused_any room A c L (Sort.grow (redrawn w1 d) os) ((HD.out.later bb).later (below_regrown w1 d os))))
        rw [Dk.usd_yes HQ.out, HU.out] at CN
        go_wp2_with fail
        refine (W3.out _).mono ?_
        rintro e w' ⟨rfl, hw'⟩
        have hw2 := hw'.symm
        subst hw2
        clear hw'
        go_wp2_with fail
        refine wp_region_quiet_below (by kernel_rfl) (by kernel_rfl) ?_
        repeat (first | go_big_quiet_step (exact CN.out _ _) | quiet_step (exact CN.out _ _))
        refine wpQuiet_nil ?_
        intro _ hw'
        obtain ⟨⟨dq, osq⟩, hw''⟩ := hw'
        subst hw''
        have bq := below_regrown w1 dq osq
        obtain ⟨W2, hW2⟩ : ∃ W2, Sort.grow (redrawn w1 dq) osq = W2 := ⟨_, rfl⟩
        rw [hW2] at bq
        rw [hW2]
        have bb2 := below_on bb bq
        have E0 := (B0.out.later b1).later bq
        have E1 := Lib.hid ((B1.out.later b1).later bq)
        have E2 := Lib.hid ((B2.out.later b1).later bq)
        have d0 := E0.cell (i := 0) rfl
        have d1 := E0.cell (i := 1) rfl
        have NW := Lib.hid (withFile_any room n A c L W2 (HD.out.later bb2) HQ.out)
        have HBQ := Lib.hid bb2
        clear k1 k2 k3 CN E0 hW2 bq bb2
        go_wp2_with fail
        refine NW.out.mono ?_
        rintro e w3 ⟨A3, c3, L3, rfl, hO3, hfi3, b3⟩
        have ON := Lib.hid (donly_any n 33 #[.pointer (some ⟨w.heap.size + 1, 0, none⟩)] w3)
        obtain ⟨m1, m2⟩ := Dk.len_ins_mem HQ.out hfi3
        have HO3 := Lib.hid hO3; have HF3 := Lib.hid hfi3; have HB3 := Lib.hid (below_on HBQ.out b3); have HE1 := Lib.hid (E1.out.later b3); have HE2 := Lib.hid (E2.out.later b3); have M2 := Lib.hid m2
        clear hO3 hfi3 b3 m2 d0 d1
        go_wp2_with fail
        refine ON.out.mono ?_
        rintro e w5 ⟨rfl, o0, o1, b5, hs5⟩
        have hbw5 := below_on HB3.out b5
        have NC := Lib.hid (changed_any room A3 c3 L3 46 #[.pointer (some ⟨w3.heap.size, 0, none⟩), .pointer (some ⟨w3.heap.size + 1, 0, none⟩)] (fun _ _ => rfl) (JB w5.heap.size w5 (L3.map Fc.fi) (Dk.app1 n b)) w5 (HO3.out.later b5)
          ⟨by omega, fun f hf => by have := M2.out f hf; rw [HU.out] at this; omega⟩ (JB.start _ _ _ _) (fun d W W' => JB.stab d W W')
          (appChg w5.heap.size L3.length w5 (L3.map Fc.fi) n B cb b w3.heap.size (w3.heap.size + 1) (w.heap.size + 1) (o0.cell (i := 0) rfl) (o1.cell (i := 0) rfl) ((HE1.out.later b5).cell (i := 0) rfl) (HBB.out.later hbw5) rfl o0.lt o1.lt (HE1.out.later b5).lt (fun f hf _ => by
            obtain ⟨x, hx, rfl⟩ := List.mem_map.1 hf
            have := M2.out x hx
            rw [HU.out] at this
            show x.l.length + b.length ≤ 140737488355328
            omega)))
        have HB5 := Lib.hid hbw5
        have HZ := Lib.hid (HE2.out.later b5)
        clear o0 o1 b5 hbw5 hs5
        go_wp2_with fail
        refine NC.out.mono ?_
        rintro e w6 ⟨v, L4, rfl, hO, hl, hJ⟩
        have b6 := hJ.1
        have hfi := hJ.done (by simp [hl])
        rw [HF3.out] at hfi
        obtain ⟨V, cv, rfl, -, -, -, -⟩ := own_form hO.row
        have hzl : w.heap.size + 1 + 1 < w5.heap.size := HZ.out.lt
        have HO := Lib.hid hO; have HFI := Lib.hid hfi
        have bb6 := below_on HB5.out b6
        have Z6 := HZ.out.later b6
        clear hO hl hJ hfi b6
        have z' := Z6
        have y0 := z'.cell (i := 0) rfl
        have y1 := z'.cell (i := 1) rfl
        have s0 := z'.free 0
        have s1 := z'.free 1
        have hz := (z'.put 0 (.int .i64 room)).put 1 (.slice V L4.length cv)
        have z0 := Lib.hid (hz.cell (i := 0) rfl)
        have z1 := Lib.hid (hz.cell (i := 1) rfl)
        have hbz := ((bb6).setCell (p := ⟨w.heap.size + 1 + 1, 0, none⟩) (by show w.heap.size ≤ w.heap.size + 1 + 1; omega) (.int .i64 room)).setCell (p := ⟨w.heap.size + 1 + 1, 1, none⟩) (by show w.heap.size ≤ w.heap.size + 1 + 1; omega) (.slice V L4.length cv)
        have hO2 := (((HO.out).low (p := ⟨w.heap.size + 1 + 1, 0, none⟩) (by show w.heap.size + 1 + 1 < _; omega) (.int .i64 room)).low (p := ⟨w.heap.size + 1 + 1, 1, none⟩) (by show w.heap.size + 1 + 1 < _; omega) (.slice V L4.length cv)).lower (base' := w.heap.size) (by omega)
        have FIN := Lib.hid (show GivesDE (room, (Dk.ins (L.map Fc.fi) n).map (Dk.app1 n b), 0) w (.returned (.tuple #[.agg #[.int .i64 room, .slice V L4.length cv], .int .i64 0])) _ from ⟨_, L4, rfl, hO2, HFI.out, hbz⟩)
        clear z' hz hbz Z6 bb6 hO2
        go_wp2
        have z0 := z0.out
        have z1 := z1.out
        exact bodyPost_ret (v := .tuple #[.agg #[.int .i64 room, .slice V L4.length cv], .int .i64 0]) (by simp [results, Try.results10, go_sem, z0, z1]) rfl FIN.out
end Go.Proofs.Ytgjcpdcepmgafaa
