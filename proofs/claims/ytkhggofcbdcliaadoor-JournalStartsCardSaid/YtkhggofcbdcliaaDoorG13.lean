/-
  What telltaleref08's Crash answers.
  What disk's Append answers.
  What telltaleref08's Cut answers.
  What telltaleref08's Append answers.
-/
import Derived.Test.YtkhggofcbdcliaaDoorG12
import Derived.Test.YtkhggofcbdcliaaDoorG11
import Derived.Lib.QuietBelow
namespace Go.Proofs.YtkhggofcbdcliaaDoor
open Go.RowKit

namespace Dk
theorem kAt_le (keep : Nat) (fs : List Fi) : ∀ j, kAt keep fs j ≤ keep
  | 0 => Nat.le_refl _
  | j + 1 => by
    have := kAt_le keep fs j
    rw [kAt]
    split
    · omega
    · exact this
theorem lstTo_lt {keep : Nat} {fs : List Fi} : ∀ {k j : Nat}, lstTo keep fs k = some j → j < k
  | 0, j, h => by cases h
  | k + 1, j, h => by
    rw [lstTo] at h
    split at h
    · split at h
      · injection h with h
        omega
      · have := lstTo_lt h
        omega
    · have := lstTo_lt h
      omega
end Dk
theorem own_row_cells {W : World} {n0 N cap g i : Nat} {t : TypeId} {Lk : List Fc} {f : Fc} (hr : W.ownsRow n0 t 3 (.slice (some ⟨g, 0, none⟩) N cap) Lk.length (fCells Lk)) (hN : Lk.length = N) (hx : Lk[i]? = some f) :
    W.cell? ⟨g, i * 3, none⟩ = some (.int .i64 f.num) ∧ W.cell? ⟨g, i * 3 + 1, none⟩ = some (.slice f.X f.l.length f.c) ∧ W.cell? ⟨g, i * 3 + 2, none⟩ = some (.int .i64 f.s) := by
  subst hN
  obtain ⟨h0, h1, h2, -⟩ := row_cells hr hx
  exact ⟨h0, h1, h2⟩
/-- The number that the reference keeps of the last one's place. -/
def lastI : Option Nat → Int
  | none => -1
  | some j => (j : Int)

end Go.Proofs.YtkhggofcbdcliaaDoor
namespace Go.Proofs.YtkhggofcbdcliaaDoor
open Go.RowKit

namespace Dk
theorem two_filters (n : Int) : ∀ l : List Fi, (l.filter (fun f => decide (f.1 < n))).length + (l.filter (fun f => decide (n < f.1))).length ≤ l.length
  | [] => Nat.le_refl _
  | f :: r => by
    have ih := two_filters n r
    rw [List.filter_cons, List.filter_cons]
    by_cases h1 : f.1 < n
    · have h2 : ¬ n < f.1 := by omega
      simp [h1, h2]
      omega
    · by_cases h2 : n < f.1
      · simp [h1, h2]
        omega
      · simp [h1, h2]
        omega
theorem len_ins_mem {n : Int} {L : List Fc} {room : Int} (hq : fmd room (L.map Fc.fi) = true) {L2 : List Fc} (h : L2.map Fc.fi = ins (L.map Fc.fi) n) : L2.length ≤ 1048578 ∧ ∀ f ∈ L2, (f.l.length : Int) ≤ used (L.map Fc.fi) := by
  have hl := congrArg List.length h
  rw [List.length_map] at hl
  have hlen := len_le hq
  have hmem : ∀ g ∈ ins (L.map Fc.fi) n, (g.2.1.length : Int) ≤ used (L.map Fc.fi) := fun g hg => by
    unfold ins at hg
    have h0 := used_nonneg (L.map Fc.fi)
    split at hg
    · rcases List.mem_append.1 hg with h1 | h1
      · exact used_mem (List.mem_filter.1 h1).1
      · rcases List.mem_cons.1 h1 with rfl | h1
        · simpa using h0
        · exact used_mem (List.mem_filter.1 h1).1
    · exact used_mem hg
  refine ⟨?_, fun f hf => ?_⟩
  · rw [hl]
    unfold ins
    split
    · rw [List.length_append, List.length_cons]
      have h1 := two_filters n (L.map Fc.fi)
      rw [List.length_map] at h1
      exact Nat.le_trans (Nat.succ_le_succ h1) (by omega)
    · rw [List.length_map]
      omega
  · have : f.fi ∈ ins (L.map Fc.fi) n := by rw [← h]; exact List.mem_map.2 ⟨f, hf, rfl⟩
    exact hmem f.fi this
end Dk

set_option maxRecDepth 100000 in
set_option maxHeartbeats 3200000 in
theorem dappend_any (room n : Int) (A B : Option Addr) (c cb : Nat) (L : List Fc) (b : List Int) (w : World) (h : OneD w A c L) (hb : OneB w B cb b) :
    Calls Tryd.prog 30 #[.agg #[.int .i64 room, .slice A L.length c], .int .i64 n, .slice B b.length cb] w (GivesDE (Dk.appR room (L.map Fc.fi) n b) w) := by
  have bn := below_new (below_new (below_new (Below.refl w.heap.size w) (.cells #[.int .i64 room, .slice A L.length c] 24)) (.cells #[.slice B b.length cb] 25)) (.cells #[.int .i64 0, .slice none 0 0] 24)
  have N := Lib.hid (dformed_any room A c L _ (h.later bn))
  have B0 := Lib.hid (((Blk.new w 24 #[.int .i64 room, .slice A L.length c]).alloc (.cells #[.slice B b.length cb] 25)).alloc (.cells #[.int .i64 0, .slice none 0 0] 24))
  have B1 := Lib.hid (show Blk _ (w.heap.size + 1) 25 #[.slice B b.length cb] from by simpa using (Blk.new (w.alloc (.cells #[.int .i64 room, .slice A L.length c] 24)) 25 #[.slice B b.length cb]).alloc (.cells #[.int .i64 0, .slice none 0 0] 24))
  have B2 := Lib.hid (show Blk _ (w.heap.size + 1 + 1) 24 #[.int .i64 0, .slice none 0 0] from by simpa using Blk.new ((w.alloc (.cells #[.int .i64 room, .slice A L.length c] 24)).alloc (.cells #[.slice B b.length cb] 25)) 24 #[.int .i64 0, .slice none 0 0])
  have HD := Lib.hid h
  have HBB := Lib.hid hb
  have hbl := hb.len
  have W3 := Lib.hid (fun w => within_any n 1048576 w)
  clear h hb
  cases hq : Dk.fmd room (L.map Fc.fi) with
  | false =>
    have hR : Dk.appR room (L.map Fc.fi) n b = (0, [], 1) := by unfold Dk.appR; rw [if_neg (fun h => by rw [hq] at h; exact absurd h.1 Bool.false_ne_true)]
    rw [hR]
    rw [hq] at N
    clear hq hR HD B0 B1
    go_enter Tryd.func30, Tryd.ntmps30
    go_wp2_with fail
    refine N.out.mono ?_
    rintro e w1 ⟨rfl, b1⟩
    have z' := B2.out.later b1
    have y0 := z'.cell (i := 0) rfl
    have y1 := z'.cell (i := 1) rfl
    have s0 := z'.free 0
    have s1 := z'.free 1
    have hz := (z'.put 0 (.int .i64 0)).put 1 (.slice none 0 0)
    have z0 := Lib.hid (hz.cell (i := 0) rfl)
    have z1 := Lib.hid (hz.cell (i := 1) rfl)
    have hbz := ((below_on bn b1).setCell (p := ⟨w.heap.size + 1 + 1, 0, none⟩) (by show w.heap.size ≤ w.heap.size + 1 + 1; omega) (.int .i64 0)).setCell (p := ⟨w.heap.size + 1 + 1, 1, none⟩) (by show w.heap.size ≤ w.heap.size + 1 + 1; omega) (.slice none 0 0)
    have FIN := Lib.hid (GivesDE.err 1 hbz)
    clear z' hz hbz 
    go_wp2
    have z0 := z0.out
    have z1 := z1.out
    exact bodyPost_ret (v := .tuple #[.agg #[.int .i64 0, .slice none 0 0], .int .i64 1]) (by simp [results, Tryd.results30, go_sem, z0, z1]) rfl FIN.out
  | true =>
    rw [hq] at N
    have HQ := Lib.hid hq
    have hF := Dk.fmd_facts hq
    have hu0 := Dk.used_nonneg (L.map Fc.fi)
    have hu1 := hF.use
    have hr0 := hF.r0
    have hr1 := hF.r1
    obtain ⟨u, hU⟩ : ∃ u, Dk.used (L.map Fc.fi) = u := ⟨_, rfl⟩
    have HU := Lib.hid hU
    rw [hU] at hu0 hu1
    cases hw : Dk.win n 1048576 with
    | false =>
      have hR : Dk.appR room (L.map Fc.fi) n b = (0, [], 1) := by unfold Dk.appR; rw [if_neg (fun h => by rw [hw] at h; exact absurd h.2 Bool.false_ne_true)]
      rw [hR]
      rw [hw] at W3
      clear hq hR hF hU hw HD B1
      go_enter Tryd.func30, Tryd.ntmps30
      go_wp2_with fail
      refine N.out.mono ?_
      rintro e w1 ⟨rfl, b1⟩
      go_wp2_with fail
      refine (W3.out _).mono ?_
      rintro e w' ⟨rfl, rfl⟩
      have z' := B2.out.later b1
      have y0 := z'.cell (i := 0) rfl
      have y1 := z'.cell (i := 1) rfl
      have s0 := z'.free 0
      have s1 := z'.free 1
      have hz := (z'.put 0 (.int .i64 0)).put 1 (.slice none 0 0)
      have z0 := Lib.hid (hz.cell (i := 0) rfl)
      have z1 := Lib.hid (hz.cell (i := 1) rfl)
      have hbz := ((below_on bn b1).setCell (p := ⟨w.heap.size + 1 + 1, 0, none⟩) (by show w.heap.size ≤ w.heap.size + 1 + 1; omega) (.int .i64 0)).setCell (p := ⟨w.heap.size + 1 + 1, 1, none⟩) (by show w.heap.size ≤ w.heap.size + 1 + 1; omega) (.slice none 0 0)
      have FIN := Lib.hid (GivesDE.err 1 hbz)
      clear z' hz hbz 
      go_wp2
      have z0 := z0.out
      have z1 := z1.out
      exact bodyPost_ret (v := .tuple #[.agg #[.int .i64 0, .slice none 0 0], .int .i64 1]) (by simp [results, Tryd.results30, go_sem, z0, z1]) rfl FIN.out
    | true =>
      rw [hw] at W3
      by_cases hsp : room - u < (b.length : Int)
      · have hR : Dk.appR room (L.map Fc.fi) n b = (0, [], 7) := by unfold Dk.appR; rw [if_pos ⟨hq, hw⟩, if_pos (by rw [hU]; exact hsp)]
        rw [hR]
        have dsp : decide (room - u < (b.length : Int)) = true := decide_eq_true hsp
        clear hq hR hF hU hw
        go_enter Tryd.func30, Tryd.ntmps30
        go_wp2_with fail
        refine N.out.mono ?_
        rintro e w1 ⟨rfl, b1⟩
        have bb := below_on bn b1
        have k1 := fun d os => cell_regrown (d := d) (os := os) ((B1.out.later b1).cell (i := 0) rfl)
        have k2 := fun d os => cell_regrown (d := d) (os := os) ((B0.out.later b1).cell (i := 0) rfl)
        have k3 := fun d os => cell_regrown (d := d) (os := os) ((B0.out.later b1).cell (i := 1) rfl)
        have CN := Lib.hid (fun d os => Calls.regrown_of (dused_any room A c L (Sort.grow (redrawn w1 d) os) ((HD.out.later bb).later (below_regrown w1 d os))))
        rw [Dk.usd_yes HQ.out, HU.out] at CN
        go_wp2_with fail
        refine (W3.out _).mono ?_
        rintro e w' ⟨rfl, hw'⟩
        have hw2 := hw'.symm
        subst hw2
        clear hw'
        go_wp2_with fail
        refine wp_region_quiet_below (by kernel_rfl) (by kernel_rfl) ?_
        repeat (first | go_big_quiet_step (exact CN.out _ _) | quiet_step (exact CN.out _ _))
        refine wpQuiet_nil ?_
        intro _ hw'
        obtain ⟨⟨dq, osq⟩, hw''⟩ := hw'
        subst hw''
        have bq := below_regrown w1 dq osq
        have z' := (B2.out.later b1).later bq
        have y0 := z'.cell (i := 0) rfl
        have y1 := z'.cell (i := 1) rfl
        have s0 := z'.free 0
        have s1 := z'.free 1
        have hz := (z'.put 0 (.int .i64 0)).put 1 (.slice none 0 0)
        have z0 := Lib.hid (hz.cell (i := 0) rfl)
        have z1 := Lib.hid (hz.cell (i := 1) rfl)
        have hbz := ((below_on bb bq).setCell (p := ⟨w.heap.size + 1 + 1, 0, none⟩) (by show w.heap.size ≤ w.heap.size + 1 + 1; omega) (.int .i64 0)).setCell (p := ⟨w.heap.size + 1 + 1, 1, none⟩) (by show w.heap.size ≤ w.heap.size + 1 + 1; omega) (.slice none 0 0)
        have FIN := Lib.hid (GivesDE.err 7 hbz)
        clear z' hz hbz k1 k2 k3
        go_wp2
        have z0 := z0.out
        have z1 := z1.out
        exact bodyPost_ret (v := .tuple #[.agg #[.int .i64 0, .slice none 0 0], .int .i64 7]) (by simp [results, Tryd.results30, go_sem, z0, z1]) rfl FIN.out
      · have hR : Dk.appR room (L.map Fc.fi) n b = (room, (Dk.ins (L.map Fc.fi) n).map (Dk.app1 n b), 0) := by unfold Dk.appR; rw [if_pos ⟨hq, hw⟩, if_neg (by rw [hU]; exact hsp)]
        rw [hR]
        have dsp : decide (room - u < (b.length : Int)) = false := decide_eq_false hsp
        clear hq hR hF hU hw
        go_enter Tryd.func30, Tryd.ntmps30
        go_wp2_with fail
        refine N.out.mono ?_
        rintro e w1 ⟨rfl, b1⟩
        have bb := below_on bn b1
        have k1 := fun d os => cell_regrown (d := d) (os := os) ((B1.out.later b1).cell (i := 0) rfl)
        have k2 := fun d os => cell_regrown (d := d) (os := os) ((B0.out.later b1).cell (i := 0) rfl)
        have k3 := fun d os => cell_regrown (d := d) (os := os) ((B0.out.later b1).cell (i := 1) rfl)
        have CN := Lib.hid (fun d os => Calls.regrown_of (dused_any room A c L (Sort.grow (redrawn w1 d) os) ((HD.out.later bb).later (below_regrown w1 d os))))
        rw [Dk.usd_yes HQ.out, HU.out] at CN
        go_wp2_with fail
        refine (W3.out _).mono ?_
        rintro e w' ⟨rfl, hw'⟩
        have hw2 := hw'.symm
        subst hw2
        clear hw'
        go_wp2_with fail
        refine wp_region_quiet_below (by kernel_rfl) (by kernel_rfl) ?_
        repeat (first | go_big_quiet_step (exact CN.out _ _) | quiet_step (exact CN.out _ _))
        refine wpQuiet_nil ?_
        intro _ hw'
        obtain ⟨⟨dq, osq⟩, hw''⟩ := hw'
        subst hw''
        have bq := below_regrown w1 dq osq
        obtain ⟨W2, hW2⟩ : ∃ W2, Sort.grow (redrawn w1 dq) osq = W2 := ⟨_, rfl⟩
        rw [hW2] at bq
        rw [hW2]
        have bb2 := below_on bb bq
        have E0 := (B0.out.later b1).later bq
        have E1 := Lib.hid ((B1.out.later b1).later bq)
        have E2 := Lib.hid ((B2.out.later b1).later bq)
        have d0 := E0.cell (i := 0) rfl
        have d1 := E0.cell (i := 1) rfl
        have NW := Lib.hid (withFile_any room n A c L W2 (HD.out.later bb2) HQ.out)
        have HBQ := Lib.hid bb2
        clear k1 k2 k3 CN E0 hW2 bq bb2
        go_wp2_with fail
        refine NW.out.mono ?_
        rintro e w3 ⟨A3, c3, L3, rfl, hO3, hfi3, b3⟩
        have ON := Lib.hid (donly_any n 50 #[.pointer (some ⟨w.heap.size + 1, 0, none⟩)] w3)
        obtain ⟨m1, m2⟩ := Dk.len_ins_mem HQ.out hfi3
        have HO3 := Lib.hid hO3; have HF3 := Lib.hid hfi3; have HB3 := Lib.hid (below_on HBQ.out b3); have HE1 := Lib.hid (E1.out.later b3); have HE2 := Lib.hid (E2.out.later b3); have M2 := Lib.hid m2
        clear hO3 hfi3 b3 m2 d0 d1
        go_wp2_with fail
        refine ON.out.mono ?_
        rintro e w5 ⟨rfl, o0, o1, b5, hs5⟩
        have hbw5 := below_on HB3.out b5
        have NC := Lib.hid (changed_any room A3 c3 L3 63 #[.pointer (some ⟨w3.heap.size, 0, none⟩), .pointer (some ⟨w3.heap.size + 1, 0, none⟩)] (fun _ _ => rfl) (JB w5.heap.size w5 (L3.map Fc.fi) (Dk.app1 n b)) w5 (HO3.out.later b5)
          ⟨by omega, fun f hf => by have := M2.out f hf; rw [HU.out] at this; omega⟩ (JB.start _ _ _ _) (fun d W W' => JB.stab d W W')
          (appChg w5.heap.size L3.length w5 (L3.map Fc.fi) n B cb b w3.heap.size (w3.heap.size + 1) (w.heap.size + 1) (o0.cell (i := 0) rfl) (o1.cell (i := 0) rfl) ((HE1.out.later b5).cell (i := 0) rfl) (HBB.out.later hbw5) rfl o0.lt o1.lt (HE1.out.later b5).lt (fun f hf _ => by
            obtain ⟨x, hx, rfl⟩ := List.mem_map.1 hf
            have := M2.out x hx
            rw [HU.out] at this
            show x.l.length + b.length ≤ 140737488355328
            omega)))
        have HB5 := Lib.hid hbw5
        have HZ := Lib.hid (HE2.out.later b5)
        clear o0 o1 b5 hbw5 hs5
        go_wp2_with fail
        refine NC.out.mono ?_
        rintro e w6 ⟨v, L4, rfl, hO, hl, hJ⟩
        have b6 := hJ.1
        have hfi := hJ.done (by simp [hl])
        rw [HF3.out] at hfi
        obtain ⟨V, cv, rfl, -, -, -, -⟩ := own_form hO.row
        have hzl : w.heap.size + 1 + 1 < w5.heap.size := HZ.out.lt
        have HO := Lib.hid hO; have HFI := Lib.hid hfi
        have bb6 := below_on HB5.out b6
        have Z6 := HZ.out.later b6
        clear hO hl hJ hfi b6
        have z' := Z6
        have y0 := z'.cell (i := 0) rfl
        have y1 := z'.cell (i := 1) rfl
        have s0 := z'.free 0
        have s1 := z'.free 1
        have hz := (z'.put 0 (.int .i64 room)).put 1 (.slice V L4.length cv)
        have z0 := Lib.hid (hz.cell (i := 0) rfl)
        have z1 := Lib.hid (hz.cell (i := 1) rfl)
        have hbz := ((bb6).setCell (p := ⟨w.heap.size + 1 + 1, 0, none⟩) (by show w.heap.size ≤ w.heap.size + 1 + 1; omega) (.int .i64 room)).setCell (p := ⟨w.heap.size + 1 + 1, 1, none⟩) (by show w.heap.size ≤ w.heap.size + 1 + 1; omega) (.slice V L4.length cv)
        have hO2 := (((HO.out).low (p := ⟨w.heap.size + 1 + 1, 0, none⟩) (by show w.heap.size + 1 + 1 < _; omega) (.int .i64 room)).low (p := ⟨w.heap.size + 1 + 1, 1, none⟩) (by show w.heap.size + 1 + 1 < _; omega) (.slice V L4.length cv)).lower (base' := w.heap.size) (by omega)
        have FIN := Lib.hid (show GivesDE (room, (Dk.ins (L.map Fc.fi) n).map (Dk.app1 n b), 0) w (.returned (.tuple #[.agg #[.int .i64 room, .slice V L4.length cv], .int .i64 0])) _ from ⟨_, L4, rfl, hO2, HFI.out, hbz⟩)
        clear z' hz hbz Z6 bb6 hO2
        go_wp2
        have z0 := z0.out
        have z1 := z1.out
        exact bodyPost_ret (v := .tuple #[.agg #[.int .i64 room, .slice V L4.length cv], .int .i64 0]) (by simp [results, Tryd.results30, go_sem, z0, z1]) rfl FIN.out
end Go.Proofs.YtkhggofcbdcliaaDoor
namespace Go.Proofs.YtkhggofcbdcliaaDoor
open Go.RowKit

/-- With the numbers rising, the file of a number is the only one. -/
theorem only_one {room n : Int} {L : List Fc} {at_ : Nat} {x : Fc} (hq : Dk.fmd room (L.map Fc.fi) = true) (hx : L[at_]? = some x) (hn : x.num = n) : ∀ (i : Nat) (y : Fc), i ≠ at_ → L[i]? = some y → y.num ≠ n := fun i y hi hy => by
  have hup := List.pairwise_iff_getElem.1 (Dk.fmd_facts hq).up
  obtain ⟨i1, i2⟩ := List.getElem?_eq_some_iff.1 hy
  obtain ⟨j1, j2⟩ := List.getElem?_eq_some_iff.1 hx
  have l1 : i < (L.map Fc.fi).length := by rw [List.length_map]; exact i1
  have l2 : at_ < (L.map Fc.fi).length := by rw [List.length_map]; exact j1
  rcases Nat.lt_or_gt_of_ne hi with q | q
  · have := hup i at_ l1 l2 q
    simp only [List.getElem_map, i2, j2] at this
    have h1 : y.num < x.num := this
    omega
  · have := hup at_ i l2 l1 q
    simp only [List.getElem_map, i2, j2] at this
    have h1 : x.num < y.num := this
    omega
/-- What becomes of the one file of that number. -/
theorem map_one {room n : Int} {L L2 : List Fc} {at_ : Nat} {x f' : Fc} {G : Fi → Fi} (hq : Dk.fmd room (L.map Fc.fi) = true) (hx : L[at_]? = some x) (hn : x.num = n) (hfi : L2.map Fc.fi = L.map Fc.fi) (h1 : f'.fi = G x.fi) (h2 : ∀ f : Fi, f.1 ≠ n → G f = f) : (L2.set at_ f').map Fc.fi = (L.map Fc.fi).map G := by
  apply List.ext_getElem?
  intro j
  have hl : L2.length = L.length := by have := congrArg List.length hfi; simpa using this
  have hat := (List.getElem?_eq_some_iff.1 hx).1
  have hj : (L2.map Fc.fi)[j]? = (L.map Fc.fi)[j]? := by rw [hfi]
  rw [List.getElem?_map, List.getElem?_map] at hj
  rw [List.getElem?_map, List.getElem?_map, List.getElem?_map]
  by_cases e : at_ = j
  · subst e
    rw [List.getElem?_set_self (by omega), hx]
    simp [h1]
  · rw [List.getElem?_set_ne e, hj]
    cases hLj : L[j]? with
    | none => rfl
    | some y =>
      have := only_one hq hx hn j y (fun e2 => e e2.symm) hLj
      simp [h2 y.fi this]

end Go.Proofs.YtkhggofcbdcliaaDoor
namespace Go.Proofs.YtkhggofcbdcliaaDoor
open Go.RowKit
namespace Dk
theorem num_fi {M L : List Fc} (h : M.map Fc.fi = L.map Fc.fi) {t : Nat} {x : Fc} (hx : M[t]? = some x) : ∃ y, L[t]? = some y ∧ x.fi = y.fi := by
  have h1 : (M.map Fc.fi)[t]? = some x.fi := by rw [List.getElem?_map, hx]; rfl
  rw [h, List.getElem?_map] at h1
  cases hy : L[t]? with
  | none => rw [hy] at h1; cases h1
  | some y => rw [hy] at h1; exact ⟨y, rfl, (Option.some.inj h1).symm⟩
theorem plc_fi {M L : List Fc} {n r : Int} (h : M.map Fc.fi = L.map Fc.fi) (hp : Plc L n r) : Plc M n r := by
  rcases hp with ⟨h1, h2⟩ | ⟨t, x, h1, h2, h3, h4⟩
  · refine .inl ⟨h1, fun t x hx => ?_⟩
    obtain ⟨y, hy, hxy⟩ := num_fi h hx
    have := h2 t y hy
    have e : x.num = y.num := congrArg (·.1) hxy
    omega
  · obtain ⟨y, hy, hxy⟩ := num_fi h.symm h2
    have e : x.num = y.num := congrArg (·.1) hxy
    refine .inr ⟨t, y, h1, hy, by omega, fun u z hu hz => ?_⟩
    obtain ⟨z', hz', hzz⟩ := num_fi h hz
    have := h4 u z' hu hz'
    have e : z.num = z'.num := congrArg (·.1) hzz
    omega
/-- The list with a file of that number put in. -/
def insL (L : List Fc) (n : Int) (at_ : Nat) : List Fc := L.take at_ ++ (⟨n, none, 0, [], 0⟩ : Fc) :: L.drop at_
theorem insL_at {L : List Fc} {n : Int} {at_ : Nat} (h : at_ ≤ L.length) : (insL L n at_)[at_]? = some ⟨n, none, 0, [], 0⟩ := by
  unfold insL
  rw [List.getElem?_append_right (by rw [List.length_take]; omega), List.length_take, Nat.min_eq_left h, Nat.sub_self]
  rfl
theorem insL_num {L : List Fc} {n : Int} {at_ : Nat} (h : Low L n at_ false) (i : Nat) (y : Fc) (hi : i ≠ at_) (hy : (insL L n at_)[i]? = some y) : y.num ≠ n := by
  have hle := h.le
  unfold insL at hy
  by_cases e : i < at_
  · rw [List.getElem?_append_left (by rw [List.length_take]; omega), List.getElem?_take_of_lt e] at hy
    have := h.lo i y e hy
    omega
  · rw [List.getElem?_append_right (by rw [List.length_take]; omega), List.length_take, Nat.min_eq_left hle] at hy
    obtain ⟨j, hj⟩ : ∃ j, i - at_ = j + 1 := ⟨i - at_ - 1, by omega⟩
    rw [hj, List.getElem?_cons_succ, List.getElem?_drop] at hy
    have := h.not rfl (at_ + j) y (by omega) hy
    omega
theorem plc_ins {L : List Fc} {n : Int} {at_ : Nat} (h : Low L n at_ false) : Plc (insL L n at_) n (at_ : Int) :=
  .inr ⟨at_, _, rfl, insL_at h.le, rfl, fun u y hu hy => insL_num h u y (by omega) hy⟩
theorem ins_low {L : List Fc} {n : Int} {at_ : Nat} (h : Low L n at_ false) : ins (L.map Fc.fi) n = (insL L n at_).map Fc.fi := by
  obtain ⟨h3, -⟩ := fnd_none h
  obtain ⟨f1, f2⟩ := filter_low h rfl
  unfold ins insL
  rw [h3, f1, f2, List.map_append, List.map_cons]
  rfl
theorem map_ins {L M : List Fc} {n : Int} {at_ : Nat} {b : List Int} {x f' : Fc} (h : Low L n at_ false) (hM : M.map Fc.fi = (insL L n at_).map Fc.fi) (hx : M[at_]? = some x) (hf : f'.fi = (x.num, x.l ++ b, x.s)) : (M.set at_ f').map Fc.fi = (ins (L.map Fc.fi) n).map (app1 n b) := by
  rw [ins_low h, List.map_set]
  apply List.ext_getElem?
  intro j
  have hat := (List.getElem?_eq_some_iff.1 hx).1
  by_cases e : at_ = j
  · subst e
    rw [List.getElem?_set_self (by rw [List.length_map]; exact hat), ← hM, List.getElem?_map, List.getElem?_map, hx]
    have hn : x.fi = (⟨n, none, 0, [], 0⟩ : Fc).fi := by
      obtain ⟨y, hy, hxy⟩ := num_fi hM hx
      rw [insL_at h.le] at hy
      cases hy
      exact hxy
    show some f'.fi = some (app1 n b x.fi)
    unfold app1
    rw [if_pos (show x.fi.1 = n from congrArg (·.1) hn), hf]
    rfl
  · rw [List.getElem?_set_ne e, hM, List.getElem?_map, List.getElem?_map, List.getElem?_map]
    cases hy : (insL L n at_)[j]? with
    | none => rfl
    | some y =>
      have := insL_num h j y (fun e2 => e e2.symm) hy
      show some y.fi = some (app1 n b y.fi)
      unfold app1
      rw [if_neg (show ¬ y.fi.1 = n from this)]
/-- How far the list with the file put in has come behind k files of the old one. -/
def insTo (fs : List Fi) (n : Int) (at_ k : Nat) : List Fi := if at_ < k then fs.take at_ ++ (n, [], 0) :: (fs.take k).drop at_ else fs.take k
theorem insTo_one {fs : List Fi} {n : Int} {at_ k : Nat} {f : Fi} (hk : k ≠ at_) (hf : fs[k]? = some f) : insTo fs n at_ (k + 1) = insTo fs n at_ k ++ [f] := by
  have hlt := (List.getElem?_eq_some_iff.1 hf).1
  have ht : fs.take (k + 1) = fs.take k ++ [f] := by
    rw [List.take_succ_eq_append_getElem hlt]
    obtain ⟨_, hh⟩ := List.getElem?_eq_some_iff.1 hf
    rw [hh]
  unfold insTo
  by_cases h : at_ < k
  · rw [if_pos h, if_pos (by omega), ht, List.drop_append_of_le_length (by rw [List.length_take]; omega), List.append_assoc]
    rfl
  · rw [if_neg h, if_neg (by omega), ht]
theorem insTo_two {fs : List Fi} {n : Int} {k : Nat} {f : Fi} (hf : fs[k]? = some f) : insTo fs n k (k + 1) = insTo fs n k k ++ [(n, [], 0)] ++ [f] := by
  have hlt := (List.getElem?_eq_some_iff.1 hf).1
  have ht : fs.take (k + 1) = fs.take k ++ [f] := by
    rw [List.take_succ_eq_append_getElem hlt]
    obtain ⟨_, hh⟩ := List.getElem?_eq_some_iff.1 hf
    rw [hh]
  unfold insTo
  rw [if_pos (by omega), if_neg (by omega), ht, List.drop_append_of_le_length (by rw [List.length_take]; omega), List.drop_of_length_le (by rw [List.length_take]; omega), List.append_assoc]
  rfl
theorem insTo_done {L : List Fc} {n : Int} {at_ : Nat} (h : at_ < L.length) : insTo (L.map Fc.fi) n at_ L.length = (insL L n at_).map Fc.fi := by
  unfold insTo insL
  rw [if_pos h, show (L.map Fc.fi).take L.length = L.map Fc.fi from List.take_of_length_le (by rw [List.length_map]; exact Nat.le_refl _), List.map_append, List.map_cons, List.map_take, List.map_drop]
  rfl
theorem insTo_not {L : List Fc} {n : Int} {at_ : Nat} (h : ¬ at_ < L.length) (h2 : at_ ≤ L.length) : insTo (L.map Fc.fi) n at_ L.length ++ [(n, [], 0)] = (insL L n at_).map Fc.fi := by
  obtain rfl : at_ = L.length := by omega
  unfold insTo insL
  rw [if_neg (by omega), List.map_append, List.map_cons, List.map_take, List.map_drop, List.drop_of_length_le (by rw [List.length_map]; exact Nat.le_refl _)]
  rfl
theorem at_ins {L M : List Fc} {n : Int} {at_ : Nat} (h : Low L n at_ false) (hM : M.map Fc.fi = (insL L n at_).map Fc.fi) : ∃ x, M[at_]? = some x ∧ x.fi = (n, [], 0) := by
  obtain ⟨y, hy, hxy⟩ := num_fi hM.symm (insL_at h.le)
  exact ⟨y, hy, hxy.symm⟩
theorem insTo_len {fs : List Fi} {n : Int} {at_ k : Nat} (hk : k ≤ fs.length) : (insTo fs n at_ k).length ≤ k + 1 := by
  unfold insTo
  split
  · rw [List.length_append, List.length_cons, List.length_drop, List.length_take, List.length_take]
    omega
  · rw [List.length_take]
    omega
end Dk
theorem OneD.cells {w : World} {b off c : Nat} {L : List Fc} (h : OneD w (some ⟨b, off, none⟩) c L) {k : Nat} {x : Fc} (hx : L[k]? = some x) : w.cell? ⟨b, off + k * 3, none⟩ = some (.int .i64 x.num) ∧ w.cell? ⟨b, off + k * 3 + 1, none⟩ = some (.slice x.X x.l.length x.c) ∧ w.cell? ⟨b, off + k * 3 + 2, none⟩ = some (.int .i64 x.s) := by
  obtain ⟨b', off', hA, hc⟩ := h.at (fun e => by subst e; simp at hx)
  injection hA with hA
  injection hA with h1 h2
  subst h1 h2
  exact hc k x hx

set_option maxRecDepth 100000 in
set_option maxHeartbeats 6400000 in
theorem rappend_any (room n : Int) (A B : Option Addr) (c cb : Nat) (L : List Fc) (b : List Int) (w : World) (h : OneD w A c L) (hb : OneB w B cb b) :
    Calls Tryd.prog 33 #[.agg #[.int .i64 room, .slice A L.length c], .int .i64 n, .slice B b.length cb] w (GivesDE (Dk.appR room (L.map Fc.fi) n b) w) := by
  have bn := below_new (below_new (Below.refl w.heap.size w) (.cells #[.int .i64 room, .slice A L.length c] 24)) (.cells #[.int .i64 0, .slice none 0 0] 24)
  have N := Lib.hid (rformed_any room A c L _ (h.later bn))
  have B1 := Lib.hid (show Blk _ (w.heap.size + 1) 24 #[.int .i64 0, .slice none 0 0] from by simpa using Blk.new (w.alloc (.cells #[.int .i64 room, .slice A L.length c] 24)) 24 #[.int .i64 0, .slice none 0 0])
  have B0 := Lib.hid ((Blk.new w 24 #[.int .i64 room, .slice A L.length c]).alloc (.cells #[.int .i64 0, .slice none 0 0] 24))
  have HD := Lib.hid h
  have HBB := Lib.hid hb
  have hbl := hb.len
  obtain ⟨i0, hI, hz0, hz1, hz2⟩ := info_parts infoFi
  obtain ⟨iB, hIB, hzB0, hzB1, hzB2⟩ := info_parts infoBy
  clear h hb
  cases hq : Dk.fmd room (L.map Fc.fi) with
  | false =>
    rw [hq] at N
    have hR : Dk.appR room (L.map Fc.fi) n b = (0, [], 1) := by unfold Dk.appR; rw [if_neg (fun h => by rw [hq] at h; exact absurd h.1 Bool.false_ne_true)]
    rw [hR]
    clear hR HD B0 HBB
    go_enter Tryd.func33, Tryd.ntmps33
    go_wp2_with fail
    refine N.out.mono ?_
    rintro e w1 ⟨rfl, b1⟩
    have z' := B1.out.later b1
    have y0 := z'.cell (i := 0) rfl
    have y1 := z'.cell (i := 1) rfl
    have s0 := z'.free 0
    have s1 := z'.free 1
    have hz := (z'.put 0 (.int .i64 0)).put 1 (.slice none 0 0)
    have z0 := Lib.hid (hz.cell (i := 0) rfl)
    have z1 := Lib.hid (hz.cell (i := 1) rfl)
    have hbz := ((below_on bn b1).setCell (p := ⟨w.heap.size + 1, 0, none⟩) (by show w.heap.size ≤ w.heap.size + 1; omega) (.int .i64 0)).setCell (p := ⟨w.heap.size + 1, 1, none⟩) (by show w.heap.size ≤ w.heap.size + 1; omega) (.slice none 0 0)
    have FIN := Lib.hid (GivesDE.err 1 hbz)
    clear z' hz hbz 
    go_wp2
    have z0 := z0.out
    have z1 := z1.out
    exact bodyPost_ret (v := .tuple #[.agg #[.int .i64 0, .slice none 0 0], .int .i64 1]) (by simp [results, Tryd.results33, go_sem, z0, z1]) rfl FIN.out
  | true =>
  rw [hq] at N
  by_cases hn0 : n < 0
  · have dn0 : decide (n < 0) = true := decide_eq_true hn0
    have hR : Dk.appR room (L.map Fc.fi) n b = (0, [], 1) := by unfold Dk.appR; rw [if_neg (fun h => by have := Dk.win_yes h.2; omega)]
    rw [hR]
    clear hR HD B0 HBB
    go_enter Tryd.func33, Tryd.ntmps33
    go_wp2_with fail
    refine N.out.mono ?_
    rintro e w1 ⟨rfl, b1⟩
    have z' := B1.out.later b1
    have y0 := z'.cell (i := 0) rfl
    have y1 := z'.cell (i := 1) rfl
    have s0 := z'.free 0
    have s1 := z'.free 1
    have hz := (z'.put 0 (.int .i64 0)).put 1 (.slice none 0 0)
    have z0 := Lib.hid (hz.cell (i := 0) rfl)
    have z1 := Lib.hid (hz.cell (i := 1) rfl)
    have hbz := ((below_on bn b1).setCell (p := ⟨w.heap.size + 1, 0, none⟩) (by show w.heap.size ≤ w.heap.size + 1; omega) (.int .i64 0)).setCell (p := ⟨w.heap.size + 1, 1, none⟩) (by show w.heap.size ≤ w.heap.size + 1; omega) (.slice none 0 0)
    have FIN := Lib.hid (GivesDE.err 1 hbz)
    clear z' hz hbz 
    go_wp2
    have z0 := z0.out
    have z1 := z1.out
    exact bodyPost_ret (v := .tuple #[.agg #[.int .i64 0, .slice none 0 0], .int .i64 1]) (by simp [results, Tryd.results33, go_sem, z0, z1]) rfl FIN.out
  have dn0 : decide (n < 0) = false := decide_eq_false hn0
  by_cases hn1 : 1048576 < n
  · have dn1 : decide (1048576 < n) = true := decide_eq_true hn1
    have hR : Dk.appR room (L.map Fc.fi) n b = (0, [], 1) := by unfold Dk.appR; rw [if_neg (fun h => by have := Dk.win_yes h.2; omega)]
    rw [hR]
    clear hR HD B0 HBB
    go_enter Tryd.func33, Tryd.ntmps33
    go_wp2_with fail
    refine N.out.mono ?_
    rintro e w1 ⟨rfl, b1⟩
    have z' := B1.out.later b1
    have y0 := z'.cell (i := 0) rfl
    have y1 := z'.cell (i := 1) rfl
    have s0 := z'.free 0
    have s1 := z'.free 1
    have hz := (z'.put 0 (.int .i64 0)).put 1 (.slice none 0 0)
    have z0 := Lib.hid (hz.cell (i := 0) rfl)
    have z1 := Lib.hid (hz.cell (i := 1) rfl)
    have hbz := ((below_on bn b1).setCell (p := ⟨w.heap.size + 1, 0, none⟩) (by show w.heap.size ≤ w.heap.size + 1; omega) (.int .i64 0)).setCell (p := ⟨w.heap.size + 1, 1, none⟩) (by show w.heap.size ≤ w.heap.size + 1; omega) (.slice none 0 0)
    have FIN := Lib.hid (GivesDE.err 1 hbz)
    clear z' hz hbz 
    go_wp2
    have z0 := z0.out
    have z1 := z1.out
    exact bodyPost_ret (v := .tuple #[.agg #[.int .i64 0, .slice none 0 0], .int .i64 1]) (by simp [results, Tryd.results33, go_sem, z0, z1]) rfl FIN.out
  have dn1 : decide (1048576 < n) = false := decide_eq_false hn1
  have hw : Dk.win n 1048576 = true := decide_eq_true ⟨by omega, by omega⟩
  have HQ := Lib.hid hq
  have hF := Dk.fmd_facts hq
  have hu0 := Dk.used_nonneg (L.map Fc.fi)
  have hu1 := hF.use
  have hr0 := hF.r0
  have hr1 := hF.r1
  obtain ⟨u, hU⟩ : ∃ u, Dk.used (L.map Fc.fi) = u := ⟨_, rfl⟩
  have HU := Lib.hid hU
  rw [hU] at hu0 hu1
  by_cases hsp : room - u < (b.length : Int)
  · have hR : Dk.appR room (L.map Fc.fi) n b = (0, [], 7) := by unfold Dk.appR; rw [if_pos ⟨hq, hw⟩, if_pos (by rw [hU]; exact hsp)]
    rw [hR]
    have dsp : decide (room - u < (b.length : Int)) = true := decide_eq_true hsp
    clear hq hR hF hU hw
    go_enter Tryd.func33, Tryd.ntmps33
    go_wp2_with fail
    refine N.out.mono ?_
    rintro e w1 ⟨rfl, b1⟩
    have bb := below_on bn b1
    have k2 := fun d os => cell_regrown (d := d) (os := os) ((B0.out.later b1).cell (i := 0) rfl)
    have k3 := fun d os => cell_regrown (d := d) (os := os) ((B0.out.later b1).cell (i := 1) rfl)
    have CN := Lib.hid (fun d os => Calls.regrown_of (rused_any rformed_any room A c L (Sort.grow (redrawn w1 d) os) ((HD.out.later bb).later (below_regrown w1 d os))))
    rw [Dk.usd_yes HQ.out, HU.out] at CN
    go_wp2_with fail
    refine wp_region_quiet_below (by kernel_rfl) (by kernel_rfl) ?_
    repeat (first | go_big_quiet_step (exact CN.out _ _) | quiet_step (exact CN.out _ _))
    refine wpQuiet_nil ?_
    intro _ hw'
    obtain ⟨⟨dq, osq⟩, hw''⟩ := hw'
    subst hw''
    have bq := below_regrown w1 dq osq
    have z' := (B1.out.later b1).later bq
    have y0 := z'.cell (i := 0) rfl
    have y1 := z'.cell (i := 1) rfl
    have s0 := z'.free 0
    have s1 := z'.free 1
    have hz := (z'.put 0 (.int .i64 0)).put 1 (.slice none 0 0)
    have z0 := Lib.hid (hz.cell (i := 0) rfl)
    have z1 := Lib.hid (hz.cell (i := 1) rfl)
    have hbz := ((below_on bb bq).setCell (p := ⟨w.heap.size + 1, 0, none⟩) (by show w.heap.size ≤ w.heap.size + 1; omega) (.int .i64 0)).setCell (p := ⟨w.heap.size + 1, 1, none⟩) (by show w.heap.size ≤ w.heap.size + 1; omega) (.slice none 0 0)
    have FIN := Lib.hid (GivesDE.err 7 hbz)
    clear z' hz hbz 
    go_wp2
    have z0 := z0.out
    have z1 := z1.out
    exact bodyPost_ret (v := .tuple #[.agg #[.int .i64 0, .slice none 0 0], .int .i64 7]) (by simp [results, Tryd.results33, go_sem, z0, z1]) rfl FIN.out
  have hR : Dk.appR room (L.map Fc.fi) n b = (room, (Dk.ins (L.map Fc.fi) n).map (Dk.app1 n b), 0) := by unfold Dk.appR; rw [if_pos ⟨hq, hw⟩, if_neg (by rw [hU]; exact hsp)]
  rw [hR]
  have dsp : decide (room - u < (b.length : Int)) = false := decide_eq_false hsp
  have HFT := Lib.hid (Dk.fit hq)
  have hlen := Dk.len_le hq
  have HWAYS := Lib.hid (Dk.ways n hq)
  clear hq hR hF hU hw
  go_enter Tryd.func33, Tryd.ntmps33
  go_wp2_with fail
  refine N.out.mono ?_
  rintro e w1 ⟨rfl, b1⟩
  have bb := below_on bn b1
  have k2 := fun d os => cell_regrown (d := d) (os := os) ((B0.out.later b1).cell (i := 0) rfl)
  have k3 := fun d os => cell_regrown (d := d) (os := os) ((B0.out.later b1).cell (i := 1) rfl)
  have CN := Lib.hid (fun d os => Calls.regrown_of (rused_any rformed_any room A c L (Sort.grow (redrawn w1 d) os) ((HD.out.later bb).later (below_regrown w1 d os))))
  rw [Dk.usd_yes HQ.out, HU.out] at CN
  go_wp2_with fail
  refine wp_region_quiet_below (by kernel_rfl) (by kernel_rfl) ?_
  repeat (first | go_big_quiet_step (exact CN.out _ _) | quiet_step (exact CN.out _ _))
  refine wpQuiet_nil ?_
  intro _ hw'
  obtain ⟨⟨dq, osq⟩, hw''⟩ := hw'
  subst hw''
  have bq := below_regrown w1 dq osq
  obtain ⟨W2, hW2⟩ : ∃ W2, Sort.grow (redrawn w1 dq) osq = W2 := ⟨_, rfl⟩
  rw [hW2] at bq
  rw [hW2]
  have bb2 := below_on bb bq
  have E0 := (B0.out.later b1).later bq
  have E1 := (B1.out.later b1).later bq
  have d0 := E0.cell (i := 0) rfl
  have d1 := E0.cell (i := 1) rfl
  have NC := Lib.hid (rcopyDS_any room A c L W2 (HD.out.later bb2) HFT.out)
  have E0H := Lib.hid E0
  have E1H := Lib.hid E1
  clear k2 k3 CN E0 E1 hW2 bq
  go_wp2_with fail
  refine NC.out.mono ?_
  rintro e w3 ⟨v, L2, rfl, hO, hfi, b3⟩
  have hl2 : L2.length = L.length := by have := congrArg List.length hfi; simpa using this
  obtain ⟨V, cv, rfl, -, hcm, -, -⟩ := own_form hO.own.row
  have bb3 := below_on bb2 b3
  have b4 : Below w3.heap.size w3 (w3.alloc (.cells #[.int .i64 room, .slice V L2.length cv] 24)) := below_new (Below.refl _ _) _
  have HY : Blk (w3.alloc (.cells #[.int .i64 room, .slice V L2.length cv] 24)) w3.heap.size 24 #[.int .i64 room, .slice V L2.length cv] := Blk.new _ _ _
  have HZ := ((E1H.out.later b3).later b4)
  have HX := ((E0H.out.later b3).later b4)
  have HH := hO.later b4
  have bb4 := below_on bb3 b4
  have hzl : w.heap.size + 1 < W2.heap.size := E1H.out.lt
  have hs3 := b3.size
  have hs4 : ((w3.alloc (.cells #[.int .i64 room, .slice V L2.length cv] 24))).heap.size = w3.heap.size + 1 := by simp
  have HFI := Lib.hid hfi
  have hl2' : L2.length ≤ 1048577 := by omega
  have HL2 := Lib.hid hl2
  have y0 := HY.cell (i := 0) rfl
  have y1 := HY.cell (i := 1) rfl
  have YH := Lib.hid HY; have ZH := Lib.hid HZ; have XH := Lib.hid HX; have HHH := Lib.hid HH; have BB4 := Lib.hid bb4
  clear b1 b3 b4 HY HZ HX HH bb4 bb3 bb2 bb hO hfi d0 d1 hcm hl2
  rcases HWAYS.out with ⟨at_, hlow, hf, hp⟩ | ⟨at_, x0, hlow, hx, hxn, hf, hp⟩
  · have NP := Lib.hid (rplace_any room n (-1) V cv L2 _ HHH.out.own.oneD (Dk.plc_fi HFI.out hp))
    have HLW := Lib.hid hlow
    have hat := hlow.le
    clear hlow hf hp
    go_wp2_with fail
    refine NP.out.mono ?_
    rintro e w5 ⟨rfl, b5⟩
    have Y5 := YH.out.later b5
    have ty1 := Y5.cell (i := 1) rfl
    have ty2 := Y5.free 1
    have X5 := Lib.hid ((XH.out.later b5).far (p := ⟨w3.heap.size, 1, none⟩) (by show w.heap.size ≠ w3.heap.size; omega) (.slice none 0 0))
    have Z5 := Lib.hid ((ZH.out.later b5).far (p := ⟨w3.heap.size, 1, none⟩) (by show w.heap.size + 1 ≠ w3.heap.size; omega) (.slice none 0 0))
    have Q5 := Lib.hid (Y5.put 1 (.slice none 0 0))
    have B5 := Lib.hid ((below_on BB4.out b5).setCell (p := ⟨w3.heap.size, 1, none⟩) (by show w.heap.size ≤ w3.heap.size; omega) (.slice none 0 0))
    have hs5 := b5.size
    have hls : w.heap.size + 1 < w3.heap.size := by omega
    clear b5 Y5 y0 y1 YH ZH XH HHH BB4 HFI HL2 hl2' hs4 hs3 hzl hs5 NC E0H E1H
    go_wp2_with fail
    go_loopw [9, 10] (fun s9 s10 wr => ∃ (k : Nat) (v : Value) (M : List Fc), k ≤ L.length ∧ s10 = .int .i64 (k : Int) ∧ s9 = .bool (decide (at_ < k)) ∧ HardD wr (w3.heap.size + 1) 50 5 v M ∧ M.map Fc.fi = Dk.insTo (L.map Fc.fi) n at_ k ∧ Blk wr w.heap.size 24 #[.int .i64 room, .slice A L.length c] ∧ Blk wr (w.heap.size + 1) 24 #[.int .i64 0, .slice none 0 0] ∧ Blk wr w3.heap.size 24 #[.int .i64 room, v] ∧ Below w.heap.size w wr) (fun _ s10 _ => L.length - (intOf s10).toNat)
    case atStart => exact ⟨0, _, [], Nat.zero_le _, rfl, (by rw [decide_eq_false (Nat.not_lt_zero _)]), HardD.nil _ _ _ _, (by unfold Dk.insTo; rw [if_neg (Nat.not_lt_zero _)]; rfl), X5.out, Z5.out, Q5.out, B5.out⟩
    case round =>
      obtain ⟨k, v, M, hk, rfl, rfl, hO, hfi, hD0, hD1, hD2, hbw⟩ := hrel
      obtain ⟨V2, cv2, rfl, -, hcm, -, -⟩ := own_form hO.own.row
      unfold maxLen at hcm
      have hMl : M.length ≤ k + 1 := by
        have h1 := congrArg List.length hfi
        rw [List.length_map] at h1
        have h2 := Dk.insTo_len (fs := L.map Fc.fi) (n := n) (at_ := at_) (k := k) (by rw [List.length_map]; exact hk)
        omega
      have d01 := hD0.cell (i := 1) rfl
      have d21 := hD2.cell (i := 1) rfl
      have f21 := hD2.free 1
      have hlo := hD2.lt
      by_cases hlt : k < L.length
      · have hne : L ≠ [] := fun e => by subst e; simp at hlt
        obtain ⟨bA, off, hA, hc⟩ := (HD.out.later hbw).at hne
        obtain ⟨x, hx⟩ : ∃ x, L[k]? = some x := ⟨L[k], List.getElem?_eq_getElem hlt⟩
        obtain ⟨e0, e1, e2⟩ := hc k x hx
        subst hA
        have hi0 : (0 : Int) ≤ (k : Int) := by omega
        have hi1 : (k : Int) < (L.length : Int) := by omega
        have hfx : (L.map Fc.fi)[k]? = some x.fi := by rw [List.getElem?_map, hx]; rfl
        have HX := Lib.hid hx
        clear hc hne hx
        by_cases hA1 : at_ < k
        · have da : decide (at_ < k) = true := decide_eq_true hA1
          rw [da]
          have HMP := Lib.hid (show ∀ (X' : Option Addr) (c' : Nat), (M ++ [{ x with X := X', c := c' }]).map Fc.fi = Dk.insTo (L.map Fc.fi) n at_ (k + 1) from fun X' c' => by rw [Dk.insTo_one (by omega) hfx, List.map_append, hfi]; rfl)
          have HDN := Lib.hid (decide_eq_true (show at_ < k + 1 by omega))
          clear hfi hfx
          obtain ⟨W1, hW1⟩ : ∃ W1, wr.alloc (.cells #[.int .i64 x.num, .slice x.X x.l.length x.c, .int .i64 x.s] 50) = W1 := ⟨_, rfl⟩
          have hb1 : Below wr.heap.size wr W1 := by rw [← hW1]; exact below_new (Below.refl _ _) _
          have hB1 : Blk W1 wr.heap.size 50 #[.int .i64 x.num, .slice x.X x.l.length x.c, .int .i64 x.s] := by rw [← hW1]; exact Blk.new wr _ _
          have hxo := ((HD.out.later hbw).later hb1).one HX.out
          have hxl := HFT.out.each x (List.mem_of_getElem? HX.out)
          have x0 := Lib.hid (hB1.cell (i := 0) rfl)
          have x1 := Lib.hid (hB1.cell (i := 1) rfl)
          have x2 := Lib.hid (hB1.cell (i := 2) rfl)
          have y1 := Lib.hid (cell_later hb1 d21)
          have HW1 := Lib.hid hW1
          have XO := Lib.hid hxo
          have BB := Lib.hid hb1
          have HO := Lib.hid hO
          have D0 := Lib.hid hD0
          have D1 := Lib.hid hD1
          have D2 := Lib.hid hD2
          have hs1 := hb1.size
          clear hxo hb1 hB1 hW1 hO hD0 hD1 hD2
          have PUSH := Lib.hid (fun (w' : World) (X' : Option Addr) (c' : Nat) (hb : Below W1.heap.size W1 w') (ho : OwnBS w' W1.heap.size 5 { x with X := X', c := c' }) (v2 : Value) (w2 : World) (hg : w'.grownBy w2 (Value.ownBlock (.slice V2 M.length cv2)))
              (h2 : w2.ownsRow (w3.heap.size + 1) 50 3 v2 (M.length + 1) (fCells M ++ [.int .i64 x.num, .slice X' x.l.length c', .int .i64 x.s])) =>
            (show HardD (w2.setCell ⟨w3.heap.size, 1, none⟩ v2) (w3.heap.size + 1) 50 5 v2 (M ++ [{ x with X := X', c := c' }]) ∧ Blk (w2.setCell ⟨w3.heap.size, 1, none⟩ v2) w.heap.size 24 #[.int .i64 room, .slice (some ⟨bA, off, none⟩) L.length c] ∧ Blk (w2.setCell ⟨w3.heap.size, 1, none⟩ v2) (w.heap.size + 1) 24 #[.int .i64 0, .slice none 0 0] ∧ Blk (w2.setCell ⟨w3.heap.size, 1, none⟩ v2) w3.heap.size 24 #[.int .i64 room, v2] ∧ Below w.heap.size w (w2.setCell ⟨w3.heap.size, 1, none⟩ v2) ∧ w2.cell? ⟨w3.heap.size, 1, none⟩ = some (.slice V2 M.length cv2) ∧ w2.frozen? ⟨w3.heap.size, 1, none⟩ = false from by
              have bb := below_on BB.out hb
              have hs := bb.size
              have hs0 := BB.out.size
              have hs1 := hb.size
              obtain ⟨p1, p2, p3, p4, p5, p6, -⟩ := HardD.push (W := wr) (w' := w') (x := { x with X := X', c := c' }) (B := W1.heap.size) (by decide) HO.out D2.out (by omega) bb hs0 (by omega) ho hg h2
              have hge := p6
              refine ⟨p1, (p5 _ (by omega) (by omega) (by omega)).trans (D0.out.later bb), (p5 _ (by omega) (by omega) (by omega)).trans (D1.out.later bb), p2, ((below_on hbw bb).grown hg (by have := hbw.size; omega) (fun k hk => by have := hge k hk; omega)).setCell (by show w.heap.size ≤ w3.heap.size; omega) _, p3, p4⟩))
          have OWN := Lib.hid (fun (w' : World) (hb : Below W1.heap.size W1 w') => (HO.out.own.later (below_on BB.out hb)).row)
          have hMn : (M.length + 1) * 40 ≤ 140737488355328 := by omega
          have hMs : w3.heap.size + 1 ≤ W1.heap.size := by omega
          clear D0 D1 D2 HO hs1
          go_wp2_with fail
          rw [HW1.out]
          refine wp_region_facts 11 (by kernel_rfl) (by kernel_rfl)
            (fun v => { tmps := #[.agg #[.int .i64 room, .slice (some ⟨bA, off, none⟩) L.length c], .int .i64 n, .slice B b.length cb, .pointer (some ⟨w.heap.size, 0, none⟩), undef, undef, .pointer (some ⟨w.heap.size + 1, 0, none⟩), .int .i64 0, .pointer (some ⟨w3.heap.size, 0, none⟩), .bool true, .int .i64 (k : Int), .pointer (some ⟨wr.heap.size, 0, none⟩), undef, .agg #[.int .i64 room, .slice (some ⟨bA, off, none⟩) L.length c], .bool true, .bool false, .bool false, .int .i64 n, .bool false, .bool false, .bool false, .int .i64 n, .bool false, .bool false, undef, .slice B b.length cb, .int .i64 (b.length : Int), .pointer (some ⟨w.heap.size, 0, none⟩), .int .i64 room, .agg #[.int .i64 room, .slice (some ⟨bA, off, none⟩) L.length c], .int .i64 u, .int .i64 (room - u), .bool false, undef, .agg #[.int .i64 room, .slice (some ⟨bA, off, none⟩) L.length c], .agg #[.int .i64 room, .slice V L2.length cv], .agg #[.int .i64 room, .slice V L2.length cv], .int .i64 n, .int .i64 (-1), .bool true, .pointer (some ⟨w3.heap.size, 1, none⟩), .int .i64 (k : Int), .pointer (some ⟨w.heap.size, 1, none⟩), .slice (some ⟨bA, off, none⟩) L.length c, .int .i64 (L.length : Int), .bool true, u46, u47, .bool true, .bool false, .bool false, undef, undef, undef, undef, undef, undef, undef, undef, .bool false, u60, u61, u62, u63, u64, u65, u66, .pointer (some ⟨w.heap.size, 1, none⟩), .slice (some ⟨bA, off, none⟩) L.length c, .int .i64 (k : Int), .pointer (some ⟨bA, off + k * 3, none⟩), .agg #[.int .i64 x.num, .slice x.X x.l.length x.c, .int .i64 x.s], v 0, v 1, v 2, v 3, v 4, v 5, v 6, v 7, v 8, v 9, v 10, u83, u84, undef, undef, undef, undef, undef, undef, undef, undef, undef, undef, undef, undef, undef, undef, undef, undef, undef, undef, undef, undef, undef, undef, undef, undef, undef, undef], defers := [] }) (fun i => match i with | 0 => u72 | 1 => u73 | 2 => u74 | 3 => u75 | 4 => u76 | 5 => u77 | 6 => u78 | 7 => u79 | 8 => u80 | 9 => u81 | 10 => u82 | _ => undef)
            (fun i x_ wx => match i with
              | 0 => x_ = .pointer (some ⟨w3.heap.size, 1, none⟩)
              | 1 => x_ = .slice V2 M.length cv2
              | 2 => x_ = .pointer (some ⟨wr.heap.size, 0, none⟩)
              | 3 => x_ = .int .i64 x.num
              | 4 => x_ = .pointer (some ⟨wr.heap.size, 1, none⟩)
              | 5 => x_ = .slice x.X x.l.length x.c
              | 6 => ∃ X' c', x_ = .slice X' x.l.length c' ∧ OwnBS wx W1.heap.size 5 { x with X := X', c := c' }
              | 7 => x_ = .pointer (some ⟨wr.heap.size, 2, none⟩)
              | 8 => x_ = .int .i64 x.s
              | 9 => ∃ X' c', x_ = .agg #[.int .i64 x.num, .slice X' x.l.length c', .int .i64 x.s] ∧ OwnBS wx W1.heap.size 5 { x with X := X', c := c' }
              | 10 => ∃ g X' c', x_ = .slice (some ⟨g, 0, none⟩) 1 1 ∧ Blk wx g 50 #[.int .i64 x.num, .slice X' x.l.length c', .int .i64 x.s] ∧ OwnBS wx W1.heap.size 5 { x with X := X', c := c' }
              | _ => True)
            (fun w1 w2 => Below w1.heap.size w1 w2) (fun h1 h2 => below_on h1 h2) (fun _ => Below.refl _ _) (Below.drew (Below.refl _ _)) ?stab ?step ?done
          case stab =>
            rintro i x_ w1 w2 h hb
            match i, h with
            | 0, h => exact h
            | 1, h => exact h
            | 2, h => exact h
            | 3, h => exact h
            | 4, h => exact h
            | 5, h => exact h
            | 6, h => obtain ⟨X', c', h1, h2⟩ := h; exact ⟨X', c', h1, h2.later hb⟩
            | 7, h => exact h
            | 8, h => exact h
            | 9, h => obtain ⟨X', c', h1, h2⟩ := h; exact ⟨X', c', h1, h2.later hb⟩
            | 10, h => obtain ⟨g, X', c', h1, h2, h3⟩ := h; exact ⟨g, X', c', h1, h2.later hb, h3.later hb⟩
            | i + 11, _ => trivial
          case step =>
            intro i hi v w' hb hd
            match i, hi with
            | 0, _ =>
              refine wpOp_one rfl ?_
              clear hd
              go_wp2
              first | exact ⟨_, (by simp [upd]; done), Below.refl _ _, rfl⟩ | exact ⟨(by simp [upd]; done), Below.refl _ _⟩
            | 1, _ =>
              have h0 : v 0 = _ := hd 0 (List.elem_iff.1 (by kernel_rfl))
              refine wpOp_one rfl ?_
              clear hd
              rw [h0]
              have q0 := cell_later hb y1.out
              go_wp2
              first | exact ⟨_, (by simp [upd, h0]; done), Below.refl _ _, rfl⟩ | exact ⟨(by simp [upd, h0]; done), Below.refl _ _⟩
            | 2, _ =>
              refine wpOp_one rfl ?_
              clear hd
              go_wp2
              first | exact ⟨_, (by simp [upd]; done), Below.refl _ _, rfl⟩ | exact ⟨(by simp [upd]; done), Below.refl _ _⟩
            | 3, _ =>
              have h2 : v 2 = _ := hd 2 (List.elem_iff.1 (by kernel_rfl))
              refine wpOp_one rfl ?_
              clear hd
              rw [h2]
              have q0 := cell_later hb x0.out
              go_wp2
              first | exact ⟨_, (by simp [upd, h2]; done), Below.refl _ _, rfl⟩ | exact ⟨(by simp [upd, h2]; done), Below.refl _ _⟩
            | 4, _ =>
              refine wpOp_one rfl ?_
              clear hd
              go_wp2
              first | exact ⟨_, (by simp [upd]; done), Below.refl _ _, rfl⟩ | exact ⟨(by simp [upd]; done), Below.refl _ _⟩
            | 5, _ =>
              have h4 : v 4 = _ := hd 4 (List.elem_iff.1 (by kernel_rfl))
              refine wpOp_one rfl ?_
              clear hd
              rw [h4]
              have q0 := cell_later hb x1.out
              go_wp2
              first | exact ⟨_, (by simp [upd, h4]; done), Below.refl _ _, rfl⟩ | exact ⟨(by simp [upd, h4]; done), Below.refl _ _⟩
            | 6, _ =>
              have h5 : v 5 = _ := hd 5 (List.elem_iff.1 (by kernel_rfl))
              refine wpOp_one rfl ?_
              clear hd
              rw [h5]
              have CL := bcopy_any x.X x.c x.l w' hxl (XO.out.later hb)
              have hsz := hb.size
              go_wp2_with fail
              refine CL.mono ?_
              rintro e w'' ⟨v2, rfl, ho, b2⟩
              obtain ⟨X', c', rfl, -, -, -, -⟩ := own_form ho
              have ON : OwnBS w'' w'.heap.size 5 { x with X := X', c := c' } := ⟨OwnB.of_own (f := { x with X := X', c := c' }) ho XO.out.byte, ho⟩
              go_wp2
              exact ⟨_, (by simp [upd, h5]; done), b2, X', c', rfl, ON.lower hsz⟩
            | 7, _ =>
              refine wpOp_one rfl ?_
              clear hd
              go_wp2
              first | exact ⟨_, (by simp [upd]; done), Below.refl _ _, rfl⟩ | exact ⟨(by simp [upd]; done), Below.refl _ _⟩
            | 8, _ =>
              have h7 : v 7 = _ := hd 7 (List.elem_iff.1 (by kernel_rfl))
              refine wpOp_one rfl ?_
              clear hd
              rw [h7]
              have q0 := cell_later hb x2.out
              go_wp2
              first | exact ⟨_, (by simp [upd, h7]; done), Below.refl _ _, rfl⟩ | exact ⟨(by simp [upd, h7]; done), Below.refl _ _⟩
            | 9, _ =>
              have h3 : v 3 = _ := hd 3 (List.elem_iff.1 (by kernel_rfl))
              obtain ⟨X6, c6, h6, o6⟩ := hd 6 (List.elem_iff.1 (by kernel_rfl))
              have h8 : v 8 = _ := hd 8 (List.elem_iff.1 (by kernel_rfl))
              refine wpOp_one rfl ?_
              clear hd
              rw [h3, h6, h8]
              go_wp2
              exact ⟨_, (by simp [upd, h3, h6, h8]; done), Below.refl _ _, X6, c6, rfl, o6⟩
            | 10, _ =>
              obtain ⟨X9, c9, h9, o9⟩ := hd 9 (List.elem_iff.1 (by kernel_rfl))
              refine wpOp_one rfl ?_
              clear hd
              rw [h9]
              have hbn := below_new (Below.refl w'.heap.size w') (.cells #[.int .i64 x.num, .slice X9 x.l.length c9, .int .i64 x.s] 50)
              have hbk := Blk.new w' 50 #[.int .i64 x.num, .slice X9 x.l.length c9, .int .i64 x.s]
              have o9' := o9.later hbn
              have OO := Lib.hid o9'
              have KK := Lib.hid hbk
              clear o9 o9' hbk
              go_wp2
              exact ⟨_, (by simp [upd, h9]; done), hbn, w'.heap.size, X9, c9, rfl, KK.out, OO.out⟩
          case done =>
            intro v w' hb hf
            obtain ⟨gA, XA, cA, h10, B10, o10⟩ := hf 10 (by omega)
            have h1 : v 1 = _ := hf 1 (by omega)
            clear hf
            simp only [List.drop_succ_cons, List.drop_zero]
            rw [h1, h10]
            have hown := OWN.out w' hb
            have hsz := hb.size
            have PU := Lib.hid (PUSH.out w' XA cA hb o10)
            have hy : Lies w' (some ⟨gA, 0, none⟩) [.int .i64 x.num, .slice XA x.l.length cA, .int .i64 x.s] := fun _ => ⟨gA, 0, rfl, fun j u hu => by
              rw [Nat.zero_add]
              exact B10.cell (by simpa using hu)⟩
            clear PUSH OWN B10 o10 x0 x1 x2 y1
            go_wp2_with (at_builtin; refine wpList_append_lies _ rfl _ _ 22 rfl (w3.heap.size + 1) 50 i0 (.agg #[.int .i64 0, .slice none 0 0, .int .i64 0]) 3 40 Tryd.underlying22 hI hz0 hz1 hz2 rfl (by decide) _ M.length (fCells M) rfl hown (some ⟨gA, 0, none⟩) 1 1 (fun h => by cases h) [.int .i64 x.num, .slice XA x.l.length cA, .int .i64 x.s] rfl rfl hy (by intro u hu; simp at hu; rcases hu with rfl | rfl | rfl <;> rfl) ?c3 ?c4 ?c5 ?_)
            case c3 => unfold maxLen; omega
            case c4 => exact hMn
            case c5 => omega
            intro v2 w2 ho2 hg2 _
            have nx := Lib.hid (PU.out v2 w2 hg2 ho2)
            obtain ⟨V3, cv3, rfl, -, -, -, -⟩ := own_form ho2
            have z1 := nx.out.2.2.2.2.2.1
            have z2 := nx.out.2.2.2.2.2.2
            clear ho2 hg2 hown hy PU
            go_wp2_with fail
            go_roundw
            case rel => exact ⟨k + 1, _, _, by omega, by first | rfl | go_num, by rw [HDN.out], nx.out.1, HMP.out _ _, nx.out.2.1, nx.out.2.2.1, nx.out.2.2.2.1, nx.out.2.2.2.2.1⟩
            case measure => simp [intOf]; omega
        by_cases hB1 : k = at_
        · have da : decide (at_ < k) = false := decide_eq_false hA1
          rw [da]
          have dn : decide (n < x.num) = true := decide_eq_true (HLW.out.not rfl k x (by omega) HX.out)
          have HM3 := Lib.hid (show ∀ (M2 : List Fc), M2.map Fc.fi = Dk.insTo (L.map Fc.fi) n at_ k ++ [(n, [], 0)] → ∀ (X' : Option Addr) (c' : Nat), (M2 ++ [{ x with X := X', c := c' }]).map Fc.fi = Dk.insTo (L.map Fc.fi) n at_ (k + 1) from fun M2 h2 X' c' => by
            subst hB1
            rw [Dk.insTo_two hfx, List.map_append, h2]
            rfl)
          have HDN := Lib.hid (decide_eq_true (show at_ < k + 1 by omega))
          clear hfx hB1
          have b13 := below_new (Below.refl wr.heap.size wr) (.cells #[.int .i64 n, .slice none 0 0, .int .i64 0] 50)
          have hown13 := (hO.own.later b13).row
          have hy13 : Lies (wr.alloc (.cells #[.int .i64 n, .slice none 0 0, .int .i64 0] 50)) (some ⟨wr.heap.size, 0, none⟩) [.int .i64 n, .slice none 0 0, .int .i64 0] := fun _ => ⟨wr.heap.size, 0, rfl, fun j u hu => by
            rw [Nat.zero_add]
            exact (Blk.new wr 50 #[.int .i64 n, .slice none 0 0, .int .i64 0]).cell (by simpa using hu)⟩
          have d21 := cell_later b13 d21
          have hs13 : w3.heap.size + 1 ≤ (wr.alloc (.cells #[.int .i64 n, .slice none 0 0, .int .i64 0] 50)).heap.size := by have := b13.size; omega
          have PUSH13 := Lib.hid (fun (v2 : Value) (w2 : World) (hg : (wr.alloc (.cells #[.int .i64 n, .slice none 0 0, .int .i64 0] 50)).grownBy w2 (Value.ownBlock (.slice V2 M.length cv2)))
              (h2 : w2.ownsRow (w3.heap.size + 1) 50 3 v2 (M.length + 1) (fCells M ++ [.int .i64 n, .slice none 0 0, .int .i64 0])) =>
            (show HardD (w2.setCell ⟨w3.heap.size, 1, none⟩ v2) (w3.heap.size + 1) 50 5 v2 (M ++ [⟨n, none, 0, [], 0⟩]) ∧ Blk (w2.setCell ⟨w3.heap.size, 1, none⟩ v2) w.heap.size 24 #[.int .i64 room, .slice (some ⟨bA, off, none⟩) L.length c] ∧ Blk (w2.setCell ⟨w3.heap.size, 1, none⟩ v2) (w.heap.size + 1) 24 #[.int .i64 0, .slice none 0 0] ∧ Blk (w2.setCell ⟨w3.heap.size, 1, none⟩ v2) w3.heap.size 24 #[.int .i64 room, v2] ∧ Below w.heap.size w (w2.setCell ⟨w3.heap.size, 1, none⟩ v2) ∧ w2.cell? ⟨w3.heap.size, 1, none⟩ = some (.slice V2 M.length cv2) ∧ w2.frozen? ⟨w3.heap.size, 1, none⟩ = false from by
              have hs := b13.size
              obtain ⟨p1, p2, p3, p4, p5, p6, -⟩ := HardD.push (W := wr) (w' := wr.alloc (.cells #[.int .i64 n, .slice none 0 0, .int .i64 0] 50)) (x := ⟨n, none, 0, [], 0⟩) (B := wr.heap.size) (by decide) hO hD2 (by omega) b13 (Nat.le_refl _) (by omega) (OwnBS.zero _ _ _ _) hg h2
              have hge := p6
              refine ⟨p1, (p5 _ (by omega) (by omega) (by omega)).trans (hD0.later b13), (p5 _ (by omega) (by omega) (by omega)).trans (hD1.later b13), p2, ((below_on hbw b13).grown hg (by have := hbw.size; omega) (fun k hk => by have := hge k hk; omega)).setCell (by show w.heap.size ≤ w3.heap.size; omega) _, p3, p4⟩))
          have HOWN := Lib.hid hown13; have HY13 := Lib.hid hy13; have HFI3 := Lib.hid hfi
          clear hown13 hy13 hO hD0 hD1 hD2 b13 hfi
          go_wp2_with (at_builtin; refine wpList_append_lies _ rfl _ _ 22 rfl (w3.heap.size + 1) 50 i0 (.agg #[.int .i64 0, .slice none 0 0, .int .i64 0]) 3 40 Tryd.underlying22 hI hz0 hz1 hz2 rfl (by decide) _ M.length (fCells M) rfl HOWN.out (some ⟨wr.heap.size, 0, none⟩) 1 1 (fun h => by cases h) [.int .i64 n, .slice none 0 0, .int .i64 0] rfl rfl HY13.out (by intro u hu; simp at hu; rcases hu with rfl | rfl | rfl <;> rfl) ?c3 ?c4 ?c5 ?_)
          case c3 => unfold maxLen; omega
          case c4 => omega
          case c5 => exact hs13
          intro v2 w2 ho2 hg2 _
          have nx := Lib.hid (PUSH13.out v2 w2 hg2 ho2)
          obtain ⟨V3, cv3, rfl, -, hcm3, -, -⟩ := own_form ho2
          unfold maxLen at hcm3
          have z1 := nx.out.2.2.2.2.2.1
          have z2 := nx.out.2.2.2.2.2.2
          clear ho2 hg2 PUSH13 HOWN HY13 d21 d01 f21 hlo hs13
          go_upto_region 15 with (fail)
          obtain ⟨hO, hD0, hD1, hD2, hbq, -, -⟩ := nx.out
          obtain ⟨wq, hwq⟩ : ∃ wq, w2.setCell ⟨w3.heap.size, 1, none⟩ (.slice V3 (M.length + 1) cv3) = wq := ⟨_, rfl⟩
          obtain ⟨M2, hM2⟩ : ∃ M2, M ++ [(⟨n, none, 0, [], 0⟩ : Fc)] = M2 := ⟨_, rfl⟩
          have hml : M.length + 1 = M2.length := by rw [← hM2, List.length_append]; rfl
          rw [hwq, hM2] at hO
          rw [hwq] at hD0 hD1 hD2 hbq ⊢
          rw [hml] at hO hD2 ⊢
          have hfi2 : M2.map Fc.fi = Dk.insTo (L.map Fc.fi) n at_ k ++ [(n, [], 0)] := by rw [← hM2, List.map_append, HFI3.out]; rfl
          clear nx z1 z2 hwq hM2 HFI3
          have hbw := hbq
          clear hbq
          have hMl : M2.length ≤ k + 2 := by omega
          have d01 := hD0.cell (i := 1) rfl
          have d21 := hD2.cell (i := 1) rfl
          have f21 := hD2.free 1
          have hlo := hD2.lt
          clear hml
          obtain ⟨e0, e1, e2⟩ := (HD.out.later hbw).cells HX.out
          have HMP := Lib.hid (HM3.out M2 hfi2)
          clear hfi2 HM3
          obtain ⟨W1, hW1⟩ : ∃ W1, wq.alloc (.cells #[.int .i64 x.num, .slice x.X x.l.length x.c, .int .i64 x.s] 50) = W1 := ⟨_, rfl⟩
          have hb1 : Below wq.heap.size wq W1 := by rw [← hW1]; exact below_new (Below.refl _ _) _
          have hB1 : Blk W1 wq.heap.size 50 #[.int .i64 x.num, .slice x.X x.l.length x.c, .int .i64 x.s] := by rw [← hW1]; exact Blk.new wq _ _
          have hxo := ((HD.out.later hbw).later hb1).one HX.out
          have hxl := HFT.out.each x (List.mem_of_getElem? HX.out)
          have x0 := Lib.hid (hB1.cell (i := 0) rfl)
          have x1 := Lib.hid (hB1.cell (i := 1) rfl)
          have x2 := Lib.hid (hB1.cell (i := 2) rfl)
          have y1 := Lib.hid (cell_later hb1 d21)
          have HW1 := Lib.hid hW1
          have XO := Lib.hid hxo
          have BB := Lib.hid hb1
          have HO := Lib.hid hO
          have D0 := Lib.hid hD0
          have D1 := Lib.hid hD1
          have D2 := Lib.hid hD2
          have hs1 := hb1.size
          clear hxo hb1 hB1 hW1 hO hD0 hD1 hD2
          have PUSH := Lib.hid (fun (w' : World) (X' : Option Addr) (c' : Nat) (hb : Below W1.heap.size W1 w') (ho : OwnBS w' W1.heap.size 5 { x with X := X', c := c' }) (v2 : Value) (w2 : World) (hg : w'.grownBy w2 (Value.ownBlock (.slice V3 M2.length cv3)))
              (h2 : w2.ownsRow (w3.heap.size + 1) 50 3 v2 (M2.length + 1) (fCells M2 ++ [.int .i64 x.num, .slice X' x.l.length c', .int .i64 x.s])) =>
            (show HardD (w2.setCell ⟨w3.heap.size, 1, none⟩ v2) (w3.heap.size + 1) 50 5 v2 (M2 ++ [{ x with X := X', c := c' }]) ∧ Blk (w2.setCell ⟨w3.heap.size, 1, none⟩ v2) w.heap.size 24 #[.int .i64 room, .slice (some ⟨bA, off, none⟩) L.length c] ∧ Blk (w2.setCell ⟨w3.heap.size, 1, none⟩ v2) (w.heap.size + 1) 24 #[.int .i64 0, .slice none 0 0] ∧ Blk (w2.setCell ⟨w3.heap.size, 1, none⟩ v2) w3.heap.size 24 #[.int .i64 room, v2] ∧ Below w.heap.size w (w2.setCell ⟨w3.heap.size, 1, none⟩ v2) ∧ w2.cell? ⟨w3.heap.size, 1, none⟩ = some (.slice V3 M2.length cv3) ∧ w2.frozen? ⟨w3.heap.size, 1, none⟩ = false from by
              have bb := below_on BB.out hb
              have hs := bb.size
              have hs0 := BB.out.size
              have hs1 := hb.size
              obtain ⟨p1, p2, p3, p4, p5, p6, -⟩ := HardD.push (W := wq) (w' := w') (x := { x with X := X', c := c' }) (B := W1.heap.size) (by decide) HO.out D2.out (by omega) bb hs0 (by omega) ho hg h2
              have hge := p6
              refine ⟨p1, (p5 _ (by omega) (by omega) (by omega)).trans (D0.out.later bb), (p5 _ (by omega) (by omega) (by omega)).trans (D1.out.later bb), p2, ((below_on hbw bb).grown hg (by have := hbw.size; omega) (fun k hk => by have := hge k hk; omega)).setCell (by show w.heap.size ≤ w3.heap.size; omega) _, p3, p4⟩))
          have OWN := Lib.hid (fun (w' : World) (hb : Below W1.heap.size W1 w') => (HO.out.own.later (below_on BB.out hb)).row)
          have hMn : (M2.length + 1) * 40 ≤ 140737488355328 := by omega
          have hMs : w3.heap.size + 1 ≤ W1.heap.size := by omega
          clear D0 D1 D2 HO hs1
          go_wp2_with fail
          rw [HW1.out]
          refine wp_region_facts 11 (by kernel_rfl) (by kernel_rfl)
            (fun v => { tmps := #[.agg #[.int .i64 room, .slice (some ⟨bA, off, none⟩) L.length c], .int .i64 n, .slice B b.length cb, .pointer (some ⟨w.heap.size, 0, none⟩), undef, undef, .pointer (some ⟨w.heap.size + 1, 0, none⟩), .int .i64 0, .pointer (some ⟨w3.heap.size, 0, none⟩), .bool true, .int .i64 (k : Int), .pointer (some ⟨wq.heap.size, 0, none⟩), undef, .agg #[.int .i64 room, .slice (some ⟨bA, off, none⟩) L.length c], .bool true, .bool false, .bool false, .int .i64 n, .bool false, .bool false, .bool false, .int .i64 n, .bool false, .bool false, undef, .slice B b.length cb, .int .i64 (b.length : Int), .pointer (some ⟨w.heap.size, 0, none⟩), .int .i64 room, .agg #[.int .i64 room, .slice (some ⟨bA, off, none⟩) L.length c], .int .i64 u, .int .i64 (room - u), .bool false, undef, .agg #[.int .i64 room, .slice (some ⟨bA, off, none⟩) L.length c], .agg #[.int .i64 room, .slice V L2.length cv], .agg #[.int .i64 room, .slice V L2.length cv], .int .i64 n, .int .i64 (-1), .bool true, .pointer (some ⟨w3.heap.size, 1, none⟩), .int .i64 (k : Int), .pointer (some ⟨w.heap.size, 1, none⟩), .slice (some ⟨bA, off, none⟩) L.length c, .int .i64 (L.length : Int), .bool true, u46, u47, .bool false, .bool true, .bool true, .pointer (some ⟨w.heap.size, 1, none⟩), .slice (some ⟨bA, off, none⟩) L.length c, .int .i64 (k : Int), .pointer (some ⟨bA, off + k * 3, none⟩), .pointer (some ⟨bA, off + k * 3, none⟩), .int .i64 x.num, .int .i64 n, .bool true, .bool true, .pointer (some ⟨w3.heap.size, 1, none⟩), .slice V2 M.length cv2, .int .i64 n, .agg #[.int .i64 n, .slice none 0 0, .int .i64 0], .slice (some ⟨wr.heap.size, 0, none⟩) 1 1, .slice V3 M2.length cv3, .pointer (some ⟨w3.heap.size, 1, none⟩), .pointer (some ⟨w.heap.size, 1, none⟩), .slice (some ⟨bA, off, none⟩) L.length c, .int .i64 (k : Int), .pointer (some ⟨bA, off + k * 3, none⟩), .agg #[.int .i64 x.num, .slice x.X x.l.length x.c, .int .i64 x.s], v 0, v 1, v 2, v 3, v 4, v 5, v 6, v 7, v 8, v 9, v 10, u83, u84, undef, undef, undef, undef, undef, undef, undef, undef, undef, undef, undef, undef, undef, undef, undef, undef, undef, undef, undef, undef, undef, undef, undef, undef, undef, undef], defers := [] }) (fun i => match i with | 0 => u72 | 1 => u73 | 2 => u74 | 3 => u75 | 4 => u76 | 5 => u77 | 6 => u78 | 7 => u79 | 8 => u80 | 9 => u81 | 10 => u82 | _ => undef)
            (fun i x_ wx => match i with
              | 0 => x_ = .pointer (some ⟨w3.heap.size, 1, none⟩)
              | 1 => x_ = .slice V3 M2.length cv3
              | 2 => x_ = .pointer (some ⟨wq.heap.size, 0, none⟩)
              | 3 => x_ = .int .i64 x.num
              | 4 => x_ = .pointer (some ⟨wq.heap.size, 1, none⟩)
              | 5 => x_ = .slice x.X x.l.length x.c
              | 6 => ∃ X' c', x_ = .slice X' x.l.length c' ∧ OwnBS wx W1.heap.size 5 { x with X := X', c := c' }
              | 7 => x_ = .pointer (some ⟨wq.heap.size, 2, none⟩)
              | 8 => x_ = .int .i64 x.s
              | 9 => ∃ X' c', x_ = .agg #[.int .i64 x.num, .slice X' x.l.length c', .int .i64 x.s] ∧ OwnBS wx W1.heap.size 5 { x with X := X', c := c' }
              | 10 => ∃ g X' c', x_ = .slice (some ⟨g, 0, none⟩) 1 1 ∧ Blk wx g 50 #[.int .i64 x.num, .slice X' x.l.length c', .int .i64 x.s] ∧ OwnBS wx W1.heap.size 5 { x with X := X', c := c' }
              | _ => True)
            (fun w1 w2 => Below w1.heap.size w1 w2) (fun h1 h2 => below_on h1 h2) (fun _ => Below.refl _ _) (Below.drew (Below.refl _ _)) ?stab ?step ?done
          case stab =>
            rintro i x_ w1 w2 h hb
            match i, h with
            | 0, h => exact h
            | 1, h => exact h
            | 2, h => exact h
            | 3, h => exact h
            | 4, h => exact h
            | 5, h => exact h
            | 6, h => obtain ⟨X', c', h1, h2⟩ := h; exact ⟨X', c', h1, h2.later hb⟩
            | 7, h => exact h
            | 8, h => exact h
            | 9, h => obtain ⟨X', c', h1, h2⟩ := h; exact ⟨X', c', h1, h2.later hb⟩
            | 10, h => obtain ⟨g, X', c', h1, h2, h3⟩ := h; exact ⟨g, X', c', h1, h2.later hb, h3.later hb⟩
            | i + 11, _ => trivial
          case step =>
            intro i hi v w' hb hd
            match i, hi with
            | 0, _ =>
              refine wpOp_one rfl ?_
              clear hd
              go_wp2
              first | exact ⟨_, (by simp [upd]; done), Below.refl _ _, rfl⟩ | exact ⟨(by simp [upd]; done), Below.refl _ _⟩
            | 1, _ =>
              have h0 : v 0 = _ := hd 0 (List.elem_iff.1 (by kernel_rfl))
              refine wpOp_one rfl ?_
              clear hd
              rw [h0]
              have q0 := cell_later hb y1.out
              go_wp2
              first | exact ⟨_, (by simp [upd, h0]; done), Below.refl _ _, rfl⟩ | exact ⟨(by simp [upd, h0]; done), Below.refl _ _⟩
            | 2, _ =>
              refine wpOp_one rfl ?_
              clear hd
              go_wp2
              first | exact ⟨_, (by simp [upd]; done), Below.refl _ _, rfl⟩ | exact ⟨(by simp [upd]; done), Below.refl _ _⟩
            | 3, _ =>
              have h2 : v 2 = _ := hd 2 (List.elem_iff.1 (by kernel_rfl))
              refine wpOp_one rfl ?_
              clear hd
              rw [h2]
              have q0 := cell_later hb x0.out
              go_wp2
              first | exact ⟨_, (by simp [upd, h2]; done), Below.refl _ _, rfl⟩ | exact ⟨(by simp [upd, h2]; done), Below.refl _ _⟩
            | 4, _ =>
              refine wpOp_one rfl ?_
              clear hd
              go_wp2
              first | exact ⟨_, (by simp [upd]; done), Below.refl _ _, rfl⟩ | exact ⟨(by simp [upd]; done), Below.refl _ _⟩
            | 5, _ =>
              have h4 : v 4 = _ := hd 4 (List.elem_iff.1 (by kernel_rfl))
              refine wpOp_one rfl ?_
              clear hd
              rw [h4]
              have q0 := cell_later hb x1.out
              go_wp2
              first | exact ⟨_, (by simp [upd, h4]; done), Below.refl _ _, rfl⟩ | exact ⟨(by simp [upd, h4]; done), Below.refl _ _⟩
            | 6, _ =>
              have h5 : v 5 = _ := hd 5 (List.elem_iff.1 (by kernel_rfl))
              refine wpOp_one rfl ?_
              clear hd
              rw [h5]
              have CL := bcopy_any x.X x.c x.l w' hxl (XO.out.later hb)
              have hsz := hb.size
              go_wp2_with fail
              refine CL.mono ?_
              rintro e w'' ⟨v2, rfl, ho, b2⟩
              obtain ⟨X', c', rfl, -, -, -, -⟩ := own_form ho
              have ON : OwnBS w'' w'.heap.size 5 { x with X := X', c := c' } := ⟨OwnB.of_own (f := { x with X := X', c := c' }) ho XO.out.byte, ho⟩
              go_wp2
              exact ⟨_, (by simp [upd, h5]; done), b2, X', c', rfl, ON.lower hsz⟩
            | 7, _ =>
              refine wpOp_one rfl ?_
              clear hd
              go_wp2
              first | exact ⟨_, (by simp [upd]; done), Below.refl _ _, rfl⟩ | exact ⟨(by simp [upd]; done), Below.refl _ _⟩
            | 8, _ =>
              have h7 : v 7 = _ := hd 7 (List.elem_iff.1 (by kernel_rfl))
              refine wpOp_one rfl ?_
              clear hd
              rw [h7]
              have q0 := cell_later hb x2.out
              go_wp2
              first | exact ⟨_, (by simp [upd, h7]; done), Below.refl _ _, rfl⟩ | exact ⟨(by simp [upd, h7]; done), Below.refl _ _⟩
            | 9, _ =>
              have h3 : v 3 = _ := hd 3 (List.elem_iff.1 (by kernel_rfl))
              obtain ⟨X6, c6, h6, o6⟩ := hd 6 (List.elem_iff.1 (by kernel_rfl))
              have h8 : v 8 = _ := hd 8 (List.elem_iff.1 (by kernel_rfl))
              refine wpOp_one rfl ?_
              clear hd
              rw [h3, h6, h8]
              go_wp2
              exact ⟨_, (by simp [upd, h3, h6, h8]; done), Below.refl _ _, X6, c6, rfl, o6⟩
            | 10, _ =>
              obtain ⟨X9, c9, h9, o9⟩ := hd 9 (List.elem_iff.1 (by kernel_rfl))
              refine wpOp_one rfl ?_
              clear hd
              rw [h9]
              have hbn := below_new (Below.refl w'.heap.size w') (.cells #[.int .i64 x.num, .slice X9 x.l.length c9, .int .i64 x.s] 50)
              have hbk := Blk.new w' 50 #[.int .i64 x.num, .slice X9 x.l.length c9, .int .i64 x.s]
              have o9' := o9.later hbn
              have OO := Lib.hid o9'
              have KK := Lib.hid hbk
              clear o9 o9' hbk
              go_wp2
              exact ⟨_, (by simp [upd, h9]; done), hbn, w'.heap.size, X9, c9, rfl, KK.out, OO.out⟩
          case done =>
            intro v w' hb hf
            obtain ⟨gA, XA, cA, h10, B10, o10⟩ := hf 10 (by omega)
            have h1 : v 1 = _ := hf 1 (by omega)
            clear hf
            simp only [List.drop_succ_cons, List.drop_zero]
            rw [h1, h10]
            have hown := OWN.out w' hb
            have hsz := hb.size
            have PU := Lib.hid (PUSH.out w' XA cA hb o10)
            have hy : Lies w' (some ⟨gA, 0, none⟩) [.int .i64 x.num, .slice XA x.l.length cA, .int .i64 x.s] := fun _ => ⟨gA, 0, rfl, fun j u hu => by
              rw [Nat.zero_add]
              exact B10.cell (by simpa using hu)⟩
            clear PUSH OWN B10 o10 x0 x1 x2 y1
            go_wp2_with (at_builtin; refine wpList_append_lies _ rfl _ _ 22 rfl (w3.heap.size + 1) 50 i0 (.agg #[.int .i64 0, .slice none 0 0, .int .i64 0]) 3 40 Tryd.underlying22 hI hz0 hz1 hz2 rfl (by decide) _ M2.length (fCells M2) rfl hown (some ⟨gA, 0, none⟩) 1 1 (fun h => by cases h) [.int .i64 x.num, .slice XA x.l.length cA, .int .i64 x.s] rfl rfl hy (by intro u hu; simp at hu; rcases hu with rfl | rfl | rfl <;> rfl) ?c3 ?c4 ?c5 ?_)
            case c3 => unfold maxLen; omega
            case c4 => exact hMn
            case c5 => omega
            intro v2 w2 ho2 hg2 _
            have nx := Lib.hid (PU.out v2 w2 hg2 ho2)
            obtain ⟨V3, cv3, rfl, -, -, -, -⟩ := own_form ho2
            have z1 := nx.out.2.2.2.2.2.1
            have z2 := nx.out.2.2.2.2.2.2
            clear ho2 hg2 hown hy PU
            go_wp2_with fail
            go_roundw
            case rel => exact ⟨k + 1, _, _, by omega, by first | rfl | go_num, by rw [HDN.out], nx.out.1, HMP.out _ _, nx.out.2.1, nx.out.2.2.1, nx.out.2.2.2.1, nx.out.2.2.2.2.1⟩
            case measure => simp [intOf]; omega
        · have da : decide (at_ < k) = false := decide_eq_false hA1
          rw [da]
          have dn : decide (n < x.num) = false := decide_eq_false (by have := HLW.out.lo k x (by omega) HX.out; omega)
          have HMP := Lib.hid (show ∀ (X' : Option Addr) (c' : Nat), (M ++ [{ x with X := X', c := c' }]).map Fc.fi = Dk.insTo (L.map Fc.fi) n at_ (k + 1) from fun X' c' => by rw [Dk.insTo_one (by omega) hfx, List.map_append, hfi]; rfl)
          have HDN := Lib.hid (decide_eq_false (show ¬ at_ < k + 1 by omega))
          clear hfi hfx
          obtain ⟨W1, hW1⟩ : ∃ W1, wr.alloc (.cells #[.int .i64 x.num, .slice x.X x.l.length x.c, .int .i64 x.s] 50) = W1 := ⟨_, rfl⟩
          have hb1 : Below wr.heap.size wr W1 := by rw [← hW1]; exact below_new (Below.refl _ _) _
          have hB1 : Blk W1 wr.heap.size 50 #[.int .i64 x.num, .slice x.X x.l.length x.c, .int .i64 x.s] := by rw [← hW1]; exact Blk.new wr _ _
          have hxo := ((HD.out.later hbw).later hb1).one HX.out
          have hxl := HFT.out.each x (List.mem_of_getElem? HX.out)
          have x0 := Lib.hid (hB1.cell (i := 0) rfl)
          have x1 := Lib.hid (hB1.cell (i := 1) rfl)
          have x2 := Lib.hid (hB1.cell (i := 2) rfl)
          have y1 := Lib.hid (cell_later hb1 d21)
          have HW1 := Lib.hid hW1
          have XO := Lib.hid hxo
          have BB := Lib.hid hb1
          have HO := Lib.hid hO
          have D0 := Lib.hid hD0
          have D1 := Lib.hid hD1
          have D2 := Lib.hid hD2
          have hs1 := hb1.size
          clear hxo hb1 hB1 hW1 hO hD0 hD1 hD2
          have PUSH := Lib.hid (fun (w' : World) (X' : Option Addr) (c' : Nat) (hb : Below W1.heap.size W1 w') (ho : OwnBS w' W1.heap.size 5 { x with X := X', c := c' }) (v2 : Value) (w2 : World) (hg : w'.grownBy w2 (Value.ownBlock (.slice V2 M.length cv2)))
              (h2 : w2.ownsRow (w3.heap.size + 1) 50 3 v2 (M.length + 1) (fCells M ++ [.int .i64 x.num, .slice X' x.l.length c', .int .i64 x.s])) =>
            (show HardD (w2.setCell ⟨w3.heap.size, 1, none⟩ v2) (w3.heap.size + 1) 50 5 v2 (M ++ [{ x with X := X', c := c' }]) ∧ Blk (w2.setCell ⟨w3.heap.size, 1, none⟩ v2) w.heap.size 24 #[.int .i64 room, .slice (some ⟨bA, off, none⟩) L.length c] ∧ Blk (w2.setCell ⟨w3.heap.size, 1, none⟩ v2) (w.heap.size + 1) 24 #[.int .i64 0, .slice none 0 0] ∧ Blk (w2.setCell ⟨w3.heap.size, 1, none⟩ v2) w3.heap.size 24 #[.int .i64 room, v2] ∧ Below w.heap.size w (w2.setCell ⟨w3.heap.size, 1, none⟩ v2) ∧ w2.cell? ⟨w3.heap.size, 1, none⟩ = some (.slice V2 M.length cv2) ∧ w2.frozen? ⟨w3.heap.size, 1, none⟩ = false from by
              have bb := below_on BB.out hb
              have hs := bb.size
              have hs0 := BB.out.size
              have hs1 := hb.size
              obtain ⟨p1, p2, p3, p4, p5, p6, -⟩ := HardD.push (W := wr) (w' := w') (x := { x with X := X', c := c' }) (B := W1.heap.size) (by decide) HO.out D2.out (by omega) bb hs0 (by omega) ho hg h2
              have hge := p6
              refine ⟨p1, (p5 _ (by omega) (by omega) (by omega)).trans (D0.out.later bb), (p5 _ (by omega) (by omega) (by omega)).trans (D1.out.later bb), p2, ((below_on hbw bb).grown hg (by have := hbw.size; omega) (fun k hk => by have := hge k hk; omega)).setCell (by show w.heap.size ≤ w3.heap.size; omega) _, p3, p4⟩))
          have OWN := Lib.hid (fun (w' : World) (hb : Below W1.heap.size W1 w') => (HO.out.own.later (below_on BB.out hb)).row)
          have hMn : (M.length + 1) * 40 ≤ 140737488355328 := by omega
          have hMs : w3.heap.size + 1 ≤ W1.heap.size := by omega
          clear D0 D1 D2 HO hs1
          go_wp2_with fail
          rw [HW1.out]
          refine wp_region_facts 11 (by kernel_rfl) (by kernel_rfl)
            (fun v => { tmps := #[.agg #[.int .i64 room, .slice (some ⟨bA, off, none⟩) L.length c], .int .i64 n, .slice B b.length cb, .pointer (some ⟨w.heap.size, 0, none⟩), undef, undef, .pointer (some ⟨w.heap.size + 1, 0, none⟩), .int .i64 0, .pointer (some ⟨w3.heap.size, 0, none⟩), .bool false, .int .i64 (k : Int), .pointer (some ⟨wr.heap.size, 0, none⟩), undef, .agg #[.int .i64 room, .slice (some ⟨bA, off, none⟩) L.length c], .bool true, .bool false, .bool false, .int .i64 n, .bool false, .bool false, .bool false, .int .i64 n, .bool false, .bool false, undef, .slice B b.length cb, .int .i64 (b.length : Int), .pointer (some ⟨w.heap.size, 0, none⟩), .int .i64 room, .agg #[.int .i64 room, .slice (some ⟨bA, off, none⟩) L.length c], .int .i64 u, .int .i64 (room - u), .bool false, undef, .agg #[.int .i64 room, .slice (some ⟨bA, off, none⟩) L.length c], .agg #[.int .i64 room, .slice V L2.length cv], .agg #[.int .i64 room, .slice V L2.length cv], .int .i64 n, .int .i64 (-1), .bool true, .pointer (some ⟨w3.heap.size, 1, none⟩), .int .i64 (k : Int), .pointer (some ⟨w.heap.size, 1, none⟩), .slice (some ⟨bA, off, none⟩) L.length c, .int .i64 (L.length : Int), .bool true, u46, u47, .bool false, .bool true, .bool true, .pointer (some ⟨w.heap.size, 1, none⟩), .slice (some ⟨bA, off, none⟩) L.length c, .int .i64 (k : Int), .pointer (some ⟨bA, off + k * 3, none⟩), .pointer (some ⟨bA, off + k * 3, none⟩), .int .i64 x.num, .int .i64 n, .bool false, .bool false, u60, u61, u62, u63, u64, u65, u66, .pointer (some ⟨w.heap.size, 1, none⟩), .slice (some ⟨bA, off, none⟩) L.length c, .int .i64 (k : Int), .pointer (some ⟨bA, off + k * 3, none⟩), .agg #[.int .i64 x.num, .slice x.X x.l.length x.c, .int .i64 x.s], v 0, v 1, v 2, v 3, v 4, v 5, v 6, v 7, v 8, v 9, v 10, u83, u84, undef, undef, undef, undef, undef, undef, undef, undef, undef, undef, undef, undef, undef, undef, undef, undef, undef, undef, undef, undef, undef, undef, undef, undef, undef, undef], defers := [] }) (fun i => match i with | 0 => u72 | 1 => u73 | 2 => u74 | 3 => u75 | 4 => u76 | 5 => u77 | 6 => u78 | 7 => u79 | 8 => u80 | 9 => u81 | 10 => u82 | _ => undef)
            (fun i x_ wx => match i with
              | 0 => x_ = .pointer (some ⟨w3.heap.size, 1, none⟩)
              | 1 => x_ = .slice V2 M.length cv2
              | 2 => x_ = .pointer (some ⟨wr.heap.size, 0, none⟩)
              | 3 => x_ = .int .i64 x.num
              | 4 => x_ = .pointer (some ⟨wr.heap.size, 1, none⟩)
              | 5 => x_ = .slice x.X x.l.length x.c
              | 6 => ∃ X' c', x_ = .slice X' x.l.length c' ∧ OwnBS wx W1.heap.size 5 { x with X := X', c := c' }
              | 7 => x_ = .pointer (some ⟨wr.heap.size, 2, none⟩)
              | 8 => x_ = .int .i64 x.s
              | 9 => ∃ X' c', x_ = .agg #[.int .i64 x.num, .slice X' x.l.length c', .int .i64 x.s] ∧ OwnBS wx W1.heap.size 5 { x with X := X', c := c' }
              | 10 => ∃ g X' c', x_ = .slice (some ⟨g, 0, none⟩) 1 1 ∧ Blk wx g 50 #[.int .i64 x.num, .slice X' x.l.length c', .int .i64 x.s] ∧ OwnBS wx W1.heap.size 5 { x with X := X', c := c' }
              | _ => True)
            (fun w1 w2 => Below w1.heap.size w1 w2) (fun h1 h2 => below_on h1 h2) (fun _ => Below.refl _ _) (Below.drew (Below.refl _ _)) ?stab ?step ?done
          case stab =>
            rintro i x_ w1 w2 h hb
            match i, h with
            | 0, h => exact h
            | 1, h => exact h
            | 2, h => exact h
            | 3, h => exact h
            | 4, h => exact h
            | 5, h => exact h
            | 6, h => obtain ⟨X', c', h1, h2⟩ := h; exact ⟨X', c', h1, h2.later hb⟩
            | 7, h => exact h
            | 8, h => exact h
            | 9, h => obtain ⟨X', c', h1, h2⟩ := h; exact ⟨X', c', h1, h2.later hb⟩
            | 10, h => obtain ⟨g, X', c', h1, h2, h3⟩ := h; exact ⟨g, X', c', h1, h2.later hb, h3.later hb⟩
            | i + 11, _ => trivial
          case step =>
            intro i hi v w' hb hd
            match i, hi with
            | 0, _ =>
              refine wpOp_one rfl ?_
              clear hd
              go_wp2
              first | exact ⟨_, (by simp [upd]; done), Below.refl _ _, rfl⟩ | exact ⟨(by simp [upd]; done), Below.refl _ _⟩
            | 1, _ =>
              have h0 : v 0 = _ := hd 0 (List.elem_iff.1 (by kernel_rfl))
              refine wpOp_one rfl ?_
              clear hd
              rw [h0]
              have q0 := cell_later hb y1.out
              go_wp2
              first | exact ⟨_, (by simp [upd, h0]; done), Below.refl _ _, rfl⟩ | exact ⟨(by simp [upd, h0]; done), Below.refl _ _⟩
            | 2, _ =>
              refine wpOp_one rfl ?_
              clear hd
              go_wp2
              first | exact ⟨_, (by simp [upd]; done), Below.refl _ _, rfl⟩ | exact ⟨(by simp [upd]; done), Below.refl _ _⟩
            | 3, _ =>
              have h2 : v 2 = _ := hd 2 (List.elem_iff.1 (by kernel_rfl))
              refine wpOp_one rfl ?_
              clear hd
              rw [h2]
              have q0 := cell_later hb x0.out
              go_wp2
              first | exact ⟨_, (by simp [upd, h2]; done), Below.refl _ _, rfl⟩ | exact ⟨(by simp [upd, h2]; done), Below.refl _ _⟩
            | 4, _ =>
              refine wpOp_one rfl ?_
              clear hd
              go_wp2
              first | exact ⟨_, (by simp [upd]; done), Below.refl _ _, rfl⟩ | exact ⟨(by simp [upd]; done), Below.refl _ _⟩
            | 5, _ =>
              have h4 : v 4 = _ := hd 4 (List.elem_iff.1 (by kernel_rfl))
              refine wpOp_one rfl ?_
              clear hd
              rw [h4]
              have q0 := cell_later hb x1.out
              go_wp2
              first | exact ⟨_, (by simp [upd, h4]; done), Below.refl _ _, rfl⟩ | exact ⟨(by simp [upd, h4]; done), Below.refl _ _⟩
            | 6, _ =>
              have h5 : v 5 = _ := hd 5 (List.elem_iff.1 (by kernel_rfl))
              refine wpOp_one rfl ?_
              clear hd
              rw [h5]
              have CL := bcopy_any x.X x.c x.l w' hxl (XO.out.later hb)
              have hsz := hb.size
              go_wp2_with fail
              refine CL.mono ?_
              rintro e w'' ⟨v2, rfl, ho, b2⟩
              obtain ⟨X', c', rfl, -, -, -, -⟩ := own_form ho
              have ON : OwnBS w'' w'.heap.size 5 { x with X := X', c := c' } := ⟨OwnB.of_own (f := { x with X := X', c := c' }) ho XO.out.byte, ho⟩
              go_wp2
              exact ⟨_, (by simp [upd, h5]; done), b2, X', c', rfl, ON.lower hsz⟩
            | 7, _ =>
              refine wpOp_one rfl ?_
              clear hd
              go_wp2
              first | exact ⟨_, (by simp [upd]; done), Below.refl _ _, rfl⟩ | exact ⟨(by simp [upd]; done), Below.refl _ _⟩
            | 8, _ =>
              have h7 : v 7 = _ := hd 7 (List.elem_iff.1 (by kernel_rfl))
              refine wpOp_one rfl ?_
              clear hd
              rw [h7]
              have q0 := cell_later hb x2.out
              go_wp2
              first | exact ⟨_, (by simp [upd, h7]; done), Below.refl _ _, rfl⟩ | exact ⟨(by simp [upd, h7]; done), Below.refl _ _⟩
            | 9, _ =>
              have h3 : v 3 = _ := hd 3 (List.elem_iff.1 (by kernel_rfl))
              obtain ⟨X6, c6, h6, o6⟩ := hd 6 (List.elem_iff.1 (by kernel_rfl))
              have h8 : v 8 = _ := hd 8 (List.elem_iff.1 (by kernel_rfl))
              refine wpOp_one rfl ?_
              clear hd
              rw [h3, h6, h8]
              go_wp2
              exact ⟨_, (by simp [upd, h3, h6, h8]; done), Below.refl _ _, X6, c6, rfl, o6⟩
            | 10, _ =>
              obtain ⟨X9, c9, h9, o9⟩ := hd 9 (List.elem_iff.1 (by kernel_rfl))
              refine wpOp_one rfl ?_
              clear hd
              rw [h9]
              have hbn := below_new (Below.refl w'.heap.size w') (.cells #[.int .i64 x.num, .slice X9 x.l.length c9, .int .i64 x.s] 50)
              have hbk := Blk.new w' 50 #[.int .i64 x.num, .slice X9 x.l.length c9, .int .i64 x.s]
              have o9' := o9.later hbn
              have OO := Lib.hid o9'
              have KK := Lib.hid hbk
              clear o9 o9' hbk
              go_wp2
              exact ⟨_, (by simp [upd, h9]; done), hbn, w'.heap.size, X9, c9, rfl, KK.out, OO.out⟩
          case done =>
            intro v w' hb hf
            obtain ⟨gA, XA, cA, h10, B10, o10⟩ := hf 10 (by omega)
            have h1 : v 1 = _ := hf 1 (by omega)
            clear hf
            simp only [List.drop_succ_cons, List.drop_zero]
            rw [h1, h10]
            have hown := OWN.out w' hb
            have hsz := hb.size
            have PU := Lib.hid (PUSH.out w' XA cA hb o10)
            have hy : Lies w' (some ⟨gA, 0, none⟩) [.int .i64 x.num, .slice XA x.l.length cA, .int .i64 x.s] := fun _ => ⟨gA, 0, rfl, fun j u hu => by
              rw [Nat.zero_add]
              exact B10.cell (by simpa using hu)⟩
            clear PUSH OWN B10 o10 x0 x1 x2 y1
            go_wp2_with (at_builtin; refine wpList_append_lies _ rfl _ _ 22 rfl (w3.heap.size + 1) 50 i0 (.agg #[.int .i64 0, .slice none 0 0, .int .i64 0]) 3 40 Tryd.underlying22 hI hz0 hz1 hz2 rfl (by decide) _ M.length (fCells M) rfl hown (some ⟨gA, 0, none⟩) 1 1 (fun h => by cases h) [.int .i64 x.num, .slice XA x.l.length cA, .int .i64 x.s] rfl rfl hy (by intro u hu; simp at hu; rcases hu with rfl | rfl | rfl <;> rfl) ?c3 ?c4 ?c5 ?_)
            case c3 => unfold maxLen; omega
            case c4 => exact hMn
            case c5 => omega
            intro v2 w2 ho2 hg2 _
            have nx := Lib.hid (PU.out v2 w2 hg2 ho2)
            obtain ⟨V3, cv3, rfl, -, -, -, -⟩ := own_form ho2
            have z1 := nx.out.2.2.2.2.2.1
            have z2 := nx.out.2.2.2.2.2.2
            clear ho2 hg2 hown hy PU
            go_wp2_with fail
            go_roundw
            case rel => exact ⟨k + 1, _, _, by omega, by first | rfl | go_num, by rw [HDN.out], nx.out.1, HMP.out _ _, nx.out.2.1, nx.out.2.2.1, nx.out.2.2.2.1, nx.out.2.2.2.2.1⟩
            case measure => simp [intOf]; omega
      · have hkl : k = L.length := by omega
        have dk : decide ((k : Int) < (L.length : Int)) = false := decide_eq_false (by omega)
        by_cases hda : at_ < L.length
        · have da : decide (at_ < k) = true := decide_eq_true (by omega)
          rw [da]
          have hM : M.map Fc.fi = (Dk.insL L n at_).map Fc.fi := by rw [hfi, hkl]; exact Dk.insTo_done hda
          clear hfi hkl hda d21 f21
          obtain ⟨x, hx2, hxx⟩ := Dk.at_ins HLW.out hM
          have HFT2 := Lib.hid (show ∀ f' : Fc, f'.fi = (x.num, x.l ++ b, x.s) → (M.set at_ f').map Fc.fi = (Dk.ins (L.map Fc.fi) n).map (Dk.app1 n b) from fun f' h1 => Dk.map_ins HLW.out hM hx2 h1)
          have HPT := Lib.hid (Dk.plc_fi hM (Dk.plc_ins HLW.out))
          have HXL := Lib.hid (show (x.l.length : Int) ≤ u from by
            have h1 : x.l = [] := congrArg (·.2.1) hxx
            rw [h1]
            exact hu0)
          have HX2 := Lib.hid hx2
          have HH2 := Lib.hid hO; have YH2 := Lib.hid hD2; have ZH2 := Lib.hid hD1; have BBT := Lib.hid hbw
          clear hO hD0 hD1 hD2 hbw hx2 hxx hM
          have NP2 := Lib.hid (show Calls Tryd.prog 54 #[.agg #[.int .i64 room, .slice V2 M.length cv2], .int .i64 n] wr (Says (.int .i64 (at_ : Int)) wr) from by have h := rplace_any room n (at_ : Int) V2 cv2 M wr HH2.out.own.oneD HPT.out; rw [show M.length = M.length from rfl] at h; exact h)
          have ty0 := YH2.out.cell (i := 0) rfl
          have ty1 := YH2.out.cell (i := 1) rfl
          go_wp2_with fail
          refine NP2.out.mono ?_
          rintro e w6 ⟨rfl, b6⟩
          have hatM : at_ < M.length := (List.getElem?_eq_some_iff.1 HX2.out).1
          have H6 := HH2.out.later b6
          have Y6 := YH2.out.later b6
          have Z6 := ZH2.out.later b6
          have B6 := below_on BBT.out b6
          obtain ⟨g, cap, hgv⟩ := own_len H6.own.row (by omega)
          injection hgv with hV h2 h3
          subst hV h3
          clear h2
          have H7 : HardD w6.drew (w3.heap.size + 1) 50 5 (.slice (some ⟨g, 0, none⟩) M.length cv2) M := H6.later (Below.refl _ _).drew
          have hrow6 : w6.ownsRow (w3.heap.size + 1) 50 3 (.slice (some ⟨g, 0, none⟩) M.length cv2) M.length (fCells M) := by have h := H6.own.row; rw [show M.length = M.length from rfl] at h; exact h
          obtain ⟨q0, q1, q2, q3, q4⟩ := row_cells hrow6 HX2.out
          have hng : w3.heap.size ≠ g := H6.own.off Y6 (by decide)
          have hobx := H6.own.each x (List.mem_of_getElem? HX2.out)
          have hnb : x.blk ≠ some w3.heap.size := hobx.off Y6 (by decide)
          have hox : w6.drew.ownsRow (w3.heap.size + 1) 5 1 (.slice x.X x.l.length x.c) x.l.length (bCells x.l) := H7.hard x (List.mem_of_getElem? HX2.out)
          have hbl2 : Lies w6.drew B (bCells b) := ((HBB.out.later B6).lies).drew
          have hglow := own_base_le hrow6
          have hbsz : (w3.heap.size + 1) ≤ w6.heap.size := by omega
          have APP := Lib.hid (fun (X2 : Option Addr) (c2 : Nat) (w7 : World) (ho2 : w7.ownsRow (w3.heap.size + 1) 5 1 (.slice X2 (x.l.length + b.length) c2) (x.l.length + b.length) (bCells x.l ++ bCells b)) (hg2 : w6.drew.grownBy w7 (Value.ownBlock (.slice x.X x.l.length x.c))) (hblk : Value.ownBlock (.slice X2 (x.l.length + b.length) c2) = Value.ownBlock (.slice x.X x.l.length x.c) ∨ Value.ownBlock (.slice X2 (x.l.length + b.length) c2) = some w6.drew.heap.size) =>
            (show w7.cell? ⟨g, at_ * 3 + 1, none⟩ = some (.slice x.X x.l.length x.c) ∧ w7.frozen? ⟨g, at_ * 3 + 1, none⟩ = false ∧ w7.cell? ⟨w3.heap.size, 1, none⟩ = some (.slice (some ⟨g, 0, none⟩) M.length cv2) ∧ ∀ (W : World), W = w7.setCell ⟨g, at_ * 3 + 1, none⟩ (.slice X2 (x.l.length + b.length) c2) →
                Blk W w3.heap.size 24 #[.int .i64 room, .slice (some ⟨g, 0, none⟩) M.length cv2] ∧ Blk W (w.heap.size + 1) 24 #[.int .i64 0, .slice none 0 0] ∧ Below w.heap.size w W ∧ OwnD W (w3.heap.size + 1) 50 5 (.slice (some ⟨g, 0, none⟩) M.length cv2) (M.set at_ { x with X := X2, c := c2, l := x.l ++ b }) from by
              obtain ⟨p1, p2, p3, p4, p5⟩ := HardD.app (by decide) rfl H7 HX2.out HBB.out.byte q1 q3 (fun l X c hr => row_put1 hr HX2.out X c l) ho2 hg2 hblk
              rw [sl_blk x] at hg2
              refine ⟨p1, p2, (World.cell?_of_block (w := w6) (a := ⟨w3.heap.size, 1, none⟩) (hg2.block w3.heap.size Y6.lt (fun e => hnb e.symm))).trans (Y6.cell (i := 1) rfl), fun W hW => ?_⟩
              subst hW
              exact ⟨(p4 _ Y6.lt hng hnb).trans Y6, (p4 _ Z6.lt (by omega) (fun e => by have := (hobx.lt _ e).1; omega)).trans Z6, (B6.drew).trans (p5 _ (by omega)), p3⟩))
          have ty1 := Y6.cell (i := 1) rfl
          have q1' : w6.drew.cell? ⟨g, at_ * 3 + 1, none⟩ = some (.slice x.X x.l.length x.c) := q1
          have ty1' : w6.drew.cell? ⟨w3.heap.size, 1, none⟩ = some (.slice (some ⟨g, 0, none⟩) M.length cv2) := ty1
          have HOX := Lib.hid hox; have HBL2 := Lib.hid hbl2
          have ti0 : (0 : Int) ≤ (at_ : Int) := by omega
          have ti1 : (at_ : Int) < (((M.length : Nat)) : Int) := by have : M.length = M.length := rfl; omega
          have tln : x.l.length + b.length ≤ 140737488355328 := by have := HXL.out; omega
          clear H6 H7 Y6 Z6 B6 q0 q2 q3 q4 hng hobx hnb hox hbl2 hglow hrow6
          go_wp2_with fail
          go_region_law (refine step_append_any _ rfl _ _ 25 rfl (w3.heap.size + 1) 5 iB (.int .u8 0) 1 1 Tryd.underlying25 hIB hzB0 hzB1 hzB2 rfl (by decide) _ x.l.length (bCells x.l) rfl HOX.out B b.length cb HBB.out.noA (bCells b) rfl (by rw [bCells_length, Nat.mul_one]) HBL2.out (bCells_one b) (by unfold maxLen; omega) (by omega) hbsz ?_; intro X2 c2 w7 ho7 hg7 hk7; have rt := APP.out X2 c2 w7 ho7 hg7 hk7; have u1 := rt.1; have u2 := rt.2.1; have u3 := rt.2.2.1; have UU := Lib.hid rt.2.2.2; clear rt ho7 hg7 hk7)
          all_goals
            obtain ⟨W8, hW8⟩ : ∃ W8, w7.setCell ⟨g, at_ * 3 + 1, none⟩ (.slice X2 (x.l.length + b.length) c2) = W8 := ⟨_, rfl⟩
            obtain ⟨uY, uZ, uB, uO⟩ := UU.out W8 hW8.symm
            rw [hW8]
            have v0 := uY.cell (i := 0) rfl
            have v1 := uY.cell (i := 1) rfl
            have UO := Lib.hid uO; have UB := Lib.hid uB; have UZ := Lib.hid uZ
            clear uY uZ uB uO hW8
            have z' := UZ.out
            have y0 := z'.cell (i := 0) rfl
            have y1 := z'.cell (i := 1) rfl
            have s0 := z'.free 0
            have s1 := z'.free 1
            have hz := (z'.put 0 (.int .i64 room)).put 1 (.slice (some ⟨g, 0, none⟩) M.length cv2)
            have z0 := Lib.hid (hz.cell (i := 0) rfl)
            have z1 := Lib.hid (hz.cell (i := 1) rfl)
            have hbz := ((UB.out).setCell (p := ⟨w.heap.size + 1, 0, none⟩) (by show w.heap.size ≤ w.heap.size + 1; omega) (.int .i64 room)).setCell (p := ⟨w.heap.size + 1, 1, none⟩) (by show w.heap.size ≤ w.heap.size + 1; omega) (.slice (some ⟨g, 0, none⟩) M.length cv2)
            have hO2 := (((UO.out).low (p := ⟨w.heap.size + 1, 0, none⟩) (by show w.heap.size + 1 < _; omega) (.int .i64 room)).low (p := ⟨w.heap.size + 1, 1, none⟩) (by show w.heap.size + 1 < _; omega) (.slice (some ⟨g, 0, none⟩) M.length cv2)).lower (base' := w.heap.size) (by omega)
            have FIN := Lib.hid (show GivesDE (room, (Dk.ins (L.map Fc.fi) n).map (Dk.app1 n b), 0) w (.returned (.tuple #[.agg #[.int .i64 room, .slice (some ⟨g, 0, none⟩) M.length cv2], .int .i64 0])) _ from ⟨_, M.set at_ { x with X := X2, c := c2, l := x.l ++ b }, rfl, hO2, HFT2.out _ rfl, hbz⟩)
            clear z' hz hbz hO2
            go_wp2
            have z0 := z0.out
            have z1 := z1.out
            exact bodyPost_ret (v := .tuple #[.agg #[.int .i64 room, .slice (some ⟨g, 0, none⟩) M.length cv2], .int .i64 0]) (by simp [results, Tryd.results33, go_sem, z0, z1]) rfl FIN.out
        · have da : decide (at_ < k) = false := decide_eq_false (by omega)
          rw [da]
          have HIN := Lib.hid (show ∀ M2 : List Fc, M2.map Fc.fi = Dk.insTo (L.map Fc.fi) n at_ k ++ [(n, [], 0)] → M2.map Fc.fi = (Dk.insL L n at_).map Fc.fi from fun M2 h2 => by rw [h2, hkl]; exact Dk.insTo_not hda (by omega))
          have hkb : k ≤ 1048577 := by omega
          clear hkl hda
          have b13 := below_new (Below.refl wr.heap.size wr) (.cells #[.int .i64 n, .slice none 0 0, .int .i64 0] 50)
          have hown13 := (hO.own.later b13).row
          have hy13 : Lies (wr.alloc (.cells #[.int .i64 n, .slice none 0 0, .int .i64 0] 50)) (some ⟨wr.heap.size, 0, none⟩) [.int .i64 n, .slice none 0 0, .int .i64 0] := fun _ => ⟨wr.heap.size, 0, rfl, fun j u hu => by
            rw [Nat.zero_add]
            exact (Blk.new wr 50 #[.int .i64 n, .slice none 0 0, .int .i64 0]).cell (by simpa using hu)⟩
          have d21 := cell_later b13 d21
          have hs13 : w3.heap.size + 1 ≤ (wr.alloc (.cells #[.int .i64 n, .slice none 0 0, .int .i64 0] 50)).heap.size := by have := b13.size; omega
          have PUSH13 := Lib.hid (fun (v2 : Value) (w2 : World) (hg : (wr.alloc (.cells #[.int .i64 n, .slice none 0 0, .int .i64 0] 50)).grownBy w2 (Value.ownBlock (.slice V2 M.length cv2)))
              (h2 : w2.ownsRow (w3.heap.size + 1) 50 3 v2 (M.length + 1) (fCells M ++ [.int .i64 n, .slice none 0 0, .int .i64 0])) =>
            (show HardD (w2.setCell ⟨w3.heap.size, 1, none⟩ v2) (w3.heap.size + 1) 50 5 v2 (M ++ [⟨n, none, 0, [], 0⟩]) ∧ Blk (w2.setCell ⟨w3.heap.size, 1, none⟩ v2) w.heap.size 24 #[.int .i64 room, .slice A L.length c] ∧ Blk (w2.setCell ⟨w3.heap.size, 1, none⟩ v2) (w.heap.size + 1) 24 #[.int .i64 0, .slice none 0 0] ∧ Blk (w2.setCell ⟨w3.heap.size, 1, none⟩ v2) w3.heap.size 24 #[.int .i64 room, v2] ∧ Below w.heap.size w (w2.setCell ⟨w3.heap.size, 1, none⟩ v2) ∧ w2.cell? ⟨w3.heap.size, 1, none⟩ = some (.slice V2 M.length cv2) ∧ w2.frozen? ⟨w3.heap.size, 1, none⟩ = false from by
              have hs := b13.size
              obtain ⟨p1, p2, p3, p4, p5, p6, -⟩ := HardD.push (W := wr) (w' := wr.alloc (.cells #[.int .i64 n, .slice none 0 0, .int .i64 0] 50)) (x := ⟨n, none, 0, [], 0⟩) (B := wr.heap.size) (by decide) hO hD2 (by omega) b13 (Nat.le_refl _) (by omega) (OwnBS.zero _ _ _ _) hg h2
              have hge := p6
              refine ⟨p1, (p5 _ (by omega) (by omega) (by omega)).trans (hD0.later b13), (p5 _ (by omega) (by omega) (by omega)).trans (hD1.later b13), p2, ((below_on hbw b13).grown hg (by have := hbw.size; omega) (fun k hk => by have := hge k hk; omega)).setCell (by show w.heap.size ≤ w3.heap.size; omega) _, p3, p4⟩))
          have HOWN := Lib.hid hown13; have HY13 := Lib.hid hy13; have HFI3 := Lib.hid hfi
          clear hown13 hy13 hO hD0 hD1 hD2 b13 hfi
          go_wp2_with (at_builtin; refine wpList_append_lies _ rfl _ _ 22 rfl (w3.heap.size + 1) 50 i0 (.agg #[.int .i64 0, .slice none 0 0, .int .i64 0]) 3 40 Tryd.underlying22 hI hz0 hz1 hz2 rfl (by decide) _ M.length (fCells M) rfl HOWN.out (some ⟨wr.heap.size, 0, none⟩) 1 1 (fun h => by cases h) [.int .i64 n, .slice none 0 0, .int .i64 0] rfl rfl HY13.out (by intro u hu; simp at hu; rcases hu with rfl | rfl | rfl <;> rfl) ?c3 ?c4 ?c5 ?_)
          case c3 => unfold maxLen; omega
          case c4 => omega
          case c5 => exact hs13
          intro v2 w2 ho2 hg2 _
          have nx := Lib.hid (PUSH13.out v2 w2 hg2 ho2)
          obtain ⟨V3, cv3, rfl, -, hcm3, -, -⟩ := own_form ho2
          unfold maxLen at hcm3
          have z1 := nx.out.2.2.2.2.2.1
          have z2 := nx.out.2.2.2.2.2.2
          clear ho2 hg2 PUSH13 HOWN HY13 d21 d01 f21 hlo hs13
          go_upto_region 19 with (fail)
          obtain ⟨hO, hD0, hD1, hD2, hbq, -, -⟩ := nx.out
          obtain ⟨wq, hwq⟩ : ∃ wq, w2.setCell ⟨w3.heap.size, 1, none⟩ (.slice V3 (M.length + 1) cv3) = wq := ⟨_, rfl⟩
          obtain ⟨M2, hM2⟩ : ∃ M2, M ++ [(⟨n, none, 0, [], 0⟩ : Fc)] = M2 := ⟨_, rfl⟩
          have hml : M.length + 1 = M2.length := by rw [← hM2, List.length_append]; rfl
          rw [hwq, hM2] at hO
          rw [hwq] at hD0 hD1 hD2 hbq ⊢
          rw [hml] at hO hD2 ⊢
          have hfi2 : M2.map Fc.fi = Dk.insTo (L.map Fc.fi) n at_ k ++ [(n, [], 0)] := by rw [← hM2, List.map_append, HFI3.out]; rfl
          clear nx z1 z2 hwq hM2 HFI3
          have hbw := hbq
          clear hbq
          have hMl : M2.length ≤ k + 2 := by omega
          have d01 := hD0.cell (i := 1) rfl
          have d21 := hD2.cell (i := 1) rfl
          have f21 := hD2.free 1
          have hlo := hD2.lt
          clear hml
          have hM := HIN.out M2 hfi2
          clear hfi2 HIN d01 d21 f21
          obtain ⟨x, hx2, hxx⟩ := Dk.at_ins HLW.out hM
          have HFT2 := Lib.hid (show ∀ f' : Fc, f'.fi = (x.num, x.l ++ b, x.s) → (M2.set at_ f').map Fc.fi = (Dk.ins (L.map Fc.fi) n).map (Dk.app1 n b) from fun f' h1 => Dk.map_ins HLW.out hM hx2 h1)
          have HPT := Lib.hid (Dk.plc_fi hM (Dk.plc_ins HLW.out))
          have HXL := Lib.hid (show (x.l.length : Int) ≤ u from by
            have h1 : x.l = [] := congrArg (·.2.1) hxx
            rw [h1]
            exact hu0)
          have HX2 := Lib.hid hx2
          have HH2 := Lib.hid hO; have YH2 := Lib.hid hD2; have ZH2 := Lib.hid hD1; have BBT := Lib.hid hbw
          clear hO hD0 hD1 hD2 hbw hx2 hxx hM
          have NP2 := Lib.hid (show Calls Tryd.prog 54 #[.agg #[.int .i64 room, .slice V3 M2.length cv3], .int .i64 n] wq (Says (.int .i64 (at_ : Int)) wq) from by have h := rplace_any room n (at_ : Int) V3 cv3 M2 wq HH2.out.own.oneD HPT.out; rw [show M2.length = M2.length from rfl] at h; exact h)
          have ty0 := YH2.out.cell (i := 0) rfl
          have ty1 := YH2.out.cell (i := 1) rfl
          go_wp2_with fail
          refine NP2.out.mono ?_
          rintro e w6 ⟨rfl, b6⟩
          have hatM : at_ < M2.length := (List.getElem?_eq_some_iff.1 HX2.out).1
          have H6 := HH2.out.later b6
          have Y6 := YH2.out.later b6
          have Z6 := ZH2.out.later b6
          have B6 := below_on BBT.out b6
          obtain ⟨g, cap, hgv⟩ := own_len H6.own.row (by omega)
          injection hgv with hV h2 h3
          subst hV h3
          clear h2
          have H7 : HardD w6.drew (w3.heap.size + 1) 50 5 (.slice (some ⟨g, 0, none⟩) M2.length cv3) M2 := H6.later (Below.refl _ _).drew
          have hrow6 : w6.ownsRow (w3.heap.size + 1) 50 3 (.slice (some ⟨g, 0, none⟩) M2.length cv3) M2.length (fCells M2) := by have h := H6.own.row; rw [show M2.length = M2.length from rfl] at h; exact h
          obtain ⟨q0, q1, q2, q3, q4⟩ := row_cells hrow6 HX2.out
          have hng : w3.heap.size ≠ g := H6.own.off Y6 (by decide)
          have hobx := H6.own.each x (List.mem_of_getElem? HX2.out)
          have hnb : x.blk ≠ some w3.heap.size := hobx.off Y6 (by decide)
          have hox : w6.drew.ownsRow (w3.heap.size + 1) 5 1 (.slice x.X x.l.length x.c) x.l.length (bCells x.l) := H7.hard x (List.mem_of_getElem? HX2.out)
          have hbl2 : Lies w6.drew B (bCells b) := ((HBB.out.later B6).lies).drew
          have hglow := own_base_le hrow6
          have hbsz : (w3.heap.size + 1) ≤ w6.heap.size := by omega
          have APP := Lib.hid (fun (X2 : Option Addr) (c2 : Nat) (w7 : World) (ho2 : w7.ownsRow (w3.heap.size + 1) 5 1 (.slice X2 (x.l.length + b.length) c2) (x.l.length + b.length) (bCells x.l ++ bCells b)) (hg2 : w6.drew.grownBy w7 (Value.ownBlock (.slice x.X x.l.length x.c))) (hblk : Value.ownBlock (.slice X2 (x.l.length + b.length) c2) = Value.ownBlock (.slice x.X x.l.length x.c) ∨ Value.ownBlock (.slice X2 (x.l.length + b.length) c2) = some w6.drew.heap.size) =>
            (show w7.cell? ⟨g, at_ * 3 + 1, none⟩ = some (.slice x.X x.l.length x.c) ∧ w7.frozen? ⟨g, at_ * 3 + 1, none⟩ = false ∧ w7.cell? ⟨w3.heap.size, 1, none⟩ = some (.slice (some ⟨g, 0, none⟩) M2.length cv3) ∧ ∀ (W : World), W = w7.setCell ⟨g, at_ * 3 + 1, none⟩ (.slice X2 (x.l.length + b.length) c2) →
                Blk W w3.heap.size 24 #[.int .i64 room, .slice (some ⟨g, 0, none⟩) M2.length cv3] ∧ Blk W (w.heap.size + 1) 24 #[.int .i64 0, .slice none 0 0] ∧ Below w.heap.size w W ∧ OwnD W (w3.heap.size + 1) 50 5 (.slice (some ⟨g, 0, none⟩) M2.length cv3) (M2.set at_ { x with X := X2, c := c2, l := x.l ++ b }) from by
              obtain ⟨p1, p2, p3, p4, p5⟩ := HardD.app (by decide) rfl H7 HX2.out HBB.out.byte q1 q3 (fun l X c hr => row_put1 hr HX2.out X c l) ho2 hg2 hblk
              rw [sl_blk x] at hg2
              refine ⟨p1, p2, (World.cell?_of_block (w := w6) (a := ⟨w3.heap.size, 1, none⟩) (hg2.block w3.heap.size Y6.lt (fun e => hnb e.symm))).trans (Y6.cell (i := 1) rfl), fun W hW => ?_⟩
              subst hW
              exact ⟨(p4 _ Y6.lt hng hnb).trans Y6, (p4 _ Z6.lt (by omega) (fun e => by have := (hobx.lt _ e).1; omega)).trans Z6, (B6.drew).trans (p5 _ (by omega)), p3⟩))
          have ty1 := Y6.cell (i := 1) rfl
          have q1' : w6.drew.cell? ⟨g, at_ * 3 + 1, none⟩ = some (.slice x.X x.l.length x.c) := q1
          have ty1' : w6.drew.cell? ⟨w3.heap.size, 1, none⟩ = some (.slice (some ⟨g, 0, none⟩) M2.length cv3) := ty1
          have HOX := Lib.hid hox; have HBL2 := Lib.hid hbl2
          have ti0 : (0 : Int) ≤ (at_ : Int) := by omega
          have ti1 : (at_ : Int) < (((M2.length : Nat)) : Int) := by have : M2.length = M2.length := rfl; omega
          have tln : x.l.length + b.length ≤ 140737488355328 := by have := HXL.out; omega
          clear H6 H7 Y6 Z6 B6 q0 q2 q3 q4 hng hobx hnb hox hbl2 hglow hrow6
          go_wp2_with fail
          go_region_law (refine step_append_any _ rfl _ _ 25 rfl (w3.heap.size + 1) 5 iB (.int .u8 0) 1 1 Tryd.underlying25 hIB hzB0 hzB1 hzB2 rfl (by decide) _ x.l.length (bCells x.l) rfl HOX.out B b.length cb HBB.out.noA (bCells b) rfl (by rw [bCells_length, Nat.mul_one]) HBL2.out (bCells_one b) (by unfold maxLen; omega) (by omega) hbsz ?_; intro X2 c2 w7 ho7 hg7 hk7; have rt := APP.out X2 c2 w7 ho7 hg7 hk7; have u1 := rt.1; have u2 := rt.2.1; have u3 := rt.2.2.1; have UU := Lib.hid rt.2.2.2; clear rt ho7 hg7 hk7)
          all_goals
            obtain ⟨W8, hW8⟩ : ∃ W8, w7.setCell ⟨g, at_ * 3 + 1, none⟩ (.slice X2 (x.l.length + b.length) c2) = W8 := ⟨_, rfl⟩
            obtain ⟨uY, uZ, uB, uO⟩ := UU.out W8 hW8.symm
            rw [hW8]
            have v0 := uY.cell (i := 0) rfl
            have v1 := uY.cell (i := 1) rfl
            have UO := Lib.hid uO; have UB := Lib.hid uB; have UZ := Lib.hid uZ
            clear uY uZ uB uO hW8
            have z' := UZ.out
            have y0 := z'.cell (i := 0) rfl
            have y1 := z'.cell (i := 1) rfl
            have s0 := z'.free 0
            have s1 := z'.free 1
            have hz := (z'.put 0 (.int .i64 room)).put 1 (.slice (some ⟨g, 0, none⟩) M2.length cv3)
            have z0 := Lib.hid (hz.cell (i := 0) rfl)
            have z1 := Lib.hid (hz.cell (i := 1) rfl)
            have hbz := ((UB.out).setCell (p := ⟨w.heap.size + 1, 0, none⟩) (by show w.heap.size ≤ w.heap.size + 1; omega) (.int .i64 room)).setCell (p := ⟨w.heap.size + 1, 1, none⟩) (by show w.heap.size ≤ w.heap.size + 1; omega) (.slice (some ⟨g, 0, none⟩) M2.length cv3)
            have hO2 := (((UO.out).low (p := ⟨w.heap.size + 1, 0, none⟩) (by show w.heap.size + 1 < _; omega) (.int .i64 room)).low (p := ⟨w.heap.size + 1, 1, none⟩) (by show w.heap.size + 1 < _; omega) (.slice (some ⟨g, 0, none⟩) M2.length cv3)).lower (base' := w.heap.size) (by omega)
            have FIN := Lib.hid (show GivesDE (room, (Dk.ins (L.map Fc.fi) n).map (Dk.app1 n b), 0) w (.returned (.tuple #[.agg #[.int .i64 room, .slice (some ⟨g, 0, none⟩) M2.length cv3], .int .i64 0])) _ from ⟨_, M2.set at_ { x with X := X2, c := c2, l := x.l ++ b }, rfl, hO2, HFT2.out _ rfl, hbz⟩)
            clear z' hz hbz hO2
            go_wp2
            have z0 := z0.out
            have z1 := z1.out
            exact bodyPost_ret (v := .tuple #[.agg #[.int .i64 room, .slice (some ⟨g, 0, none⟩) M2.length cv3], .int .i64 0]) (by simp [results, Tryd.results33, go_sem, z0, z1]) rfl FIN.out
  · have hR2 : Dk.ins (L.map Fc.fi) n = L.map Fc.fi := by unfold Dk.ins; rw [hf]
    obtain ⟨x, hx2⟩ : ∃ x, L2[at_]? = some x := ⟨L2[at_]'(by have := (List.getElem?_eq_some_iff.1 hx).1; have := HL2.out; omega), List.getElem?_eq_getElem (by have := (List.getElem?_eq_some_iff.1 hx).1; have := HL2.out; omega)⟩
    have hxx : x.fi = x0.fi := by
      have h1 : (L2.map Fc.fi)[at_]? = some x.fi := by rw [List.getElem?_map, hx2]; rfl
      rw [HFI.out, List.getElem?_map, hx] at h1
      exact (Option.some.inj h1).symm
    have hxn2 : x.num = n := by rw [← hxn]; exact congrArg (·.1) hxx
    have HFT2 := Lib.hid (show ∀ f' : Fc, f'.fi = (x.num, x.l ++ b, x.s) → (L2.set at_ f').map Fc.fi = (Dk.ins (L.map Fc.fi) n).map (Dk.app1 n b) from fun f' h1 => by
      rw [hR2]
      exact map_one HQ.out hx hxn HFI.out (by rw [h1, ← hxx]; unfold Dk.app1; rw [if_pos (show x.fi.1 = n from hxn2)]; rfl) (fun f hne => by unfold Dk.app1; rw [if_neg hne]))
    have HPT := Lib.hid (Dk.plc_fi HFI.out hp)
    have HXL := Lib.hid (show (x.l.length : Int) ≤ u from by
      have := Dk.used_mem (List.mem_map.2 ⟨x0, List.mem_of_getElem? hx, rfl⟩ : x0.fi ∈ L.map Fc.fi)
      rw [HU.out, ← hxx] at this
      exact this)
    have HX2 := Lib.hid hx2
    have NP := Lib.hid (rplace_any room n (at_ : Int) V cv L2 _ HHH.out.own.oneD HPT.out)
    clear hlow hf hx hxn hp hx2 hxx hxn2 hR2
    have ti2 : ¬ ((at_ : Int) < 0) := by omega
    go_wp2_with fail
    refine NP.out.mono ?_
    rintro e w5 ⟨rfl, b5⟩
    have HH2 := Lib.hid (HHH.out.later b5); have YH2 := Lib.hid (YH.out.later b5); have ZH2 := Lib.hid (ZH.out.later b5); have BBT := Lib.hid (below_on BB4.out b5)
    have hs5 := b5.size
    clear b5
    have NP2 := Lib.hid (show Calls Tryd.prog 54 #[.agg #[.int .i64 room, .slice V L2.length cv], .int .i64 n] w5 (Says (.int .i64 (at_ : Int)) w5) from by have h := rplace_any room n (at_ : Int) V cv L2 w5 HH2.out.own.oneD HPT.out; rw [show L2.length = L2.length from rfl] at h; exact h)
    have ty0 := YH2.out.cell (i := 0) rfl
    have ty1 := YH2.out.cell (i := 1) rfl
    go_wp2_with fail
    refine NP2.out.mono ?_
    rintro e w6 ⟨rfl, b6⟩
    have hatM : at_ < L2.length := (List.getElem?_eq_some_iff.1 HX2.out).1
    have H6 := HH2.out.later b6
    have Y6 := YH2.out.later b6
    have Z6 := ZH2.out.later b6
    have B6 := below_on BBT.out b6
    obtain ⟨g, cap, hgv⟩ := own_len H6.own.row (by omega)
    injection hgv with hV h2 h3
    subst hV h3
    clear h2
    have H7 : HardD w6.drew W2.heap.size 50 5 (.slice (some ⟨g, 0, none⟩) L2.length cv) L2 := H6.later (Below.refl _ _).drew
    have hrow6 : w6.ownsRow W2.heap.size 50 3 (.slice (some ⟨g, 0, none⟩) L2.length cv) L2.length (fCells L2) := by have h := H6.own.row; rw [show L2.length = L2.length from rfl] at h; exact h
    obtain ⟨q0, q1, q2, q3, q4⟩ := row_cells hrow6 HX2.out
    have hng : w3.heap.size ≠ g := H6.own.off Y6 (by decide)
    have hobx := H6.own.each x (List.mem_of_getElem? HX2.out)
    have hnb : x.blk ≠ some w3.heap.size := hobx.off Y6 (by decide)
    have hox : w6.drew.ownsRow W2.heap.size 5 1 (.slice x.X x.l.length x.c) x.l.length (bCells x.l) := H7.hard x (List.mem_of_getElem? HX2.out)
    have hbl2 : Lies w6.drew B (bCells b) := ((HBB.out.later B6).lies).drew
    have hglow := own_base_le hrow6
    have hbsz : W2.heap.size ≤ w6.heap.size := by omega
    have APP := Lib.hid (fun (X2 : Option Addr) (c2 : Nat) (w7 : World) (ho2 : w7.ownsRow W2.heap.size 5 1 (.slice X2 (x.l.length + b.length) c2) (x.l.length + b.length) (bCells x.l ++ bCells b)) (hg2 : w6.drew.grownBy w7 (Value.ownBlock (.slice x.X x.l.length x.c))) (hblk : Value.ownBlock (.slice X2 (x.l.length + b.length) c2) = Value.ownBlock (.slice x.X x.l.length x.c) ∨ Value.ownBlock (.slice X2 (x.l.length + b.length) c2) = some w6.drew.heap.size) =>
      (show w7.cell? ⟨g, at_ * 3 + 1, none⟩ = some (.slice x.X x.l.length x.c) ∧ w7.frozen? ⟨g, at_ * 3 + 1, none⟩ = false ∧ w7.cell? ⟨w3.heap.size, 1, none⟩ = some (.slice (some ⟨g, 0, none⟩) L2.length cv) ∧ ∀ (W : World), W = w7.setCell ⟨g, at_ * 3 + 1, none⟩ (.slice X2 (x.l.length + b.length) c2) →
          Blk W w3.heap.size 24 #[.int .i64 room, .slice (some ⟨g, 0, none⟩) L2.length cv] ∧ Blk W (w.heap.size + 1) 24 #[.int .i64 0, .slice none 0 0] ∧ Below w.heap.size w W ∧ OwnD W W2.heap.size 50 5 (.slice (some ⟨g, 0, none⟩) L2.length cv) (L2.set at_ { x with X := X2, c := c2, l := x.l ++ b }) from by
        obtain ⟨p1, p2, p3, p4, p5⟩ := HardD.app (by decide) rfl H7 HX2.out HBB.out.byte q1 q3 (fun l X c hr => row_put1 hr HX2.out X c l) ho2 hg2 hblk
        rw [sl_blk x] at hg2
        refine ⟨p1, p2, (World.cell?_of_block (w := w6) (a := ⟨w3.heap.size, 1, none⟩) (hg2.block w3.heap.size Y6.lt (fun e => hnb e.symm))).trans (Y6.cell (i := 1) rfl), fun W hW => ?_⟩
        subst hW
        exact ⟨(p4 _ Y6.lt hng hnb).trans Y6, (p4 _ Z6.lt (by omega) (fun e => by have := (hobx.lt _ e).1; omega)).trans Z6, (B6.drew).trans (p5 _ (by omega)), p3⟩))
    have ty1 := Y6.cell (i := 1) rfl
    have q1' : w6.drew.cell? ⟨g, at_ * 3 + 1, none⟩ = some (.slice x.X x.l.length x.c) := q1
    have ty1' : w6.drew.cell? ⟨w3.heap.size, 1, none⟩ = some (.slice (some ⟨g, 0, none⟩) L2.length cv) := ty1
    have HOX := Lib.hid hox; have HBL2 := Lib.hid hbl2
    have ti0 : (0 : Int) ≤ (at_ : Int) := by omega
    have ti1 : (at_ : Int) < (((L2.length : Nat)) : Int) := by have : L2.length = L2.length := rfl; omega
    have tln : x.l.length + b.length ≤ 140737488355328 := by have := HXL.out; omega
    clear H6 H7 Y6 Z6 B6 q0 q2 q3 q4 hng hobx hnb hox hbl2 hglow hrow6
    go_wp2_with fail
    go_region_law (refine step_append_any _ rfl _ _ 25 rfl W2.heap.size 5 iB (.int .u8 0) 1 1 Tryd.underlying25 hIB hzB0 hzB1 hzB2 rfl (by decide) _ x.l.length (bCells x.l) rfl HOX.out B b.length cb HBB.out.noA (bCells b) rfl (by rw [bCells_length, Nat.mul_one]) HBL2.out (bCells_one b) (by unfold maxLen; omega) (by omega) hbsz ?_; intro X2 c2 w7 ho7 hg7 hk7; have rt := APP.out X2 c2 w7 ho7 hg7 hk7; have u1 := rt.1; have u2 := rt.2.1; have u3 := rt.2.2.1; have UU := Lib.hid rt.2.2.2; clear rt ho7 hg7 hk7)
    all_goals
      obtain ⟨W8, hW8⟩ : ∃ W8, w7.setCell ⟨g, at_ * 3 + 1, none⟩ (.slice X2 (x.l.length + b.length) c2) = W8 := ⟨_, rfl⟩
      obtain ⟨uY, uZ, uB, uO⟩ := UU.out W8 hW8.symm
      rw [hW8]
      have v0 := uY.cell (i := 0) rfl
      have v1 := uY.cell (i := 1) rfl
      have UO := Lib.hid uO; have UB := Lib.hid uB; have UZ := Lib.hid uZ
      clear uY uZ uB uO hW8
      have z' := UZ.out
      have y0 := z'.cell (i := 0) rfl
      have y1 := z'.cell (i := 1) rfl
      have s0 := z'.free 0
      have s1 := z'.free 1
      have hz := (z'.put 0 (.int .i64 room)).put 1 (.slice (some ⟨g, 0, none⟩) L2.length cv)
      have z0 := Lib.hid (hz.cell (i := 0) rfl)
      have z1 := Lib.hid (hz.cell (i := 1) rfl)
      have hbz := ((UB.out).setCell (p := ⟨w.heap.size + 1, 0, none⟩) (by show w.heap.size ≤ w.heap.size + 1; omega) (.int .i64 room)).setCell (p := ⟨w.heap.size + 1, 1, none⟩) (by show w.heap.size ≤ w.heap.size + 1; omega) (.slice (some ⟨g, 0, none⟩) L2.length cv)
      have hO2 := (((UO.out).low (p := ⟨w.heap.size + 1, 0, none⟩) (by show w.heap.size + 1 < _; omega) (.int .i64 room)).low (p := ⟨w.heap.size + 1, 1, none⟩) (by show w.heap.size + 1 < _; omega) (.slice (some ⟨g, 0, none⟩) L2.length cv)).lower (base' := w.heap.size) (by omega)
      have FIN := Lib.hid (show GivesDE (room, (Dk.ins (L.map Fc.fi) n).map (Dk.app1 n b), 0) w (.returned (.tuple #[.agg #[.int .i64 room, .slice (some ⟨g, 0, none⟩) L2.length cv], .int .i64 0])) _ from ⟨_, L2.set at_ { x with X := X2, c := c2, l := x.l ++ b }, rfl, hO2, HFT2.out _ rfl, hbz⟩)
      clear z' hz hbz hO2
      go_wp2
      have z0 := z0.out
      have z1 := z1.out
      exact bodyPost_ret (v := .tuple #[.agg #[.int .i64 room, .slice (some ⟨g, 0, none⟩) L2.length cv], .int .i64 0]) (by simp [results, Tryd.results33, go_sem, z0, z1]) rfl FIN.out
end Go.Proofs.YtkhggofcbdcliaaDoor
