/-
  What span's setOf answers of any lists in memory: the objects that are in one of them.
-/
import Derived.Test.YtnnmcnbpnfegpaaSpDevSpans
import Derived.Test.YtnnmcnbpnfegpaaSpCount
namespace Go.Proofs.Ytnnmcnbpnfegpaa
open Go.RowKit Fb

theorem infoChange : (Try.prog.info? 51).map (·.size) = some 257 := by kernel_rfl
section
variable {w : World} {g : Nat} {t : TypeId} {c : Nat → Int}
theorem Blk.nar_put (h : Blk w g t (Sp.nar c)) (i : Nat) (x : Int) : Blk (w.setCell ⟨g, i, none⟩ (.int .i64 x)) g t (Sp.nar fun j => if j = i then x else c j) := by
  have h2 := h.put i (.int .i64 x)
  rw [Sp.nar_set c i x] at h2
  exact h2
theorem Blk.nar_cell (h : Blk w g t (Sp.nar c)) (i : Nat) (hi : i < 257) : w.cell? ⟨g, i, none⟩ = some (.int .i64 (c i)) := h.cell (Sp.nar_get c i hi)
end

set_option maxRecDepth 100000 in
set_option maxHeartbeats 6400000 in
theorem setOf_any (A : Option Addr) (cap : Nat) (ls : List (List (Int × Int))) (w : World) (hn : ls.length ≤ 9223372036854775807) (htot : Sp.tot ls ≤ 9223372036854775807) (h : Rows w A ls) :
    Calls Try.prog 35 #[.slice A ls.length cap] w fun e w' => e = .returned (.agg (Sp.arr (Sp.anyTo ls ls.length))) ∧ Below w.heap.size w w' := by
  have HR := Lib.hid h
  have hov := fun o => Sp.over_any ls o
  obtain ⟨F, hF⟩ : ∃ F, Sp.anyTo ls ls.length = F := ⟨_, rfl⟩
  rw [hF] at hov ⊢
  have HOV0 := Lib.hid hov
  clear h hov hF
  go_enter Try.func35, Try.ntmps35
  go_wp2_with fail
  rw [set_zero, change_zero]
  go_loopw [15] (fun s15 wr => ∃ (k : Nat) (c : Nat → Int), k ≤ ls.length ∧ s15 = .int .i64 (k : Int) ∧ Sp.Dif (Sp.totTo ls k) c (Sp.cvTo ls k) ∧ Blk wr (w.heap.size + 1) 51 (Sp.nar c) ∧ Blk wr w.heap.size 48 (Sp.arr fun _ => false) ∧ Below w.heap.size w wr) (fun s15 _ => ls.length - (intOf s15).toNat)
  case atStart =>
    have hb := Blk.new (w.alloc (.cells (Sp.arr fun _ => false) 48)) 51 (Sp.nar fun _ => 0)
    rw [show (w.alloc (.cells (Sp.arr fun _ => false) 48)).heap.size = w.heap.size + 1 from by simp] at hb
    exact ⟨0, fun _ => 0, Nat.zero_le _, rfl, Sp.Dif.zero, hb, (Blk.new _ _ _).alloc _, below_new (below_new (Below.refl _ _) _) _⟩
  case round =>
    obtain ⟨k, c, hk, rfl, hdif, hB1, hB0, hbw⟩ := hrel
    by_cases hlt : k < ls.length
    · have hne : ls ≠ [] := fun e => by subst e; simp at hlt
      obtain ⟨b, off, hA, hc⟩ := HR.out hne
      obtain ⟨A', c', e0, o1⟩ := hc k hlt
      replace e0 := cell_later hbw e0
      have HR2 := HR
      subst hA
      have hi0 : (0 : Int) ≤ (k : Int) := by omega
      have hi1 : (k : Int) < (ls.length : Int) := by omega
      have htl := Sp.totTo_le ls k hlt
      have hnext : ∀ c2, Sp.Dif (Sp.totTo ls k + (ls.getD k []).length) c2 (fun o => Sp.cvTo ls k o + Sp.cvL ((ls.getD k []).take (ls.getD k []).length) o) → Sp.Dif (Sp.totTo ls (k + 1)) c2 (Sp.cvTo ls (k + 1)) := fun c2 h2 => by
        rw [List.take_length] at h2
        exact h2
      obtain ⟨l, hl⟩ : ∃ l, ls.getD k [] = l := ⟨_, rfl⟩
      rw [hl] at e0 o1 htl hnext
      have hll := o1.len
      have HS := Lib.hid o1.stamps
      have HO := Lib.hid o1
      have HNX := Lib.hid hnext
      have HB1 := Lib.hid hB1
      have HB0 := Lib.hid hB0
      have HD := Lib.hid hdif
      clear hc hl hnext hB1 hB0 hdif o1
      go_wp2_with fail
      go_loopw [21] (fun s21 wq => ∃ (i : Nat) (c : Nat → Int), i ≤ l.length ∧ s21 = .int .i64 (i : Int) ∧ Sp.Dif (Sp.totTo ls k + i) c (fun o => Sp.cvTo ls k o + Sp.cvL (l.take i) o) ∧ Blk wq (w.heap.size + 1) 51 (Sp.nar c) ∧ Blk wq w.heap.size 48 (Sp.arr fun _ => false) ∧ Below w.heap.size w wq) (fun s21 _ => l.length - (intOf s21).toNat)
      case atStart => exact ⟨0, c, Nat.zero_le _, rfl, HD.out.same (by omega) (fun o _ => (Int.add_zero _).symm), HB1.out, HB0.out, hbw⟩
      case round =>
        obtain ⟨i, c, hi, rfl, hdif, hC1, hC0, hbq⟩ := hrel
        clear HB1 HB0 HD
        by_cases hlt2 : i < l.length
        · have hne2 : l ≠ [] := fun e => by subst e; simp at hlt2
          obtain ⟨b2, off2, hA2, hc2⟩ := (HS.out.later hbq) hne2
          have HS2 := HS
          subst hA2
          obtain ⟨e1, e2⟩ := hc2 i hlt2
          rw [List.getD_eq_getElem?_getD, List.getElem?_eq_getElem hlt2, Option.getD_some] at e1 e2
          have hj0 : (0 : Int) ≤ (i : Int) := by omega
          have hj1 : (i : Int) < (l.length : Int) := by omega
          obtain ⟨z, hz⟩ : ∃ z, l[i] = z := ⟨_, rfl⟩
          obtain ⟨x, y⟩ := z
          have HXY := Lib.hid hz
          rw [hz] at e1 e2
          have e1 : wr.cell? ⟨b2, off2 + i * 2, none⟩ = some (.int .i64 x) := e1
          have e2 : wr.cell? ⟨b2, off2 + (i * 2 + 1), none⟩ = some (.int .i64 y) := e2
          have hbn0 := below_new hbq (.cells #[.int .i64 x, .int .i64 y] 44)
          have B2 := Blk.new wr 44 #[.int .i64 x, .int .i64 y]
          have hC1' := hC1.alloc (.cells #[.int .i64 x, .int .i64 y] 44)
          have hC0' := hC0.alloc (.cells #[.int .i64 x, .int .i64 y] 44)
          obtain ⟨W1, hW1⟩ : ∃ W1, wr.alloc (.cells #[.int .i64 x, .int .i64 y] 44) = W1 := ⟨_, rfl⟩
          rw [hW1] at hbn0 B2 hC1' hC0'
          have HW1 := Lib.hid hW1
          have g0 := B2.cell (i := 0) rfl
          have g1 := B2.cell (i := 1) rfl
          have FIN := Lib.hid (show ∀ c2 wx, Sp.Dif (Sp.totTo ls k + i + 1) c2 (fun o => Sp.cvTo ls k o + Sp.cvL (l.take (i + 1)) o) → Blk wx (w.heap.size + 1) 51 (Sp.nar c2) → Blk wx w.heap.size 48 (Sp.arr fun _ => false) → Below w.heap.size w wx →
              ∃ (i' : Nat) (c' : Nat → Int), i' ≤ l.length ∧ Value.int .i64 ((i : Int) + 1) = .int .i64 (i' : Int) ∧ Sp.Dif (Sp.totTo ls k + i') c' (fun o => Sp.cvTo ls k o + Sp.cvL (l.take i') o) ∧ Blk wx (w.heap.size + 1) 51 (Sp.nar c') ∧ Blk wx w.heap.size 48 (Sp.arr fun _ => false) ∧ Below w.heap.size w wx from
            fun c2 wx h1 h2 h3 h4 => ⟨i + 1, c2, by omega, by go_num, h1, h2, h3, h4⟩)
          clear hC1 hC0 hW1 hz hc2 B2
          rcases Int.lt_or_le x 0 with hx | hx
          · rcases Int.lt_or_le 255 y with hy | hy
            · have hst := hdif.step (g' := fun o => Sp.cvTo ls k o + Sp.cvL (l.take (i + 1)) o) 0 255 (by omega) (fun o ho => by
                rw [Sp.cvL_take l i hlt2 o, HXY.out, Int.add_assoc]
                congr 2
                unfold Sp.cvS
                by_cases hq : 0 ≤ o ∧ o ≤ 255
                · rw [if_pos hq, if_pos (by show x ≤ (o : Int) ∧ (o : Int) ≤ y; omega)]
                · rw [if_neg hq, if_neg (by show ¬ (x ≤ (o : Int) ∧ (o : Int) ≤ y); omega)])
              have hbp := hdif.2 0
              have hbq1 := hdif.2 (256)
              have y1 := hC1'.nar_cell 0 (by omega)
              have y2 := hC1'.free 0
              have y3 := (hC1'.nar_put 0 (c 0 + 1)).nar_cell (256) (by omega)
              have y4 := (hC1'.nar_put 0 (c 0 + 1)).free (256)
              have y5 := hC1'.nar_cell (256) (by omega)
              have y6 := hC1'.free (256)
              rw [if_neg (show ¬ (256 = 0) from by omega)] at y3
              have B5 := ((hC1'.nar_put 0 (c 0 + 1)).nar_put (256) (c (256) - 1)).drew
              have B6 := ((hC0'.far (p := ⟨w.heap.size + 1, 0, none⟩) (by show w.heap.size ≠ w.heap.size + 1; omega) (.int .i64 (c 0 + 1))).far (p := ⟨w.heap.size + 1, 256, none⟩) (by show w.heap.size ≠ w.heap.size + 1; omega) (.int .i64 (c (256) - 1))).drew
              have b6 := ((hbn0.setCell (p := ⟨w.heap.size + 1, 0, none⟩) (by show w.heap.size ≤ w.heap.size + 1; omega) (.int .i64 (c 0 + 1))).setCell (p := ⟨w.heap.size + 1, 256, none⟩) (by show w.heap.size ≤ w.heap.size + 1; omega) (.int .i64 (c (256) - 1))).drew
              obtain ⟨u, hu⟩ : ∃ u, c 0 = u := ⟨_, rfl⟩
              obtain ⟨v, hv⟩ : ∃ v, c (256) = v := ⟨_, rfl⟩
              rw [hu] at y1 y3 y4 hbp B5 B6 b6 hst
              rw [hv] at y3 y5 hbq1 B5 B6 b6 hst
              have HB5 := Lib.hid B5
              have HB6 := Lib.hid B6
              have HST := Lib.hid hst
              clear B5 B6 hst hC0' hdif hu hv hC1'
              go_wp2_with fail
              rw [HW1.out]
              go_region
              go_wp2_with fail
              go_roundw
              case rel => exact FIN.out _ _ HST.out HB5.out HB6.out b6
              case measure => simp [intOf]; omega
            · by_cases hle : 0 ≤ y
              · obtain ⟨q, rfl⟩ : ∃ q : Nat, y = (q : Int) := ⟨y.toNat, by omega⟩
                have hst := hdif.step (g' := fun o => Sp.cvTo ls k o + Sp.cvL (l.take (i + 1)) o) 0 q (by omega) (fun o ho => by
                  rw [Sp.cvL_take l i hlt2 o, HXY.out, Int.add_assoc]
                  congr 2
                  unfold Sp.cvS
                  by_cases hq : 0 ≤ o ∧ o ≤ q
                  · rw [if_pos hq, if_pos (by show x ≤ (o : Int) ∧ (o : Int) ≤ (q : Int); omega)]
                  · rw [if_neg hq, if_neg (by show ¬ (x ≤ (o : Int) ∧ (o : Int) ≤ (q : Int)); omega)])
                have hbp := hdif.2 0
                have hbq1 := hdif.2 (q + 1)
                have y1 := hC1'.nar_cell 0 (by omega)
                have y2 := hC1'.free 0
                have y3 := (hC1'.nar_put 0 (c 0 + 1)).nar_cell (q + 1) (by omega)
                have y4 := (hC1'.nar_put 0 (c 0 + 1)).free (q + 1)
                have y5 := hC1'.nar_cell (q + 1) (by omega)
                have y6 := hC1'.free (q + 1)
                rw [if_neg (show ¬ (q + 1 = 0) from by omega)] at y3
                have B5 := ((hC1'.nar_put 0 (c 0 + 1)).nar_put (q + 1) (c (q + 1) - 1)).drew
                have B6 := ((hC0'.far (p := ⟨w.heap.size + 1, 0, none⟩) (by show w.heap.size ≠ w.heap.size + 1; omega) (.int .i64 (c 0 + 1))).far (p := ⟨w.heap.size + 1, q + 1, none⟩) (by show w.heap.size ≠ w.heap.size + 1; omega) (.int .i64 (c (q + 1) - 1))).drew
                have b6 := ((hbn0.setCell (p := ⟨w.heap.size + 1, 0, none⟩) (by show w.heap.size ≤ w.heap.size + 1; omega) (.int .i64 (c 0 + 1))).setCell (p := ⟨w.heap.size + 1, q + 1, none⟩) (by show w.heap.size ≤ w.heap.size + 1; omega) (.int .i64 (c (q + 1) - 1))).drew
                obtain ⟨u, hu⟩ : ∃ u, c 0 = u := ⟨_, rfl⟩
                obtain ⟨v, hv⟩ : ∃ v, c (q + 1) = v := ⟨_, rfl⟩
                rw [hu] at y1 y3 y4 hbp B5 B6 b6 hst
                rw [hv] at y3 y5 hbq1 B5 B6 b6 hst
                have HB5 := Lib.hid B5
                have HB6 := Lib.hid B6
                have HST := Lib.hid hst
                clear B5 B6 hst hC0' hdif hu hv hC1'
                go_wp2_with fail
                rw [HW1.out]
                go_region
                go_wp2_with fail
                go_roundw
                case rel => exact FIN.out _ _ HST.out HB5.out HB6.out b6
                case measure => simp [intOf]; omega
              · have hst := hdif.same (m := Sp.totTo ls k + i + 1) (g' := fun o => Sp.cvTo ls k o + Sp.cvL (l.take (i + 1)) o) (by omega) (fun o ho => by
                  rw [Sp.cvL_take l i hlt2 o, HXY.out]
                  unfold Sp.cvS
                  rw [if_neg (by show ¬ (x ≤ (o : Int) ∧ (o : Int) ≤ y); omega), Int.add_zero])
                have HST := Lib.hid hst
                have HB5 := Lib.hid hC1'.drew
                have HB6 := Lib.hid hC0'.drew
                have hbn := hbn0.drew
                clear hst hC0' hdif hC1'
                go_wp2_with fail
                rw [HW1.out]
                go_region
                go_wp2_with fail
                go_roundw
                case rel => exact FIN.out _ _ HST.out HB5.out HB6.out hbn
                case measure => simp [intOf]; omega
          · obtain ⟨p, rfl⟩ : ∃ p : Nat, x = (p : Int) := ⟨x.toNat, by omega⟩
            rcases Int.lt_or_le 255 y with hy | hy
            · by_cases hle : (p : Int) ≤ (255 : Int)
              · have hst := hdif.step (g' := fun o => Sp.cvTo ls k o + Sp.cvL (l.take (i + 1)) o) p 255 (by omega) (fun o ho => by
                  rw [Sp.cvL_take l i hlt2 o, HXY.out, Int.add_assoc]
                  congr 2
                  unfold Sp.cvS
                  by_cases hq : p ≤ o ∧ o ≤ 255
                  · rw [if_pos hq, if_pos (by show (p : Int) ≤ (o : Int) ∧ (o : Int) ≤ y; omega)]
                  · rw [if_neg hq, if_neg (by show ¬ ((p : Int) ≤ (o : Int) ∧ (o : Int) ≤ y); omega)])
                have hbp := hdif.2 p
                have hbq1 := hdif.2 (256)
                have y1 := hC1'.nar_cell p (by omega)
                have y2 := hC1'.free p
                have y3 := (hC1'.nar_put p (c p + 1)).nar_cell (256) (by omega)
                have y4 := (hC1'.nar_put p (c p + 1)).free (256)
                have y5 := hC1'.nar_cell (256) (by omega)
                have y6 := hC1'.free (256)
                rw [if_neg (show ¬ (256 = p) from by omega)] at y3
                have B5 := ((hC1'.nar_put p (c p + 1)).nar_put (256) (c (256) - 1)).drew
                have B6 := ((hC0'.far (p := ⟨w.heap.size + 1, p, none⟩) (by show w.heap.size ≠ w.heap.size + 1; omega) (.int .i64 (c p + 1))).far (p := ⟨w.heap.size + 1, 256, none⟩) (by show w.heap.size ≠ w.heap.size + 1; omega) (.int .i64 (c (256) - 1))).drew
                have b6 := ((hbn0.setCell (p := ⟨w.heap.size + 1, p, none⟩) (by show w.heap.size ≤ w.heap.size + 1; omega) (.int .i64 (c p + 1))).setCell (p := ⟨w.heap.size + 1, 256, none⟩) (by show w.heap.size ≤ w.heap.size + 1; omega) (.int .i64 (c (256) - 1))).drew
                obtain ⟨u, hu⟩ : ∃ u, c p = u := ⟨_, rfl⟩
                obtain ⟨v, hv⟩ : ∃ v, c (256) = v := ⟨_, rfl⟩
                rw [hu] at y1 y3 y4 hbp B5 B6 b6 hst
                rw [hv] at y3 y5 hbq1 B5 B6 b6 hst
                have HB5 := Lib.hid B5
                have HB6 := Lib.hid B6
                have HST := Lib.hid hst
                clear B5 B6 hst hC0' hdif hu hv hC1'
                go_wp2_with fail
                rw [HW1.out]
                go_region
                go_wp2_with fail
                go_roundw
                case rel => exact FIN.out _ _ HST.out HB5.out HB6.out b6
                case measure => simp [intOf]; omega
              · have hst := hdif.same (m := Sp.totTo ls k + i + 1) (g' := fun o => Sp.cvTo ls k o + Sp.cvL (l.take (i + 1)) o) (by omega) (fun o ho => by
                  rw [Sp.cvL_take l i hlt2 o, HXY.out]
                  unfold Sp.cvS
                  rw [if_neg (by show ¬ ((p : Int) ≤ (o : Int) ∧ (o : Int) ≤ y); omega), Int.add_zero])
                have HST := Lib.hid hst
                have HB5 := Lib.hid hC1'.drew
                have HB6 := Lib.hid hC0'.drew
                have hbn := hbn0.drew
                clear hst hC0' hdif hC1'
                go_wp2_with fail
                rw [HW1.out]
                go_region
                go_wp2_with fail
                go_roundw
                case rel => exact FIN.out _ _ HST.out HB5.out HB6.out hbn
                case measure => simp [intOf]; omega
            · by_cases hle : (p : Int) ≤ y
              · obtain ⟨q, rfl⟩ : ∃ q : Nat, y = (q : Int) := ⟨y.toNat, by omega⟩
                have hst := hdif.step (g' := fun o => Sp.cvTo ls k o + Sp.cvL (l.take (i + 1)) o) p q (by omega) (fun o ho => by
                  rw [Sp.cvL_take l i hlt2 o, HXY.out, Int.add_assoc]
                  congr 2
                  unfold Sp.cvS
                  by_cases hq : p ≤ o ∧ o ≤ q
                  · rw [if_pos hq, if_pos (by show (p : Int) ≤ (o : Int) ∧ (o : Int) ≤ (q : Int); omega)]
                  · rw [if_neg hq, if_neg (by show ¬ ((p : Int) ≤ (o : Int) ∧ (o : Int) ≤ (q : Int)); omega)])
                have hbp := hdif.2 p
                have hbq1 := hdif.2 (q + 1)
                have y1 := hC1'.nar_cell p (by omega)
                have y2 := hC1'.free p
                have y3 := (hC1'.nar_put p (c p + 1)).nar_cell (q + 1) (by omega)
                have y4 := (hC1'.nar_put p (c p + 1)).free (q + 1)
                have y5 := hC1'.nar_cell (q + 1) (by omega)
                have y6 := hC1'.free (q + 1)
                rw [if_neg (show ¬ (q + 1 = p) from by omega)] at y3
                have B5 := ((hC1'.nar_put p (c p + 1)).nar_put (q + 1) (c (q + 1) - 1)).drew
                have B6 := ((hC0'.far (p := ⟨w.heap.size + 1, p, none⟩) (by show w.heap.size ≠ w.heap.size + 1; omega) (.int .i64 (c p + 1))).far (p := ⟨w.heap.size + 1, q + 1, none⟩) (by show w.heap.size ≠ w.heap.size + 1; omega) (.int .i64 (c (q + 1) - 1))).drew
                have b6 := ((hbn0.setCell (p := ⟨w.heap.size + 1, p, none⟩) (by show w.heap.size ≤ w.heap.size + 1; omega) (.int .i64 (c p + 1))).setCell (p := ⟨w.heap.size + 1, q + 1, none⟩) (by show w.heap.size ≤ w.heap.size + 1; omega) (.int .i64 (c (q + 1) - 1))).drew
                obtain ⟨u, hu⟩ : ∃ u, c p = u := ⟨_, rfl⟩
                obtain ⟨v, hv⟩ : ∃ v, c (q + 1) = v := ⟨_, rfl⟩
                rw [hu] at y1 y3 y4 hbp B5 B6 b6 hst
                rw [hv] at y3 y5 hbq1 B5 B6 b6 hst
                have HB5 := Lib.hid B5
                have HB6 := Lib.hid B6
                have HST := Lib.hid hst
                clear B5 B6 hst hC0' hdif hu hv hC1'
                go_wp2_with fail
                rw [HW1.out]
                go_region
                go_wp2_with fail
                go_roundw
                case rel => exact FIN.out _ _ HST.out HB5.out HB6.out b6
                case measure => simp [intOf]; omega
              · have hst := hdif.same (m := Sp.totTo ls k + i + 1) (g' := fun o => Sp.cvTo ls k o + Sp.cvL (l.take (i + 1)) o) (by omega) (fun o ho => by
                  rw [Sp.cvL_take l i hlt2 o, HXY.out]
                  unfold Sp.cvS
                  rw [if_neg (by show ¬ ((p : Int) ≤ (o : Int) ∧ (o : Int) ≤ y); omega), Int.add_zero])
                have HST := Lib.hid hst
                have HB5 := Lib.hid hC1'.drew
                have HB6 := Lib.hid hC0'.drew
                have hbn := hbn0.drew
                clear hst hC0' hdif hC1'
                go_wp2_with fail
                rw [HW1.out]
                go_region
                go_wp2_with fail
                go_roundw
                case rel => exact FIN.out _ _ HST.out HB5.out HB6.out hbn
                case measure => simp [intOf]; omega
        · have hil : i = l.length := by omega
          subst hil
          have HD2 := Lib.hid (HNX.out c hdif)
          have HC1 := Lib.hid hC1
          have HC0 := Lib.hid hC0
          clear hdif hC1 hC0
          go_wp2_with fail
          go_roundw
          case rel => exact ⟨k + 1, c, by omega, by go_num, HD2.out, HC1.out, HC0.out, hbq⟩
          case measure => simp [intOf]; omega
    · have hkl : k = ls.length := by omega
      subst hkl
      have hg : ∀ o, o < 256 → Sp.sumTo c o + c o = Sp.cvTo ls ls.length o := fun o ho => hdif.1 o ho
      have hgb : ∀ o, 0 ≤ Sp.cvTo ls ls.length o ∧ Sp.cvTo ls ls.length o ≤ 9223372036854775807 := fun o => by
        have h1 := Sp.cvTo_bd ls o ls.length
        rw [Sp.totTo_all] at h1
        omega
      have hov := HOV0.out
      have hgs : ∀ o, o ≤ 256 → 0 ≤ Sp.sumTo c o ∧ Sp.sumTo c o ≤ 9223372036854775807 := fun o ho => by
        cases o with
        | zero => exact ⟨Int.le_refl _, by show (0 : Int) ≤ _; omega⟩
        | succ m =>
          have h1 := hdif.1 m (by omega)
          have h2 := hgb m
          omega
      obtain ⟨G, hG⟩ : ∃ G, Sp.cvTo ls ls.length = G := ⟨_, rfl⟩
      rw [hG] at hg hgb hov
      have HG := Lib.hid hg
      have HGB := Lib.hid hgb
      have HGS := Lib.hid hgs
      have HOV := Lib.hid hov
      have HB1 := Lib.hid hB1
      have HB0 := Lib.hid hB0
      have hlt1 := hB1.lt
      obtain ⟨gN, hgN⟩ : ∃ gN, wr.heap.size = gN := ⟨_, rfl⟩
      have hNew := Blk.new wr 48 (Sp.arr fun _ => false)
      have hz := hbw.size
      rw [hgN] at hNew hlt1 hz
      clear hg hgb hgs hov hdif hB1 hB0 hG
      go_wp2_with fail
      rw [set_zero]
      go_loopw [11, 47] (fun s11 s47 wq => ∃ o : Nat, o ≤ 256 ∧ s47 = .int .i64 (o : Int) ∧ s11 = .int .i64 (Sp.sumTo c o) ∧ Blk wq gN 48 (Sp.arr fun j => decide (j < o) && F j) ∧ Blk wq (w.heap.size + 1) 51 (Sp.nar c) ∧ Blk wq w.heap.size 48 (Sp.arr fun _ => false) ∧ Below w.heap.size w wq) (fun _ s47 _ => 256 - (intOf s47).toNat)
      case atStart => exact ⟨0, by omega, rfl, rfl, hNew.marks_same (fun i _ => by rw [decide_eq_false (by omega), Bool.false_and]), HB1.out.alloc _, HB0.out.alloc _, below_new hbw _⟩
      case round =>
        obtain ⟨o, ho, rfl, rfl, hN, hC1, hC0, hbq⟩ := hrel
        clear HB1 HB0
        by_cases hlt2 : o < 256
        · have y1 := hC1.nar_cell o (by omega)
          have y0 := hN.marks_cell o hlt2
          have y2 := hN.free o
          have hj0 : (0 : Int) ≤ (o : Int) := by omega
          have hj1 : (o : Int) < 256 := by omega
          have hj2 : (o : Int) < 257 := by omega
          have hs1 := HGS.out o (by omega)
          have hs2 := HG.out o hlt2
          have hs3 := HGB.out o
          have hs4 := HOV.out o
          have hnx : ∀ x, x = F o → ∀ j, j < 256 → (if j = o then x else (decide (j < o) && F j)) = (decide (j < o + 1) && F j) := fun x hx j _ => by
            by_cases e : j = o
            · rw [if_pos e, e, decide_eq_true (by omega), Bool.true_and, hx]
            · rw [if_neg e]
              congr 1
              rw [Bool.eq_iff_iff, decide_eq_true_eq, decide_eq_true_eq]
              omega
          have hsn : Sp.sumTo c (o + 1) = Sp.sumTo c o + c o := rfl
          obtain ⟨s, hs⟩ : ∃ s, Sp.sumTo c o = s := ⟨_, rfl⟩
          obtain ⟨d, hd⟩ : ∃ d, c o = d := ⟨_, rfl⟩
          rw [hs] at hs1 hs2 hsn
          rw [hs]
          rw [hd] at y1 hs2 hsn
          rw [← hs2] at hs3 hs4
          cases hf : F o
          · rw [hf] at hs4 hnx
            have hp : s + d ≤ 0 := by have := of_decide_eq_false hs4; omega
            have B7 := (hN.marks_put o hlt2 false).marks_same (hnx false rfl)
            have B8 := hC1.far (p := ⟨gN, o, none⟩) (by show w.heap.size + 1 ≠ gN; omega) (.bool false)
            have B9 := hC0.far (p := ⟨gN, o, none⟩) (by show w.heap.size ≠ gN; omega) (.bool false)
            have b9 := hbq.setCell (p := ⟨gN, o, none⟩) hz (.bool false)
            have HB7 := Lib.hid B7
            have HB8 := Lib.hid B8
            have HB9 := Lib.hid B9
            have HSN := Lib.hid hsn
            clear hnx hN hC1 hC0 hs2 hf hs hd B7 B8 B9 hsn
            go_wp2_with fail
            go_roundw
            case rel => exact ⟨o + 1, by omega, by go_num, by rw [HSN.out], HB7.out, HB8.out, HB9.out, b9⟩
            case measure => simp [intOf]; omega
          · rw [hf] at hs4 hnx
            have hp : 0 < s + d := of_decide_eq_true hs4
            have B7 := (hN.marks_put o hlt2 true).marks_same (hnx true rfl)
            have B8 := hC1.far (p := ⟨gN, o, none⟩) (by show w.heap.size + 1 ≠ gN; omega) (.bool true)
            have B9 := hC0.far (p := ⟨gN, o, none⟩) (by show w.heap.size ≠ gN; omega) (.bool true)
            have b9 := hbq.setCell (p := ⟨gN, o, none⟩) hz (.bool true)
            have HB7 := Lib.hid B7
            have HB8 := Lib.hid B8
            have HB9 := Lib.hid B9
            have HSN := Lib.hid hsn
            clear hnx hN hC1 hC0 hs2 hf hs hd B7 B8 B9 hsn
            go_wp2_with fail
            go_roundw
            case rel => exact ⟨o + 1, by omega, by go_num, by rw [HSN.out], HB7.out, HB8.out, HB9.out, b9⟩
            case measure => simp [intOf]; omega
        · have ho256 : o = 256 := by omega
          subst ho256
          have hN2 := hN.marks_same (f' := F) (fun i hi => by rw [decide_eq_true hi, Bool.true_and])
          clear hN hC1
          go_wp2_with (first | (refine wpList_load_row rfl 48 _ rfl gN rfl 48 _ (0, 0) _ hN2 Try.underlying48 rfl (by rw [Sp.arr_size]; exact infoSet) ?_) | (refine wpList_store_row rfl 48 _ _ rfl w.heap.size _ rfl rfl 48 _ hC0 (by rw [Sp.arr_size]; exact infoSet) (by rw [Sp.arr_size, Sp.arr_size]) (one_marks _) ?_))
          refine bodyPost_ret (v := .agg (Sp.arr F)) (results_cell_row rfl _ _ w.heap.size 48 (Sp.arr F) (0, 0) _ rfl (setRow_heap _ _ _ _ _ _ hC0) Try.underlying48 rfl (by rw [Sp.arr_size]; exact infoSet)) rfl ⟨rfl, below_setRow hbq (Nat.le_refl _) _⟩

end Go.Proofs.Ytnnmcnbpnfegpaa
