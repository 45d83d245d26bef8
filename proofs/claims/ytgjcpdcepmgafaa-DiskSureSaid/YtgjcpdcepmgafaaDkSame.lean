/-
  What telltaleref08's Same answers.
-/
import Derived.Test.YtgjcpdcepmgafaaDkCopy
import Derived.Lib.QuietBelow
import Derived.BigRegion
namespace Go.Proofs.Ytgjcpdcepmgafaa
open Go.RowKit

namespace Dk
theorem ext {L M : List Fc} (h : L.length = M.length) (hk : ∀ (k : Nat) (x y : Fc), L[k]? = some x → M[k]? = some y → x.fi = y.fi) : L.map Fc.fi = M.map Fc.fi := by
  apply List.ext_getElem (by simp [h])
  intro i h1 h2
  simp only [List.getElem_map]
  simp at h1 h2
  exact hk i _ _ (List.getElem?_eq_getElem h1) (List.getElem?_eq_getElem h2)
end Dk

set_option maxRecDepth 100000 in
set_option maxHeartbeats 3200000 in
theorem rsameD_any (ra rb : Int) (A B : Option Addr) (c d : Nat) (L M : List Fc) (w : World) (h1 : OneD w A c L) (h2 : OneD w B d M) :
    Calls Try.prog 12 #[.agg #[.int .i64 ra, .slice A L.length c], .agg #[.int .i64 rb, .slice B M.length d]] w (Says (.bool (decide (ra = rb ∧ L.map Fc.fi = M.map Fc.fi))) w) := by
  have hl1 := h1.len
  have hl2 := h2.len
  have bn := below_new (below_new (Below.refl w.heap.size w) (.cells #[.int .i64 ra, .slice A L.length c] 24)) (.cells #[.int .i64 rb, .slice B M.length d] 24)
  have hB0 := (Blk.new w 24 #[.int .i64 ra, .slice A L.length c]).alloc (.cells #[.int .i64 rb, .slice B M.length d] 24)
  have hB1 := Blk.new (w.alloc (.cells #[.int .i64 ra, .slice A L.length c] 24)) 24 #[.int .i64 rb, .slice B M.length d]
  have HB0 := Lib.hid hB0
  have HB1 := Lib.hid (show Blk _ (w.heap.size + 1) 24 #[.int .i64 rb, .slice B M.length d] from by simpa using hB1)
  have BN := Lib.hid bn
  have H1 := Lib.hid h1
  have H2 := Lib.hid h2
  clear h1 h2 hB0 hB1 bn
  obtain ⟨q, hq⟩ : ∃ q, decide (ra = rb ∧ L.map Fc.fi = M.map Fc.fi) = q := ⟨_, rfl⟩
  rw [hq]
  have HQ := Lib.hid hq
  clear hq
  by_cases hr : ra = rb
  · have d0 : (ra != rb) = false := by rw [bne_eq_false_iff_eq]; exact hr
    by_cases hlen : L.length = M.length
    · have d1 : ((L.length : Int) != (M.length : Int)) = false := by rw [bne_eq_false_iff_eq]; omega
      have HR := Lib.hid hr
      have HL := Lib.hid hlen
      have hle1 : L.length ≤ M.length := by omega
      have hle2 : M.length ≤ L.length := by omega
      clear hr hlen
      go_enter Try.func12, Try.ntmps12
      go_wp2_with fail
      go_loopw [5] (fun s5 wr => ∃ (k : Nat), k ≤ L.length ∧ s5 = .int .i64 (k : Int) ∧ (∀ (j : Nat) (x y : Fc), j < k → L[j]? = some x → M[j]? = some y → x.fi = y.fi) ∧ Blk wr w.heap.size 24 #[.int .i64 ra, .slice A L.length c] ∧ Blk wr (w.heap.size + 1) 24 #[.int .i64 rb, .slice B M.length d] ∧ Below w.heap.size w wr) (fun s5 _ => L.length - (intOf s5).toNat)
      case atStart => exact ⟨0, Nat.zero_le _, rfl, fun j x y hj => by omega, HB0.out, HB1.out, BN.out⟩
      case round =>
        obtain ⟨k, hk, rfl, hall, hD0, hD1, hbw⟩ := hrel
        have HALL := Lib.hid hall
        have d01 := hD0.cell (i := 1) rfl
        have d11 := hD1.cell (i := 1) rfl
        by_cases hlt : k < L.length
        · have hne : L ≠ [] := fun e => by subst e; simp at hlt
          have hne2 : M ≠ [] := fun e => by rw [e] at hle1; simp at hle1; rw [hle1] at hlt; simp at hlt
          obtain ⟨b, off, hA, hc⟩ := (H1.out.later hbw).at hne
          obtain ⟨b', off', hB, hc'⟩ := (H2.out.later hbw).at hne2
          obtain ⟨x, hx⟩ : ∃ x, L[k]? = some x := ⟨L[k], List.getElem?_eq_getElem hlt⟩
          obtain ⟨y, hy⟩ : ∃ y, M[k]? = some y := ⟨M[k], List.getElem?_eq_getElem (by omega)⟩
          obtain ⟨e0, e1, e2⟩ := hc k x hx
          obtain ⟨f0, f1, f2⟩ := hc' k y hy
          subst hA hB
          have hi0 : (0 : Int) ≤ (k : Int) := by omega
          have hi1 : (k : Int) < (L.length : Int) := by omega
          have hi2 : (k : Int) < (M.length : Int) := by omega
          have HX := Lib.hid hx
          have HY := Lib.hid hy
          have XO := Lib.hid ((H1.out.later hbw).one hx)
          have YO := Lib.hid ((H2.out.later hbw).one hy)
          have D0 := Lib.hid hD0
          have D1 := Lib.hid hD1
          have wz := (below_new (Below.refl wr.heap.size wr) (.cells #[.int .i64 0, .slice none 0 0, .int .i64 0] 43))
          have wzz := (below_new (below_new (Below.refl wr.heap.size wr) (.cells #[.int .i64 0, .slice none 0 0, .int .i64 0] 43)) (.cells #[.int .i64 0, .slice none 0 0, .int .i64 0] 43))
          have wx := (below_new (Below.refl wr.heap.size wr) (.cells #[.int .i64 x.num, .slice x.X x.l.length x.c, .int .i64 x.s] 43))
          have wxz := (below_new (below_new (Below.refl wr.heap.size wr) (.cells #[.int .i64 x.num, .slice x.X x.l.length x.c, .int .i64 x.s] 43)) (.cells #[.int .i64 0, .slice none 0 0, .int .i64 0] 43))
          have wzx := (below_new (below_new (Below.refl wr.heap.size wr) (.cells #[.int .i64 0, .slice none 0 0, .int .i64 0] 43)) (.cells #[.int .i64 x.num, .slice x.X x.l.length x.c, .int .i64 x.s] 43))
          have wy := (below_new (Below.refl wr.heap.size wr) (.cells #[.int .i64 y.num, .slice y.X y.l.length y.c, .int .i64 y.s] 43))
          have wyz := (below_new (below_new (Below.refl wr.heap.size wr) (.cells #[.int .i64 y.num, .slice y.X y.l.length y.c, .int .i64 y.s] 43)) (.cells #[.int .i64 0, .slice none 0 0, .int .i64 0] 43))
          have wzy := (below_new (below_new (Below.refl wr.heap.size wr) (.cells #[.int .i64 0, .slice none 0 0, .int .i64 0] 43)) (.cells #[.int .i64 y.num, .slice y.X y.l.length y.c, .int .i64 y.s] 43))
          have wzd01 := cell_later wz d01
          have wze0 := cell_later wz e0
          have wze1 := cell_later wz e1
          have wze2 := cell_later wz e2
          have wzzd01 := cell_later wzz d01
          have wzze0 := cell_later wzz e0
          have wzze1 := cell_later wzz e1
          have wzze2 := cell_later wzz e2
          have wyd01 := cell_later wy d01
          have wye0 := cell_later wy e0
          have wye1 := cell_later wy e1
          have wye2 := cell_later wy e2
          have wyzd01 := cell_later wyz d01
          have wyze0 := cell_later wyz e0
          have wyze1 := cell_later wyz e1
          have wyze2 := cell_later wyz e2
          have wzyd01 := cell_later wzy d01
          have wzye0 := cell_later wzy e0
          have wzye1 := cell_later wzy e1
          have wzye2 := cell_later wzy e2
          have wzd11 := cell_later wz d11
          have wzf0 := cell_later wz f0
          have wzf1 := cell_later wz f1
          have wzf2 := cell_later wz f2
          have wzzd11 := cell_later wzz d11
          have wzzf0 := cell_later wzz f0
          have wzzf1 := cell_later wzz f1
          have wzzf2 := cell_later wzz f2
          have wxd11 := cell_later wx d11
          have wxf0 := cell_later wx f0
          have wxf1 := cell_later wx f1
          have wxf2 := cell_later wx f2
          have wxzd11 := cell_later wxz d11
          have wxzf0 := cell_later wxz f0
          have wxzf1 := cell_later wxz f1
          have wxzf2 := cell_later wxz f2
          have wzxd11 := cell_later wzx d11
          have wzxf0 := cell_later wzx f0
          have wzxf1 := cell_later wzx f1
          have wzxf2 := cell_later wzx f2
          clear hall hc hc' hx hy hne hne2 hD0 hD1 wz wzz wx wxz wzx wy wyz wzy
          have bb1 := (below_new (below_new (Below.refl wr.heap.size wr) (.cells #[.int .i64 x.num, .slice x.X x.l.length x.c, .int .i64 x.s] 43)) (.cells #[.int .i64 y.num, .slice y.X y.l.length y.c, .int .i64 y.s] 43)).drew
          have NS1 := Lib.hid (bsame_any x.X y.X x.c y.c x.l y.l ((wr.alloc (.cells #[.int .i64 x.num, .slice x.X x.l.length x.c, .int .i64 x.s] 43)).alloc (.cells #[.int .i64 y.num, .slice y.X y.l.length y.c, .int .i64 y.s] 43)).drew (XO.out.later bb1) (YO.out.later bb1))
          have BB1 := Lib.hid (below_on hbw bb1)
          have E1 := Lib.hid (show Blk ((wr.alloc (.cells #[.int .i64 x.num, .slice x.X x.l.length x.c, .int .i64 x.s] 43)).alloc (.cells #[.int .i64 y.num, .slice y.X y.l.length y.c, .int .i64 y.s] 43)).drew w.heap.size 24 #[.int .i64 ra, .slice (some ⟨b, off, none⟩) L.length c] from D0.out.later bb1)
          have F1 := Lib.hid (show Blk ((wr.alloc (.cells #[.int .i64 x.num, .slice x.X x.l.length x.c, .int .i64 x.s] 43)).alloc (.cells #[.int .i64 y.num, .slice y.X y.l.length y.c, .int .i64 y.s] 43)).drew (w.heap.size + 1) 24 #[.int .i64 rb, .slice (some ⟨b', off', none⟩) M.length d] from D1.out.later bb1)
          have bb2 := (below_new (below_new (Below.refl wr.heap.size wr) (.cells #[.int .i64 y.num, .slice y.X y.l.length y.c, .int .i64 y.s] 43)) (.cells #[.int .i64 x.num, .slice x.X x.l.length x.c, .int .i64 x.s] 43)).drew
          have NS2 := Lib.hid (bsame_any x.X y.X x.c y.c x.l y.l ((wr.alloc (.cells #[.int .i64 y.num, .slice y.X y.l.length y.c, .int .i64 y.s] 43)).alloc (.cells #[.int .i64 x.num, .slice x.X x.l.length x.c, .int .i64 x.s] 43)).drew (XO.out.later bb2) (YO.out.later bb2))
          have BB2 := Lib.hid (below_on hbw bb2)
          have E2 := Lib.hid (show Blk ((wr.alloc (.cells #[.int .i64 y.num, .slice y.X y.l.length y.c, .int .i64 y.s] 43)).alloc (.cells #[.int .i64 x.num, .slice x.X x.l.length x.c, .int .i64 x.s] 43)).drew w.heap.size 24 #[.int .i64 ra, .slice (some ⟨b, off, none⟩) L.length c] from D0.out.later bb2)
          have F2 := Lib.hid (show Blk ((wr.alloc (.cells #[.int .i64 y.num, .slice y.X y.l.length y.c, .int .i64 y.s] 43)).alloc (.cells #[.int .i64 x.num, .slice x.X x.l.length x.c, .int .i64 x.s] 43)).drew (w.heap.size + 1) 24 #[.int .i64 rb, .slice (some ⟨b', off', none⟩) M.length d] from D1.out.later bb2)
          have NQ := Lib.hid (fun (h : ¬ x.fi = y.fi) => (show q = false from by
            rw [← HQ.out]
            refine decide_eq_false (fun hh => h ?_)
            have h1 := congrArg (fun l => l[k]?) hh.2
            simp only [List.getElem?_map, HX.out, HY.out] at h1
            exact Option.some.inj h1))
          clear bb1 bb2 D0 D1 XO YO
          go_wp2_with fail
          go_region
          · by_cases t1 : x.num = y.num
            · have g1 : (x.num != y.num) = false := by rw [bne_eq_false_iff_eq]; exact t1
              by_cases t2 : x.s = y.s
              · have g2 : (x.s != y.s) = false := by rw [bne_eq_false_iff_eq]; exact t2
                by_cases t3 : x.l = y.l
                · have ns := NS1.out
                  rw [decide_eq_true t3] at ns
                  have N3 := Lib.hid ns
                  have HE := Lib.hid (show x.fi = y.fi from by unfold Fc.fi; rw [t1, t2, t3])
                  clear ns t1 t2 t3
                  go_wp2_with fail
                  refine N3.out.mono ?_
                  rintro e w3 ⟨rfl, b3⟩
                  go_wp2_with fail
                  go_roundw
                  case rel => exact ⟨k + 1, by omega, by first | rfl | go_num, (fun j x' y' hj hx' hy' => by
                    by_cases ej : j = k
                    · subst ej
                      rw [HX.out] at hx'
                      rw [HY.out] at hy'
                      cases hx'
                      cases hy'
                      exact HE.out
                    · exact HALL.out j x' y' (by omega) hx' hy'), E1.out.later b3, F1.out.later b3, below_on BB1.out b3⟩
                  case measure => simp [intOf]; omega
                · have ns := NS1.out
                  rw [decide_eq_false t3] at ns
                  have N3 := Lib.hid ns
                  have hqf := NQ.out (fun h => t3 (congrArg (fun z => z.2.1) h))
                  subst hqf
                  clear ns t1 t2 t3
                  go_wp2_with fail
                  refine N3.out.mono ?_
                  rintro e w3 ⟨rfl, b3⟩
                  go_wp2
                  go_ret
                  exact ⟨rfl, below_on BB1.out b3⟩
              · have g2 : (x.s != y.s) = true := bne_iff_ne.2 t2
                have hqf := NQ.out (fun h => t2 (congrArg (fun z => z.2.2) h))
                subst hqf
                clear t1 t2
                go_wp2
                go_ret
                exact ⟨rfl, BB1.out⟩
            · have g1 : (x.num != y.num) = true := bne_iff_ne.2 t1
              have hqf := NQ.out (fun h => t1 (congrArg (fun z => z.1) h))
              subst hqf
              clear t1
              go_wp2
              go_ret
              exact ⟨rfl, BB1.out⟩
          · by_cases t1 : x.num = y.num
            · have g1 : (x.num != y.num) = false := by rw [bne_eq_false_iff_eq]; exact t1
              by_cases t2 : x.s = y.s
              · have g2 : (x.s != y.s) = false := by rw [bne_eq_false_iff_eq]; exact t2
                by_cases t3 : x.l = y.l
                · have ns := NS2.out
                  rw [decide_eq_true t3] at ns
                  have N3 := Lib.hid ns
                  have HE := Lib.hid (show x.fi = y.fi from by unfold Fc.fi; rw [t1, t2, t3])
                  clear ns t1 t2 t3
                  go_wp2_with fail
                  refine N3.out.mono ?_
                  rintro e w3 ⟨rfl, b3⟩
                  go_wp2_with fail
                  go_roundw
                  case rel => exact ⟨k + 1, by omega, by first | rfl | go_num, (fun j x' y' hj hx' hy' => by
                    by_cases ej : j = k
                    · subst ej
                      rw [HX.out] at hx'
                      rw [HY.out] at hy'
                      cases hx'
                      cases hy'
                      exact HE.out
                    · exact HALL.out j x' y' (by omega) hx' hy'), E2.out.later b3, F2.out.later b3, below_on BB2.out b3⟩
                  case measure => simp [intOf]; omega
                · have ns := NS2.out
                  rw [decide_eq_false t3] at ns
                  have N3 := Lib.hid ns
                  have hqf := NQ.out (fun h => t3 (congrArg (fun z => z.2.1) h))
                  subst hqf
                  clear ns t1 t2 t3
                  go_wp2_with fail
                  refine N3.out.mono ?_
                  rintro e w3 ⟨rfl, b3⟩
                  go_wp2
                  go_ret
                  exact ⟨rfl, below_on BB2.out b3⟩
              · have g2 : (x.s != y.s) = true := bne_iff_ne.2 t2
                have hqf := NQ.out (fun h => t2 (congrArg (fun z => z.2.2) h))
                subst hqf
                clear t1 t2
                go_wp2
                go_ret
                exact ⟨rfl, BB2.out⟩
            · have g1 : (x.num != y.num) = true := bne_iff_ne.2 t1
              have hqf := NQ.out (fun h => t1 (congrArg (fun z => z.1) h))
              subst hqf
              clear t1
              go_wp2
              go_ret
              exact ⟨rfl, BB2.out⟩
        · have hd : decide ((k : Int) < (L.length : Int)) = false := decide_eq_false (by omega)
          have hqt : q = true := by
            rw [← HQ.out]
            exact decide_eq_true ⟨HR.out, Dk.ext HL.out (fun j x y hx hy => HALL.out j x y (by have := (List.getElem?_eq_some_iff.1 hx).1; omega) hx hy)⟩
          subst hqt
          clear hall
          go_wp2
          go_ret
          exact ⟨rfl, hbw⟩
    · have d1 : ((L.length : Int) != (M.length : Int)) = true := by rw [bne_iff_ne]; omega
      have hqf : q = false := by
        rw [← HQ.out]
        exact decide_eq_false (fun hh => hlen (by have := congrArg List.length hh.2; simpa using this))
      subst hqf
      clear hlen hr
      go_enter Try.func12, Try.ntmps12
      go_wp2
      go_ret
      exact ⟨rfl, BN.out⟩
  · have d0 : (ra != rb) = true := bne_iff_ne.2 hr
    have hqf : q = false := by
      rw [← HQ.out]
      exact decide_eq_false (fun hh => hr hh.1)
    subst hqf
    clear hr
    go_enter Try.func12, Try.ntmps12
    go_wp2
    go_ret
    exact ⟨rfl, BN.out⟩
end Go.Proofs.Ytgjcpdcepmgafaa
