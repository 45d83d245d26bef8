/-
  What telltaleref08's Same answers.
  The law DiskApart, walked.
  What journal's functions answer: contracts, one a function; what stands in all of journal's laws.
  What journal's lastOf, Last, fits answer.
-/
import Derived.Test.YtkhggofcbdcliaaDoorG07
import Derived.Lib.QuietBelow
import Derived.BigRegion
import Derived.Test.YtkhggofcbdcliaaDoorG14
import Derived.Test.YtkhggofcbdcliaaDoorG13
import Derived.Test.YtkhggofcbdcliaaDoorG16
import Derived.Test.YtkhggofcbdcliaaDoorG18
import Derived.Test.YtkhggofcbdcliaaDoorG10
namespace Go.Proofs.YtkhggofcbdcliaaDoor
open Go.RowKit

namespace Dk
theorem ext {L M : List Fc} (h : L.length = M.length) (hk : ∀ (k : Nat) (x y : Fc), L[k]? = some x → M[k]? = some y → x.fi = y.fi) : L.map Fc.fi = M.map Fc.fi := by
  apply List.ext_getElem (by simp [h])
  intro i h1 h2
  simp only [List.getElem_map]
  simp at h1 h2
  exact hk i _ _ (List.getElem?_eq_getElem h1) (List.getElem?_eq_getElem h2)
end Dk

set_option maxRecDepth 100000 in
set_option maxHeartbeats 3200000 in
theorem rsameD_any (ra rb : Int) (A B : Option Addr) (c d : Nat) (L M : List Fc) (w : World) (h1 : OneD w A c L) (h2 : OneD w B d M) :
    Calls Tryd.prog 12 #[.agg #[.int .i64 ra, .slice A L.length c], .agg #[.int .i64 rb, .slice B M.length d]] w (Says (.bool (decide (ra = rb ∧ L.map Fc.fi = M.map Fc.fi))) w) := by
  have hl1 := h1.len
  have hl2 := h2.len
  have bn := below_new (below_new (Below.refl w.heap.size w) (.cells #[.int .i64 ra, .slice A L.length c] 24)) (.cells #[.int .i64 rb, .slice B M.length d] 24)
  have hB0 := (Blk.new w 24 #[.int .i64 ra, .slice A L.length c]).alloc (.cells #[.int .i64 rb, .slice B M.length d] 24)
  have hB1 := Blk.new (w.alloc (.cells #[.int .i64 ra, .slice A L.length c] 24)) 24 #[.int .i64 rb, .slice B M.length d]
  have HB0 := Lib.hid hB0
  have HB1 := Lib.hid (show Blk _ (w.heap.size + 1) 24 #[.int .i64 rb, .slice B M.length d] from by simpa using hB1)
  have BN := Lib.hid bn
  have H1 := Lib.hid h1
  have H2 := Lib.hid h2
  clear h1 h2 hB0 hB1 bn
  obtain ⟨q, hq⟩ : ∃ q, decide (ra = rb ∧ L.map Fc.fi = M.map Fc.fi) = q := ⟨_, rfl⟩
  rw [hq]
  have HQ := Lib.hid hq
  clear hq
  by_cases hr : ra = rb
  · have d0 : (ra != rb) = false := by rw [bne_eq_false_iff_eq]; exact hr
    by_cases hlen : L.length = M.length
    · have d1 : ((L.length : Int) != (M.length : Int)) = false := by rw [bne_eq_false_iff_eq]; omega
      have HR := Lib.hid hr
      have HL := Lib.hid hlen
      have hle1 : L.length ≤ M.length := by omega
      have hle2 : M.length ≤ L.length := by omega
      clear hr hlen
      go_enter Tryd.func12, Tryd.ntmps12
      go_wp2_with fail
      go_loopw [5] (fun s5 wr => ∃ (k : Nat), k ≤ L.length ∧ s5 = .int .i64 (k : Int) ∧ (∀ (j : Nat) (x y : Fc), j < k → L[j]? = some x → M[j]? = some y → x.fi = y.fi) ∧ Blk wr w.heap.size 24 #[.int .i64 ra, .slice A L.length c] ∧ Blk wr (w.heap.size + 1) 24 #[.int .i64 rb, .slice B M.length d] ∧ Below w.heap.size w wr) (fun s5 _ => L.length - (intOf s5).toNat)
      case atStart => exact ⟨0, Nat.zero_le _, rfl, fun j x y hj => by omega, HB0.out, HB1.out, BN.out⟩
      case round =>
        obtain ⟨k, hk, rfl, hall, hD0, hD1, hbw⟩ := hrel
        have HALL := Lib.hid hall
        have d01 := hD0.cell (i := 1) rfl
        have d11 := hD1.cell (i := 1) rfl
        by_cases hlt : k < L.length
        · have hne : L ≠ [] := fun e => by subst e; simp at hlt
          have hne2 : M ≠ [] := fun e => by rw [e] at hle1; simp at hle1; rw [hle1] at hlt; simp at hlt
          obtain ⟨b, off, hA, hc⟩ := (H1.out.later hbw).at hne
          obtain ⟨b', off', hB, hc'⟩ := (H2.out.later hbw).at hne2
          obtain ⟨x, hx⟩ : ∃ x, L[k]? = some x := ⟨L[k], List.getElem?_eq_getElem hlt⟩
          obtain ⟨y, hy⟩ : ∃ y, M[k]? = some y := ⟨M[k], List.getElem?_eq_getElem (by omega)⟩
          obtain ⟨e0, e1, e2⟩ := hc k x hx
          obtain ⟨f0, f1, f2⟩ := hc' k y hy
          subst hA hB
          have hi0 : (0 : Int) ≤ (k : Int) := by omega
          have hi1 : (k : Int) < (L.length : Int) := by omega
          have hi2 : (k : Int) < (M.length : Int) := by omega
          have HX := Lib.hid hx
          have HY := Lib.hid hy
          have XO := Lib.hid ((H1.out.later hbw).one hx)
          have YO := Lib.hid ((H2.out.later hbw).one hy)
          have D0 := Lib.hid hD0
          have D1 := Lib.hid hD1
          have wz := (below_new (Below.refl wr.heap.size wr) (.cells #[.int .i64 0, .slice none 0 0, .int .i64 0] 50))
          have wzz := (below_new (below_new (Below.refl wr.heap.size wr) (.cells #[.int .i64 0, .slice none 0 0, .int .i64 0] 50)) (.cells #[.int .i64 0, .slice none 0 0, .int .i64 0] 50))
          have wx := (below_new (Below.refl wr.heap.size wr) (.cells #[.int .i64 x.num, .slice x.X x.l.length x.c, .int .i64 x.s] 50))
          have wxz := (below_new (below_new (Below.refl wr.heap.size wr) (.cells #[.int .i64 x.num, .slice x.X x.l.length x.c, .int .i64 x.s] 50)) (.cells #[.int .i64 0, .slice none 0 0, .int .i64 0] 50))
          have wzx := (below_new (below_new (Below.refl wr.heap.size wr) (.cells #[.int .i64 0, .slice none 0 0, .int .i64 0] 50)) (.cells #[.int .i64 x.num, .slice x.X x.l.length x.c, .int .i64 x.s] 50))
          have wy := (below_new (Below.refl wr.heap.size wr) (.cells #[.int .i64 y.num, .slice y.X y.l.length y.c, .int .i64 y.s] 50))
          have wyz := (below_new (below_new (Below.refl wr.heap.size wr) (.cells #[.int .i64 y.num, .slice y.X y.l.length y.c, .int .i64 y.s] 50)) (.cells #[.int .i64 0, .slice none 0 0, .int .i64 0] 50))
          have wzy := (below_new (below_new (Below.refl wr.heap.size wr) (.cells #[.int .i64 0, .slice none 0 0, .int .i64 0] 50)) (.cells #[.int .i64 y.num, .slice y.X y.l.length y.c, .int .i64 y.s] 50))
          have wzd01 := cell_later wz d01
          have wze0 := cell_later wz e0
          have wze1 := cell_later wz e1
          have wze2 := cell_later wz e2
          have wzzd01 := cell_later wzz d01
          have wzze0 := cell_later wzz e0
          have wzze1 := cell_later wzz e1
          have wzze2 := cell_later wzz e2
          have wyd01 := cell_later wy d01
          have wye0 := cell_later wy e0
          have wye1 := cell_later wy e1
          have wye2 := cell_later wy e2
          have wyzd01 := cell_later wyz d01
          have wyze0 := cell_later wyz e0
          have wyze1 := cell_later wyz e1
          have wyze2 := cell_later wyz e2
          have wzyd01 := cell_later wzy d01
          have wzye0 := cell_later wzy e0
          have wzye1 := cell_later wzy e1
          have wzye2 := cell_later wzy e2
          have wzd11 := cell_later wz d11
          have wzf0 := cell_later wz f0
          have wzf1 := cell_later wz f1
          have wzf2 := cell_later wz f2
          have wzzd11 := cell_later wzz d11
          have wzzf0 := cell_later wzz f0
          have wzzf1 := cell_later wzz f1
          have wzzf2 := cell_later wzz f2
          have wxd11 := cell_later wx d11
          have wxf0 := cell_later wx f0
          have wxf1 := cell_later wx f1
          have wxf2 := cell_later wx f2
          have wxzd11 := cell_later wxz d11
          have wxzf0 := cell_later wxz f0
          have wxzf1 := cell_later wxz f1
          have wxzf2 := cell_later wxz f2
          have wzxd11 := cell_later wzx d11
          have wzxf0 := cell_later wzx f0
          have wzxf1 := cell_later wzx f1
          have wzxf2 := cell_later wzx f2
          clear hall hc hc' hx hy hne hne2 hD0 hD1 wz wzz wx wxz wzx wy wyz wzy
          have bb1 := (below_new (below_new (Below.refl wr.heap.size wr) (.cells #[.int .i64 x.num, .slice x.X x.l.length x.c, .int .i64 x.s] 50)) (.cells #[.int .i64 y.num, .slice y.X y.l.length y.c, .int .i64 y.s] 50)).drew
          have NS1 := Lib.hid (bsame_any x.X y.X x.c y.c x.l y.l ((wr.alloc (.cells #[.int .i64 x.num, .slice x.X x.l.length x.c, .int .i64 x.s] 50)).alloc (.cells #[.int .i64 y.num, .slice y.X y.l.length y.c, .int .i64 y.s] 50)).drew (XO.out.later bb1) (YO.out.later bb1))
          have BB1 := Lib.hid (below_on hbw bb1)
          have E1 := Lib.hid (show Blk ((wr.alloc (.cells #[.int .i64 x.num, .slice x.X x.l.length x.c, .int .i64 x.s] 50)).alloc (.cells #[.int .i64 y.num, .slice y.X y.l.length y.c, .int .i64 y.s] 50)).drew w.heap.size 24 #[.int .i64 ra, .slice (some ⟨b, off, none⟩) L.length c] from D0.out.later bb1)
          have F1 := Lib.hid (show Blk ((wr.alloc (.cells #[.int .i64 x.num, .slice x.X x.l.length x.c, .int .i64 x.s] 50)).alloc (.cells #[.int .i64 y.num, .slice y.X y.l.length y.c, .int .i64 y.s] 50)).drew (w.heap.size + 1) 24 #[.int .i64 rb, .slice (some ⟨b', off', none⟩) M.length d] from D1.out.later bb1)
          have bb2 := (below_new (below_new (Below.refl wr.heap.size wr) (.cells #[.int .i64 y.num, .slice y.X y.l.length y.c, .int .i64 y.s] 50)) (.cells #[.int .i64 x.num, .slice x.X x.l.length x.c, .int .i64 x.s] 50)).drew
          have NS2 := Lib.hid (bsame_any x.X y.X x.c y.c x.l y.l ((wr.alloc (.cells #[.int .i64 y.num, .slice y.X y.l.length y.c, .int .i64 y.s] 50)).alloc (.cells #[.int .i64 x.num, .slice x.X x.l.length x.c, .int .i64 x.s] 50)).drew (XO.out.later bb2) (YO.out.later bb2))
          have BB2 := Lib.hid (below_on hbw bb2)
          have E2 := Lib.hid (show Blk ((wr.alloc (.cells #[.int .i64 y.num, .slice y.X y.l.length y.c, .int .i64 y.s] 50)).alloc (.cells #[.int .i64 x.num, .slice x.X x.l.length x.c, .int .i64 x.s] 50)).drew w.heap.size 24 #[.int .i64 ra, .slice (some ⟨b, off, none⟩) L.length c] from D0.out.later bb2)
          have F2 := Lib.hid (show Blk ((wr.alloc (.cells #[.int .i64 y.num, .slice y.X y.l.length y.c, .int .i64 y.s] 50)).alloc (.cells #[.int .i64 x.num, .slice x.X x.l.length x.c, .int .i64 x.s] 50)).drew (w.heap.size + 1) 24 #[.int .i64 rb, .slice (some ⟨b', off', none⟩) M.length d] from D1.out.later bb2)
          have NQ := Lib.hid (fun (h : ¬ x.fi = y.fi) => (show q = false from by
            rw [← HQ.out]
            refine decide_eq_false (fun hh => h ?_)
            have h1 := congrArg (fun l => l[k]?) hh.2
            simp only [List.getElem?_map, HX.out, HY.out] at h1
            exact Option.some.inj h1))
          clear bb1 bb2 D0 D1 XO YO
          go_wp2_with fail
          go_region
          · by_cases t1 : x.num = y.num
            · have g1 : (x.num != y.num) = false := by rw [bne_eq_false_iff_eq]; exact t1
              by_cases t2 : x.s = y.s
              · have g2 : (x.s != y.s) = false := by rw [bne_eq_false_iff_eq]; exact t2
                by_cases t3 : x.l = y.l
                · have ns := NS1.out
                  rw [decide_eq_true t3] at ns
                  have N3 := Lib.hid ns
                  have HE := Lib.hid (show x.fi = y.fi from by unfold Fc.fi; rw [t1, t2, t3])
                  clear ns t1 t2 t3
                  go_wp2_with fail
                  refine N3.out.mono ?_
                  rintro e w3 ⟨rfl, b3⟩
                  go_wp2_with fail
                  go_roundw
                  case rel => exact ⟨k + 1, by omega, by first | rfl | go_num, (fun j x' y' hj hx' hy' => by
                    by_cases ej : j = k
                    · subst ej
                      rw [HX.out] at hx'
                      rw [HY.out] at hy'
                      cases hx'
                      cases hy'
                      exact HE.out
                    · exact HALL.out j x' y' (by omega) hx' hy'), E1.out.later b3, F1.out.later b3, below_on BB1.out b3⟩
                  case measure => simp [intOf]; omega
                · have ns := NS1.out
                  rw [decide_eq_false t3] at ns
                  have N3 := Lib.hid ns
                  have hqf := NQ.out (fun h => t3 (congrArg (fun z => z.2.1) h))
                  subst hqf
                  clear ns t1 t2 t3
                  go_wp2_with fail
                  refine N3.out.mono ?_
                  rintro e w3 ⟨rfl, b3⟩
                  go_wp2
                  go_ret
                  exact ⟨rfl, below_on BB1.out b3⟩
              · have g2 : (x.s != y.s) = true := bne_iff_ne.2 t2
                have hqf := NQ.out (fun h => t2 (congrArg (fun z => z.2.2) h))
                subst hqf
                clear t1 t2
                go_wp2
                go_ret
                exact ⟨rfl, BB1.out⟩
            · have g1 : (x.num != y.num) = true := bne_iff_ne.2 t1
              have hqf := NQ.out (fun h => t1 (congrArg (fun z => z.1) h))
              subst hqf
              clear t1
              go_wp2
              go_ret
              exact ⟨rfl, BB1.out⟩
          · by_cases t1 : x.num = y.num
            · have g1 : (x.num != y.num) = false := by rw [bne_eq_false_iff_eq]; exact t1
              by_cases t2 : x.s = y.s
              · have g2 : (x.s != y.s) = false := by rw [bne_eq_false_iff_eq]; exact t2
                by_cases t3 : x.l = y.l
                · have ns := NS2.out
                  rw [decide_eq_true t3] at ns
                  have N3 := Lib.hid ns
                  have HE := Lib.hid (show x.fi = y.fi from by unfold Fc.fi; rw [t1, t2, t3])
                  clear ns t1 t2 t3
                  go_wp2_with fail
                  refine N3.out.mono ?_
                  rintro e w3 ⟨rfl, b3⟩
                  go_wp2_with fail
                  go_roundw
                  case rel => exact ⟨k + 1, by omega, by first | rfl | go_num, (fun j x' y' hj hx' hy' => by
                    by_cases ej : j = k
                    · subst ej
                      rw [HX.out] at hx'
                      rw [HY.out] at hy'
                      cases hx'
                      cases hy'
                      exact HE.out
                    · exact HALL.out j x' y' (by omega) hx' hy'), E2.out.later b3, F2.out.later b3, below_on BB2.out b3⟩
                  case measure => simp [intOf]; omega
                · have ns := NS2.out
                  rw [decide_eq_false t3] at ns
                  have N3 := Lib.hid ns
                  have hqf := NQ.out (fun h => t3 (congrArg (fun z => z.2.1) h))
                  subst hqf
                  clear ns t1 t2 t3
                  go_wp2_with fail
                  refine N3.out.mono ?_
                  rintro e w3 ⟨rfl, b3⟩
                  go_wp2
                  go_ret
                  exact ⟨rfl, below_on BB2.out b3⟩
              · have g2 : (x.s != y.s) = true := bne_iff_ne.2 t2
                have hqf := NQ.out (fun h => t2 (congrArg (fun z => z.2.2) h))
                subst hqf
                clear t1 t2
                go_wp2
                go_ret
                exact ⟨rfl, BB2.out⟩
            · have g1 : (x.num != y.num) = true := bne_iff_ne.2 t1
              have hqf := NQ.out (fun h => t1 (congrArg (fun z => z.1) h))
              subst hqf
              clear t1
              go_wp2
              go_ret
              exact ⟨rfl, BB2.out⟩
        · have hd : decide ((k : Int) < (L.length : Int)) = false := decide_eq_false (by omega)
          have hqt : q = true := by
            rw [← HQ.out]
            exact decide_eq_true ⟨HR.out, Dk.ext HL.out (fun j x y hx hy => HALL.out j x y (by have := (List.getElem?_eq_some_iff.1 hx).1; omega) hx hy)⟩
          subst hqt
          clear hall
          go_wp2
          go_ret
          exact ⟨rfl, hbw⟩
    · have d1 : ((L.length : Int) != (M.length : Int)) = true := by rw [bne_iff_ne]; omega
      have hqf : q = false := by
        rw [← HQ.out]
        exact decide_eq_false (fun hh => hlen (by have := congrArg List.length hh.2; simpa using this))
      subst hqf
      clear hlen hr
      go_enter Tryd.func12, Tryd.ntmps12
      go_wp2
      go_ret
      exact ⟨rfl, BN.out⟩
  · have d0 : (ra != rb) = true := bne_iff_ne.2 hr
    have hqf : q = false := by
      rw [← HQ.out]
      exact decide_eq_false (fun hh => hr hh.1)
    subst hqf
    clear hr
    go_enter Tryd.func12, Tryd.ntmps12
    go_wp2
    go_ret
    exact ⟨rfl, BN.out⟩
end Go.Proofs.YtkhggofcbdcliaaDoor
namespace Go.Proofs.YtkhggofcbdcliaaDoor
open Go.RowKit

/-- Worlds that agree but for the blocks from lo up to hi. -/
structure Kept (lo hi : Nat) (w w' : World) : Prop where
  size : w.heap.size ≤ w'.heap.size
  same : ∀ k, k < w.heap.size → (k < lo ∨ hi ≤ k) → w'.heap[k]? = w.heap[k]?
theorem Kept.refl (lo hi : Nat) (w : World) : Kept lo hi w w := ⟨Nat.le_refl _, fun _ _ _ => rfl⟩
theorem Kept.put {lo hi : Nat} {w w' : World} (h : Kept lo hi w w') {p : Addr} (h1 : lo ≤ p.block) (h2 : p.block < hi) (u : Value) : Kept lo hi w (w'.setCell p u) :=
  ⟨by simpa using h.size, fun k hk ho => (Below.heap_setCell _ _ _ _ (by omega)).trans (h.same k hk ho)⟩
theorem Kept.blk {lo hi : Nat} {w w' : World} (h : Kept lo hi w w') {k d : Nat} {cs : Array Value} (hb : Blk w k d cs) (ho : k < lo ∨ hi ≤ k) : Blk w' k d cs := (h.same k hb.lt ho).trans hb
theorem OwnD.above {lo hi : Nat} {w w' : World} {base : Nat} {t e : TypeId} {v : Value} {L : List Fc} (h : OwnD w base t e v L) (hk : Kept lo hi w w') (hb : hi ≤ base) : OwnD w' base t e v L := by
  refine ⟨own_stays h.row fun k hkb => hk.same k ?_ (.inr (by have := own_ge h.row k hkb; omega)), fun f hf => (h.each f hf).stays fun k hkb => hk.same k ((h.each f hf).lt k hkb).2 (.inr (by have := ((h.each f hf).lt k hkb).1; omega)), h.apart⟩
  rcases h.row.2 with ⟨h1, _⟩ | ⟨g, cap, cur, h1, _, h3, _⟩
  · rw [h1] at hkb; cases hkb
  · rw [h1] at hkb
    injection hkb with hkb
    have hkb2 : g = k := hkb
    subst hkb2
    exact (Array.getElem?_eq_some_iff.1 h3).1
/-- Files stay where a block of another kind is turned. -/
theorem OwnD.aside {w w' : World} {base : Nat} {t e : TypeId} {A : Option Addr} {N c g d : Nat} {cs : Array Value} {L : List Fc} (h : OwnD w base t e (.slice A N c) L) (hY : Blk w g d cs) (h1 : d ≠ t) (h2 : d ≠ e) (hs : ∀ b, b ≠ g → w'.heap[b]? = w.heap[b]?) : OwnD w' base t e (.slice A N c) L := by
  refine ⟨own_stays h.row fun k hk => hs k (fun e2 => ?_), fun f hf => (h.each f hf).stays fun k hk => hs k (fun e2 => ?_), h.apart⟩
  · subst e2
    rcases h.row.2 with ⟨hv, _⟩ | ⟨g', cap', cur', hv, _⟩
    · rw [hv] at hk; cases hk
    · have hr := h
      rw [hv] at hk hr
      have : g' = k := by injection hk
      subst this
      injection hv with _ h4 h5
      exact OwnD.off hr hY h1 rfl
  · subst e2
    exact (h.each f hf).off hY h2 hk
/-- A file's number, in place. -/
theorem OwnD.put0 {w : World} {n0 g N cap i : Nat} {t e : TypeId} {L : List Fc} {f : Fc} (hne : t ≠ e) (h : OwnD w n0 t e (.slice (some ⟨g, 0, none⟩) N cap) L) (hN : L.length = N) (hf : L[i]? = some f) (n : Int) : OwnD (w.setCell ⟨g, i * 3, none⟩ (.int .i64 n)) n0 t e (.slice (some ⟨g, 0, none⟩) N cap) (L.set i { f with num := n }) := by
  have ho := h.each f (List.mem_of_getElem? hf)
  have hrow : w.ownsRow n0 t 3 (.slice (some ⟨g, 0, none⟩) N cap) N (fCells L) := by have h9 := h.row; rw [hN] at h9; exact h9
  have hb := ho.off_row hrow hne
  have hr := own_put hrow (i * 3) (.int .i64 n)
  rw [fCells_set0 f n L i hf] at hr
  exact h.upd hne hN hf hr ((ho.num n f.s).far (p := ⟨g, i * 3, none⟩) hb _) rfl (fun _ _ h1 _ => Below.heap_setCell _ _ _ _ h1)
/-- One of its bytes, in place. -/
theorem OwnD.putB {w : World} {n0 g N cap i b off k : Nat} {t e : TypeId} {L : List Fc} {f : Fc} {y : Int} (hne : t ≠ e) (h : OwnD w n0 t e (.slice (some ⟨g, 0, none⟩) N cap) L) (hN : L.length = N) (hf : L[i]? = some f) (hX : f.X = some ⟨b, off, none⟩) (hy : isB y) :
    OwnD (w.setCell ⟨b, k, none⟩ (.int .u8 y)) n0 t e (.slice (some ⟨g, 0, none⟩) N cap) (L.set i { f with l := f.l.set k y }) := by
  have ho := h.each f (List.mem_of_getElem? hf)
  have hrow : w.ownsRow n0 t 3 (.slice (some ⟨g, 0, none⟩) N cap) N (fCells L) := by have h9 := h.row; rw [hN] at h9; exact h9
  have hng := ho.off_row hrow hne
  have hxb : f.blk = some b := by unfold Fc.blk; rw [hX]; rfl
  have hbg : g ≠ b := fun e => hng (by rw [hxb, e])
  refine h.upd hne hN hf ?_ (ho.put hX k y hy) rfl (fun q _ _ h3 => Below.heap_setCell _ _ _ _ (fun e => h3 (by rw [hxb]; exact congrArg some e.symm)))
  rw [fCells_same L i f _ hf (by rw [List.length_set])]
  have h5 := own_stays hrow (w' := w.setCell ⟨b, k, none⟩ (.int .u8 y)) (fun q hq => by
    have : g = q := by injection hq
    subst this
    exact Below.heap_setCell _ _ _ _ hbg)
  exact h5

end Go.Proofs.YtkhggofcbdcliaaDoor
namespace Go.Proofs.YtkhggofcbdcliaaDoor
open Go.RowKit

/-- Records, a disk and an error are answered; what was there before is as it was. -/
def GivesSc (r : List (List Int) × Dk.Ans3) (w : World) (e : Ending) (w' : World) : Prop :=
  ∃ V cv A c L, e = .returned (.tuple #[.slice V r.1.length cv, .agg #[.int .i64 r.2.1, .slice A (List.length L) c], .int .i64 r.2.2.2]) ∧ RowB w' V cv r.1 ∧ OwnD w' w.heap.size 50 5 (.slice A L.length c) L ∧ L.map Fc.fi = r.2.2.1 ∧ Below w.heap.size w w'
theorem GivesSc.open {rs : List (List Int)} {room k : Int} {fs : List Fi} {w w' : World} {e : Ending} (h : GivesSc (rs, (room, fs, k)) w e w') :
    ∃ V cv A c L, e = .returned (.tuple #[.slice V (List.length rs) cv, .agg #[.int .i64 room, .slice A (List.length L) c], .int .i64 k]) ∧ RowB w' V cv rs ∧ OwnD w' w.heap.size 50 5 (.slice A L.length c) L ∧ L.map Fc.fi = fs ∧ Below w.heap.size w w' := h
structure JournalSpec : Prop where
  last : ∀ (room : Int) (A : Option Addr) (c : Nat) (L : List Fc) (w : World), OneD w A c L → Calls Tryd.prog 13 #[.agg #[.int .i64 room, .slice A L.length c]] w (Says (.int .i64 (Jn.lastR room (L.map Fc.fi))) w)
  append : ∀ (room : Int) (A B : Option Addr) (c cb : Nat) (L : List Fc) (p : List Int) (w : World), OneD w A c L → OneB w B cb p → Halves w → Calls Tryd.prog 10 #[.agg #[.int .i64 room, .slice A L.length c], .slice B p.length cb] w (GivesDE (Jn.appJR room (L.map Fc.fi) p) w)
  start : ∀ (room : Int) (A B : Option Addr) (c cb : Nat) (L : List Fc) (p : List Int) (w : World), OneD w A c L → OneB w B cb p → Halves w → Calls Tryd.prog 15 #[.agg #[.int .i64 room, .slice A L.length c], .slice B p.length cb] w (GivesDE (Jn.startR room (L.map Fc.fi) p) w)
  drop : ∀ (room : Int) (A : Option Addr) (c : Nat) (L : List Fc) (w : World), OneD w A c L → Calls Tryd.prog 17 #[.agg #[.int .i64 room, .slice A L.length c]] w (GivesDO (Jn.dropR room (L.map Fc.fi)) w)
  scan : ∀ (room : Int) (A : Option Addr) (c : Nat) (L : List Fc) (w : World), OneD w A c L → Halves w → Calls Tryd.prog 19 #[.agg #[.int .i64 room, .slice A L.length c]] w (GivesSc (Jn.scanR room (L.map Fc.fi)) w)

theorem Jn.one_a : Jn.appJR 4096 [] [7] = (4096, [(1, Fr.frm [7], 0)], 0) := by decide +kernel
theorem Jn.one_b : Jn.appJR 4096 [(1, Fr.frm [7], 0)] [8] = (4096, [(1, Fr.frm [7] ++ Fr.frm [8], 0)], 0) := by decide +kernel
theorem Jn.one_c : Jn.scanR 4096 [(1, Fr.frm [7] ++ Fr.frm [8], 0)] = ([[7], [8]], (4096, [(1, Fr.frm [7] ++ Fr.frm [8], 18)], 0)) := by decide +kernel
theorem Jn.one_d : Jn.lastR 4096 [(1, Fr.frm [7] ++ Fr.frm [8], 0)] = 1 := by decide +kernel
/-- One byte, laid. -/
theorem OneB.byte1 (w : World) (x : Int) (hx : isB x) : OneB (w.alloc (.cells #[.int .u8 x] 5)) (some ⟨w.heap.size, 0, none⟩) 1 [x] :=
  ⟨Nat.le_refl _, by unfold maxLen; simp, (fun h => by cases h), (fun _ => ⟨w.heap.size, 0, rfl, fun j u hu => by
      rw [Nat.zero_add]
      exact (Blk.new w 5 #[.int .u8 x]).cell (by simpa [bCells] using hu)⟩), by
    intro y hy
    rw [List.mem_singleton] at hy
    subst hy
    exact hx⟩

set_option maxRecDepth 100000 in
set_option maxHeartbeats 3200000 in
theorem jalive_any (JS : JournalSpec) (w : World) (hH : Halves w) : Calls Tryd.prog 8 #[] w (Says (.bool true) w) := by
  have bA := below_new (Below.refl w.heap.size w) (.cells #[.int .u8 7] 5)
  have n1 := JS.append 4096 none (some ⟨w.heap.size, 0, none⟩) 0 1 [] [7] _ (OneD.nil _) (OneB.byte1 w 7 (by unfold isB; omega)) (hH.later bA)
  rw [show Jn.appJR 4096 (([] : List Fc).map Fc.fi) [7] = (4096, [(1, Fr.frm [7], 0)], 0) from Jn.one_a] at n1
  have N1 := Lib.hid (show Calls Tryd.prog 10 #[.agg #[.int .i64 4096, .slice none 0 0], .slice (some ⟨w.heap.size, 0, none⟩) 1 1] (w.alloc (.cells #[.int .u8 7] 5)) (GivesDE (4096, [(1, Fr.frm [7], 0)], 0) (w.alloc (.cells #[.int .u8 7] 5))) from n1)
  have BA := Lib.hid bA
  have HH := Lib.hid (hH.later bA)
  have SP := Lib.hid JS
  have HHW := Lib.hid hH
  clear n1 bA hH JS
  go_enter Tryd.func8, Tryd.ntmps8
  go_wp2_with fail
  refine N1.out.mono ?_
  intro e w1 h
  obtain ⟨A1, c1, L1, rfl, hO1, hf1, b1⟩ := h.open
  have bd := below_new (Below.refl w1.heap.size w1) (.cells #[.int .i64 4096, .slice A1 L1.length c1] 24)
  have bb1 := below_on (below_on BA.out b1) bd
  have Y1 := Blk.new w1 24 #[.int .i64 4096, .slice A1 L1.length c1]
  obtain ⟨W1, hW1⟩ : ∃ W1, w1.alloc (.cells #[.int .i64 4096, .slice A1 L1.length c1] 24) = W1 := ⟨_, rfl⟩
  have O1 := hO1.oneD.later bd
  have H1 := (HH.out.later b1).later bd
  rw [hW1] at bd bb1 Y1 O1 H1
  have hw1 : w.heap.size ≤ w1.heap.size := (below_on BA.out b1).size
  have b8 := below_new (Below.refl W1.heap.size W1) (.cells #[.int .u8 8] 5)
  have n2 := SP.out.append 4096 A1 (some ⟨W1.heap.size, 0, none⟩) c1 1 L1 [8] _ (O1.later b8) (OneB.byte1 W1 8 (by unfold isB; omega)) (H1.later b8)
  rw [hf1, Jn.one_b] at n2
  have N2 := Lib.hid (show Calls Tryd.prog 10 #[.agg #[.int .i64 4096, .slice A1 L1.length c1], .slice (some ⟨W1.heap.size, 0, none⟩) 1 1] (W1.alloc (.cells #[.int .u8 8] 5)) (GivesDE (4096, [(1, Fr.frm [7] ++ Fr.frm [8], 0)], 0) (W1.alloc (.cells #[.int .u8 8] 5))) from n2)
  have BB1 := Lib.hid (below_on bb1 b8)
  have YH1 := Lib.hid (Y1.later b8)
  have HH1 := Lib.hid (H1.later b8)
  have d0 := Y1.cell (i := 0) rfl
  have d1 := Y1.cell (i := 1) rfl
  have HHZ := Lib.hid (show w1.heap.size < W1.heap.size from Y1.lt)
  clear h hO1 hf1 O1 H1 n2 bb1 b1 b8 bd Y1 HH N1 BA
  go_upto_region 2 with (fail)
  try rw [hW1]
  clear hW1
  go_wp2_with fail
  refine N2.out.mono ?_
  intro e w2 h
  obtain ⟨A2, c2, L2, rfl, hO2, hf2, b2⟩ := h.open
  have Y2 := YH1.out.later b2
  have y0 := Y2.cell (i := 0) rfl
  have y1 := Y2.cell (i := 1) rfl
  have s0 := Y2.free 0
  have s1 := Y2.free 1
  have hs1 := HHZ.out
  have hs2 := (YH1.out).lt
  have YN := Lib.hid ((Y2.put 0 (.int .i64 4096)).put 1 (.slice A2 L2.length c2))
  have ON := Lib.hid ((hO2.low (p := ⟨w1.heap.size, 0, none⟩) hs2 (.int .i64 4096)).low (p := ⟨w1.heap.size, 1, none⟩) hs2 (.slice A2 L2.length c2))
  have BN := Lib.hid (((below_on BB1.out b2).setCell (p := ⟨w1.heap.size, 0, none⟩) hw1 (.int .i64 4096)).setCell (p := ⟨w1.heap.size, 1, none⟩) hw1 (.slice A2 L2.length c2))
  have HF := Lib.hid hf2
  clear h hO2 hf2 b2 Y2 d0 d1 hs2
  go_upto_region 3 with (fail)
  obtain ⟨W3, hW3⟩ : ∃ W3, (w2.setCell ⟨w1.heap.size, 0, none⟩ (.int .i64 4096)).setCell ⟨w1.heap.size, 1, none⟩ (.slice A2 L2.length c2) = W3 := ⟨_, rfl⟩
  rw [hW3] at YN ON BN ⊢
  clear hW3 y0 y1 s0 s1
  have y0 := YN.out.cell (i := 0) rfl
  have y1 := YN.out.cell (i := 1) rfl
  have n3 := SP.out.scan 4096 A2 c2 L2 W3 ON.out.oneD (HHW.out.later BN.out)
  rw [HF.out, Jn.one_c] at n3
  have N3 := Lib.hid n3
  clear n3
  go_wp2_with fail
  refine N3.out.mono ?_
  intro e w4 h
  obtain ⟨V, cv, A4, c4, L4, rfl, hV, hO4, hf4, b4⟩ := h.open
  obtain ⟨bv, off, hVV, hc⟩ := hV.lies (by simp)
  obtain ⟨X, cx, r1, hX⟩ := hc 1 (by simp)
  obtain ⟨bx, ox, hXX, hcx⟩ := hX.at (by simp)
  have r2 := hcx 0 (by simp)
  have bb4 := below_new (Below.refl w4.heap.size w4) (.cells #[.int .i64 4096, .slice A4 L4.length c4] 24)
  have YD := Lib.hid ((YN.out.later b4).later bb4)
  have n5 := SP.out.last 4096 A2 c2 L2 _ ((ON.out.oneD.later b4).later bb4)
  rw [HF.out, Jn.one_d] at n5
  have N5 := Lib.hid n5
  have BB4 := Lib.hid (below_on (below_on BN.out b4) bb4)
  have hle := hV.le
  have hcm := hV.cap
  have hxe := hX.le
  have hxm := hX.cap
  unfold maxLen at hcm hxm
  have R1 := Lib.hid (cell_later bb4 r1)
  have R2 := Lib.hid (cell_later bb4 r2)
  subst hVV
  rw [hXX] at R1
  obtain ⟨W5, hW5⟩ : ∃ W5, w4.alloc (.cells #[.int .i64 4096, .slice A4 L4.length c4] 24) = W5 := ⟨_, rfl⟩
  rw [hW5] at N5 R1 R2 YD BB4
  clear h hV hO4 hf4 b4 hc r1 hX hcx r2 n5 bb4 y0 y1 hXX N3 ON BN YN
  go_upto_region 4 with (fail)
  try rw [hW5]
  clear hW5
  have y0 := YD.out.cell (i := 0) rfl
  have y1 := YD.out.cell (i := 1) rfl
  have r1 : W5.cell? ⟨bv, off + 1, none⟩ = some (.slice (some ⟨bx, ox, none⟩) 1 cx) := R1.out
  have r2 : W5.cell? ⟨bx, ox, none⟩ = some (.int .u8 8) := R2.out
  have hxe1 : 1 ≤ cx := hxe
  have hle2 : 2 ≤ cv := hle
  go_wp2_with fail
  refine N5.out.mono ?_
  rintro e w6 ⟨rfl, b6⟩
  have BB6 := Lib.hid (below_on BB4.out b6)
  clear b6
  go_wp2
  go_ret
  exact ⟨rfl, BB6.out⟩
end Go.Proofs.YtkhggofcbdcliaaDoor
namespace Go.Proofs.YtkhggofcbdcliaaDoor
open Go.RowKit

/-- The last segment, and is there one? -/
def LastIs (L : List Fc) (x : Fc) (b : Bool) : Prop := (L = [] ∧ x = Fc.zero ∧ b = false) ∨ (L ≠ [] ∧ L[L.length - 1]? = some x ∧ L.getLast? = some x ∧ b = true)
def lastV (x : Fc) (b : Bool) : Value := .tuple #[.agg #[.int .i64 x.num, .slice x.X x.l.length x.c, .int .i64 x.s], .bool b]
theorem LastIs.ways (L : List Fc) : ∃ x b, LastIs L x b := by
  by_cases hL : L = []
  · exact ⟨Fc.zero, false, .inl ⟨hL, rfl, rfl⟩⟩
  · obtain ⟨x, h1, h2⟩ := Jn.getLast_at hL
    exact ⟨x, true, .inr ⟨hL, h1, h2, rfl⟩⟩

set_option maxRecDepth 100000 in
set_option maxHeartbeats 1600000 in
theorem dlastOf_any (room : Int) (A : Option Addr) (c : Nat) (L : List Fc) (x : Fc) (k : Bool) (w : World) (h : OneD w A c L) (hx : LastIs L x k) :
    Calls Tryd.prog 34 #[.agg #[.int .i64 room, .slice A L.length c]] w (Says (lastV x k) w) := by
  have bn := below_new (below_new (Below.refl w.heap.size w) (.cells #[.int .i64 room, .slice A L.length c] 24)) (.cells #[.int .i64 0, .slice none 0 0, .int .i64 0] 50)
  have B0 := Lib.hid ((Blk.new w 24 #[.int .i64 room, .slice A L.length c]).alloc (.cells #[.int .i64 0, .slice none 0 0, .int .i64 0] 50))
  have B1 := Lib.hid (show Blk _ (w.heap.size + 1) 50 #[.int .i64 0, .slice none 0 0, .int .i64 0] from by simpa using Blk.new (w.alloc (.cells #[.int .i64 room, .slice A L.length c] 24)) 50 #[.int .i64 0, .slice none 0 0, .int .i64 0])
  have HD := Lib.hid h
  have hlen := h.len
  clear h
  unfold lastV
  rcases hx with ⟨rfl, rfl, rfl⟩ | ⟨hL, hx, -, rfl⟩
  · unfold Fc.zero
    dsimp only
    have c0 := B0.out.cell (i := 0) rfl
    have c1 := B0.out.cell (i := 1) rfl
    have z' := B1.out
    have y0 := z'.cell (i := 0) rfl
    have y1 := z'.cell (i := 1) rfl
    have y2 := z'.cell (i := 2) rfl
    have s0 := z'.free 0
    have s1 := z'.free 1
    have s2 := z'.free 2
    have hz := ((z'.put 0 (.int .i64 0)).put 1 (.slice none 0 0)).put 2 (.int .i64 0)
    have z0 := Lib.hid (hz.cell (i := 0) rfl)
    have z1 := Lib.hid (hz.cell (i := 1) rfl)
    have z2 := Lib.hid (hz.cell (i := 2) rfl)
    have FIN := Lib.hid (((bn.setCell (p := ⟨w.heap.size + 1, 0, none⟩) (by show w.heap.size ≤ w.heap.size + 1; omega) (.int .i64 0)).setCell (p := ⟨w.heap.size + 1, 1, none⟩) (by show w.heap.size ≤ w.heap.size + 1; omega) (.slice none 0 0)).setCell (p := ⟨w.heap.size + 1, 2, none⟩) (by show w.heap.size ≤ w.heap.size + 1; omega) (.int .i64 0))
    clear z' hz HD hlen bn B0 B1
    go_enter Tryd.func34, Tryd.ntmps34
    go_upto_region 1 with (fail)
    obtain ⟨W1, hW1⟩ : ∃ W1, (w.alloc (.cells #[.int .i64 room, .slice A 0 c] 24)).alloc (.cells #[.int .i64 0, .slice none 0 0, .int .i64 0] 50) = W1 := ⟨_, rfl⟩
    simp only [List.length_nil] at c0 c1 y0 y1 y2 s0 s1 s2 z0 z1 z2 FIN
    rw [hW1] at c0 c1 y0 y1 y2 s0 s1 s2 z0 z1 z2 FIN ⊢
    clear hW1
    go_wp2
    have z0 := z0.out
    have z1 := z1.out
    have z2 := z2.out
    exact bodyPost_ret (v := .tuple #[.agg #[.int .i64 0, .slice none 0 0, .int .i64 0], .bool false]) (by simp [results, Tryd.results34, go_sem, z0, z1, z2]) rfl ⟨rfl, FIN.out⟩
  · have hl0 : 0 < L.length := List.length_pos_iff.2 hL
    obtain ⟨b, off, hA, hc⟩ := HD.out.at hL
    obtain ⟨u0, u1, u2⟩ := hc _ _ hx
    subst hA
    obtain ⟨m, hm⟩ : ∃ m, L.length = m + 1 := ⟨L.length - 1, by omega⟩
    rw [hm] at B0 B1 bn ⊢
    rw [show L.length - 1 = m from by omega] at u0 u1 u2
    have hm0 : m + 1 ≤ 9223372036854775807 := by omega
    obtain ⟨num, X, cx, l, sr⟩ := x
    dsimp only at u0 u1 u2 ⊢
    have e0 := cell_later bn u0
    have e1 := cell_later bn u1
    have e2 := cell_later bn u2
    clear hc hL hx hlen HD hm hl0 u0 u1 u2
    have hz : ((m + 1 : Nat) : Int) - 1 = (m : Int) := by omega
    have i0 : (0 : Int) ≤ (m : Int) := by omega
    have i1 : (m : Int) < ((m + 1 : Nat) : Int) := by omega
    have ne0 : decide (((m + 1 : Nat) : Int) = 0) = false := decide_eq_false (by omega)
    have ne1 : (((m + 1 : Nat) : Int) == 0) = false := by rw [beq_eq_false_iff_ne]; omega
    have c0 := B0.out.cell (i := 0) rfl
    have c1 := B0.out.cell (i := 1) rfl
    have z' := B1.out
    have y0 := z'.cell (i := 0) rfl
    have y1 := z'.cell (i := 1) rfl
    have y2 := z'.cell (i := 2) rfl
    have s0 := z'.free 0
    have s1 := z'.free 1
    have s2 := z'.free 2
    have hz := ((z'.put 0 (.int .i64 num)).put 1 (.slice X l.length cx)).put 2 (.int .i64 sr)
    have z0 := Lib.hid (hz.cell (i := 0) rfl)
    have z1 := Lib.hid (hz.cell (i := 1) rfl)
    have z2 := Lib.hid (hz.cell (i := 2) rfl)
    have FIN := Lib.hid (((bn.setCell (p := ⟨w.heap.size + 1, 0, none⟩) (by show w.heap.size ≤ w.heap.size + 1; omega) (.int .i64 num)).setCell (p := ⟨w.heap.size + 1, 1, none⟩) (by show w.heap.size ≤ w.heap.size + 1; omega) (.slice X l.length cx)).setCell (p := ⟨w.heap.size + 1, 2, none⟩) (by show w.heap.size ≤ w.heap.size + 1; omega) (.int .i64 sr))
    clear z' hz bn B0 B1
    go_enter Tryd.func34, Tryd.ntmps34
    go_upto_region 1 with (fail)
    obtain ⟨W1, hW1⟩ : ∃ W1, (w.alloc (.cells #[.int .i64 room, .slice (some ⟨b, off, none⟩) (m + 1) c] 24)).alloc (.cells #[.int .i64 0, .slice none 0 0, .int .i64 0] 50) = W1 := ⟨_, rfl⟩
    rw [hW1] at c0 c1 y0 y1 y2 s0 s1 s2 z0 z1 z2 e0 e1 e2 FIN ⊢
    clear hW1
    go_wp2
    have z0 := z0.out
    have z1 := z1.out
    have z2 := z2.out
    exact bodyPost_ret (v := .tuple #[.agg #[.int .i64 num, .slice X l.length cx, .int .i64 sr], .bool true]) (by simp [results, Tryd.results34, go_sem, z0, z1, z2]) rfl ⟨rfl, FIN.out⟩

set_option maxRecDepth 100000 in
set_option maxHeartbeats 1600000 in
theorem dlast_any (room : Int) (A : Option Addr) (c : Nat) (L : List Fc) (w : World) (h : OneD w A c L) :
    Calls Tryd.prog 13 #[.agg #[.int .i64 room, .slice A L.length c]] w (Says (.int .i64 (Jn.lastR room (L.map Fc.fi))) w) := by
  have bn := below_new (Below.refl w.heap.size w) (.cells #[.int .i64 room, .slice A L.length c] 24)
  obtain ⟨x, k, hx⟩ := LastIs.ways L
  have n1 := dlastOf_any room A c L x k _ (h.later bn) hx
  unfold lastV at n1
  have N := Lib.hid n1
  have HD := Lib.hid h
  have B0 := Lib.hid (Blk.new w 24 #[.int .i64 room, .slice A L.length c])
  have BN := Lib.hid bn
  clear n1 h bn
  rcases hx with ⟨rfl, rfl, rfl⟩ | ⟨hL, hx, hx2, rfl⟩
  · have hR : Jn.lastR room (([] : List Fc).map Fc.fi) = -1 := by unfold Jn.lastR; split <;> rfl
    rw [hR]
    unfold Fc.zero at N
    dsimp only at N
    clear hR HD
    go_enter Tryd.func13, Tryd.ntmps13
    go_wp2_with fail
    refine N.out.mono ?_
    rintro e w1 ⟨rfl, b1⟩
    have BB := Lib.hid (below_new (below_on BN.out b1) (.cells #[.int .i64 0, .slice none 0 0, .int .i64 0] 50))
    clear b1 N B0 BN
    go_wp2
    go_ret
    exact ⟨rfl, BB.out⟩
  · cases hq : Dk.fmd room (L.map Fc.fi) with
    | false =>
      have hR : Jn.lastR room (L.map Fc.fi) = -1 := by unfold Jn.lastR; rw [if_neg (by rw [hq]; exact Bool.false_ne_true)]
      rw [hR]
      have HQ := Lib.hid hq
      clear hR hq hx hx2 hL
      go_enter Tryd.func13, Tryd.ntmps13
      go_wp2_with fail
      refine N.out.mono ?_
      rintro e w1 ⟨rfl, b1⟩
      have bb := below_new (Below.refl w1.heap.size w1) (.cells #[.int .i64 x.num, .slice x.X x.l.length x.c, .int .i64 x.s] 50)
      have BB := Lib.hid (below_on (below_on BN.out b1) bb)
      have c0 := ((B0.out.later b1).later bb).cell (i := 0) rfl
      have c1 := ((B0.out.later b1).later bb).cell (i := 1) rfl
      have FM := dformed_any room A c L _ (HD.out.later BB.out)
      rw [HQ.out] at FM
      have NF := Lib.hid FM
      obtain ⟨W1, hW1⟩ : ∃ W1, w1.alloc (.cells #[.int .i64 x.num, .slice x.X x.l.length x.c, .int .i64 x.s] 50) = W1 := ⟨_, rfl⟩
      rw [hW1] at c0 c1 NF BB
      clear b1 bb N B0 BN FM
      go_upto_region 2 with (fail)
      try rw [hW1]
      clear hW1
      go_wp2_with fail
      refine NF.out.mono ?_
      rintro e w2 ⟨rfl, b2⟩
      have BB2 := Lib.hid (below_on BB.out b2)
      clear b2
      go_wp2
      go_ret
      exact ⟨rfl, BB2.out⟩
    | true =>
      have hR : Jn.lastR room (L.map Fc.fi) = x.num := by unfold Jn.lastR; rw [if_pos hq, List.getLast?_map, hx2]; rfl
      rw [hR]
      have HQ := Lib.hid hq
      clear hR hq hx hx2 hL
      go_enter Tryd.func13, Tryd.ntmps13
      go_wp2_with fail
      refine N.out.mono ?_
      rintro e w1 ⟨rfl, b1⟩
      have bb := below_new (Below.refl w1.heap.size w1) (.cells #[.int .i64 x.num, .slice x.X x.l.length x.c, .int .i64 x.s] 50)
      have BB := Lib.hid (below_on (below_on BN.out b1) bb)
      have c0 := ((B0.out.later b1).later bb).cell (i := 0) rfl
      have c1 := ((B0.out.later b1).later bb).cell (i := 1) rfl
      have X1 := Lib.hid (Blk.new w1 50 #[.int .i64 x.num, .slice x.X x.l.length x.c, .int .i64 x.s])
      have FM := dformed_any room A c L _ (HD.out.later BB.out)
      rw [HQ.out] at FM
      have NF := Lib.hid FM
      obtain ⟨W1, hW1⟩ : ∃ W1, w1.alloc (.cells #[.int .i64 x.num, .slice x.X x.l.length x.c, .int .i64 x.s] 50) = W1 := ⟨_, rfl⟩
      rw [hW1] at c0 c1 NF BB X1
      clear b1 bb N B0 BN FM
      go_upto_region 2 with (fail)
      try rw [hW1]
      clear hW1
      go_wp2_with fail
      refine NF.out.mono ?_
      rintro e w2 ⟨rfl, b2⟩
      have BB2 := Lib.hid (below_on BB.out b2)
      have x0 := (X1.out.later b2).cell (i := 0) rfl
      clear b2 c0 c1
      go_wp2
      go_ret
      exact ⟨rfl, BB2.out⟩

/-- Does a frame of n bytes go into the last segment? -/
def fitsV (L : List Fc) (n : Nat) : Bool := match L.getLast? with | none => false | some x => decide (x.l.length = 0) || decide (wrap64 ((x.l.length : Int) + (n : Int)) ≤ 512)

set_option maxRecDepth 100000 in
set_option maxHeartbeats 1600000 in
theorem dfits_any (room : Int) (A B : Option Addr) (c n cb : Nat) (L : List Fc) (w : World) (h : OneD w A c L) :
    Calls Tryd.prog 28 #[.agg #[.int .i64 room, .slice A L.length c], .slice B n cb] w (Says (.bool (fitsV L n)) w) := by
  have bn := below_new (Below.refl w.heap.size w) (.cells #[.int .i64 room, .slice A L.length c] 24)
  obtain ⟨x, k, hx⟩ := LastIs.ways L
  have n1 := dlastOf_any room A c L x k _ (h.later bn) hx
  unfold lastV at n1
  have N := Lib.hid n1
  have B0 := Lib.hid (Blk.new w 24 #[.int .i64 room, .slice A L.length c])
  have BN := Lib.hid bn
  have hxl : x.l.length ≤ 9223372036854775807 := by
    rcases hx with ⟨-, rfl, -⟩ | ⟨-, hx, -, -⟩
    · exact Nat.zero_le _
    · exact (h.one hx).len
  clear n1 h bn
  rcases hx with ⟨rfl, rfl, rfl⟩ | ⟨hL, hx, hx2, rfl⟩
  · have hR : fitsV ([] : List Fc) n = false := rfl
    rw [hR]
    unfold Fc.zero at N
    dsimp only at N
    clear hR hxl
    go_enter Tryd.func28, Tryd.ntmps28
    go_wp2_with fail
    refine N.out.mono ?_
    rintro e w1 ⟨rfl, b1⟩
    have BB := Lib.hid (below_new (below_on BN.out b1) (.cells #[.int .i64 0, .slice none 0 0, .int .i64 0] 50))
    clear b1 N B0 BN
    go_wp2
    go_ret
    exact ⟨rfl, BB.out⟩
  · by_cases h0 : x.l.length = 0
    · have hR : fitsV L n = true := by unfold fitsV; rw [hx2]; dsimp only; rw [decide_eq_true h0]; rfl
      rw [hR]
      rw [h0] at N
      clear hR hxl h0 hx hx2 hL
      go_enter Tryd.func28, Tryd.ntmps28
      go_wp2_with fail
      refine N.out.mono ?_
      rintro e w1 ⟨rfl, b1⟩
      have BB := Lib.hid (below_new (below_on BN.out b1) (.cells #[.int .i64 x.num, .slice x.X 0 x.c, .int .i64 x.s] 50))
      clear b1 N B0 BN
      go_wp2
      go_ret
      exact ⟨rfl, BB.out⟩
    · obtain ⟨m, hm⟩ : ∃ m, x.l.length = m := ⟨_, rfl⟩
      obtain ⟨s, hs⟩ : ∃ s, wrap64 ((m : Int) + (n : Int)) = s := ⟨_, rfl⟩
      have hR : fitsV L n = decide (s ≤ 512) := by unfold fitsV; rw [hx2]; dsimp only; rw [decide_eq_false h0, hm, hs]; rfl
      rw [hR]
      rw [hm] at N h0 hxl
      have d0 : decide ((m : Int) = 0) = false := decide_eq_false (by omega)
      have d1 : ((m : Int) == 0) = false := by rw [beq_eq_false_iff_ne]; omega
      clear hR hx hx2 hL hm
      go_enter Tryd.func28, Tryd.ntmps28
      go_wp2_with fail
      refine N.out.mono ?_
      rintro e w1 ⟨rfl, b1⟩
      have BB := Lib.hid (below_new (below_on BN.out b1) (.cells #[.int .i64 x.num, .slice x.X m x.c, .int .i64 x.s] 50))
      clear b1 N B0 BN
      go_wp2
      go_ret
      exact ⟨rfl, BB.out⟩
end Go.Proofs.YtkhggofcbdcliaaDoor
