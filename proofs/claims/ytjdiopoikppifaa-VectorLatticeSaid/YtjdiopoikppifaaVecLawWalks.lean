/-
  VectorWalks walked from the contract of vector's All: the function that it answers comes by the vector of the list's counts.
-/
import Derived.RangeFuncFrom
import Derived.RangeFuncNested
import Derived.RangeFuncBound
import Derived.RangeFuncCalls
import Derived.RangeFuncLeaves
import Derived.Shelf.Abstract
import Derived.Shelf.RegionOpen
import Derived.OwnWalkIn
import Derived.TacticsInMore
import Derived.LoopNIn
import Derived.LoopIn
import Derived.Test.YtjdiopoikppifaaVecLawWiths
namespace Go.Proofs.Ytjdiopoikppifaa
open Go.RowKit Go.Shelf
attribute [local go_sem] Oper.semAt_some

/-- What a round keeps: all that lay before the statement's call, and the blocks from B to E (the iterator's own). -/
def Keep (n₀ B E : Nat) (W W' : World) : Prop := Below n₀ W W' ∧ ∀ k, B ≤ k → k < E → W'.heap[k]? = W.heap[k]?
theorem Keep.refl (n₀ B E : Nat) (W : World) : Keep n₀ B E W W := ⟨Below.refl _ _, fun _ _ _ => rfl⟩
theorem Keep.trans {n₀ B E : Nat} {W1 W2 W3 : World} (h : Keep n₀ B E W1 W2) (h' : Keep n₀ B E W2 W3) : Keep n₀ B E W1 W3 := ⟨h.1.trans h'.1, fun k h1 h2 => (h'.2 k h1 h2).trans (h.2 k h1 h2)⟩

def told (x : Int × Int) : Array Value := #[.int .i64 x.2, .int .i64 x.1]
/-- What is asked of All. -/
def AllSpec : Prop := ∀ (A : Option Addr) (c : Nat) (l : List (Int × Int)) (w0 w : World), OneL w0 A c l → Below w0.heap.size w0 w →
  Calls Try.prog 31 #[.slice A l.length c] w fun e w1 => ∃ gf lb, e = .returned (.func (.func gf) #[] lb) ∧ Below w.heap.size w w1 ∧ (∀ args w, (callFunc gf args).run Try.prog w = .ok (.enter gf args) w) ∧
    SeqStopsK Fence.wide 2 Try.prog gf lb told (Keep w0.heap.size w.heap.size w1.heap.size) (· = Ve.ofL (Ve.cnt l)) (· <+: Ve.ofL (Ve.cnt l)) 64 w1

set_option maxRecDepth 100000 in
set_option maxHeartbeats 3200000 in
theorem lawWalks_any (S : VecSpec) (T : AllSpec) (A : Option Addr) (c : Nat) (l : List (Int × Int)) (most : Int) (w : World) (h1 : OneL w A c l) :
    Calls Try.prog 7 #[.slice A l.length c, .int .i64 most] w (Says (.bool true) w) := by
  refine (callsIn_wide (n := 3)).1 ?_
  refine callsIn_of_wp_marks Try.func7 rfl trivial ?_ rfl
  simp only [Try.ntmps7, List.size_toArray, List.length_cons, List.length_nil, Nat.reduceAdd, Nat.reduceSub, Array.replicate_succ, Array.replicate_zero, List.push_toArray, List.append_toArray, List.nil_append, List.cons_append]
  have n0 := alive_any S
  have N0 := Lib.hid n0
  have n1 := fun wx (hx : OneL wx A c l) => rtwo_any A none c 0 l [] wx hx OneL.nil
  rw [Ve.joinL_none] at n1
  have n2 := T A c l w
  have hJlen := Ve.ofL_len (Ve.cnt l)
  obtain ⟨J, hJ⟩ : ∃ J, Ve.ofL (Ve.cnt l) = J := ⟨_, rfl⟩
  rw [hJ] at n1 n2 hJlen
  have N1 := Lib.hid n1
  have N2 := Lib.hid n2
  have H1 := Lib.hid h1
  have hb0 := below_new (below_new (Below.refl w.heap.size w) (.cells #[.int .i64 most] 3)) (.cells #[.bool false] 4)
  have hB0 := (Blk.new w 3 #[.int .i64 most]).alloc (.cells #[.bool false] 4)
  have hB1 := Blk.new (w.alloc (.cells #[.int .i64 most] 3)) 4 #[.bool false]
  rw [show (w.alloc (.cells #[.int .i64 most] 3)).heap.size = w.heap.size + 1 from by simp] at hB1
  obtain ⟨W, hW⟩ : ∃ W, (w.alloc (.cells #[.int .i64 most] 3)).alloc (.cells #[.bool false] 4) = W := ⟨_, rfl⟩
  rw [hW] at hb0 hB0 hB1
  have HW := Lib.hid hW
  clear n0 n1 n2 h1 hJ hW
  gi_wp2_with fail
  rw [HW.out]
  clear HW
  refine ⟨trivial, (callsIn_wide.2 (N0.out _)).mono ?_⟩
  rintro e w1 ⟨rfl, b1⟩
  have bb1 := below_on hb0 b1
  have C0 := hB0.later b1
  have C1 := hB1.later b1
  have L1 := Lib.hid (H1.out.later bb1)
  have NB0 := Lib.hid hB0
  clear N0 hB0 hB1
  gi_wp2_with fail
  refine ⟨trivial, (callsIn_wide.2 (N1.out _ L1.out)).mono ?_⟩
  rintro e w2 hg
  obtain ⟨D, d, rfl, hO, b2⟩ := hg.ans
  have bb2 := below_on bb1 b2
  have D0 := C0.later b2
  have D1 := C1.later b2
  have hlt1 := D1.lt
  have HD0 := Lib.hid D0
  have HD1 := Lib.hid D1
  have HO := Lib.hid hO
  clear hg hO C0 C1 L1 N1
  gi_wp2_with fail
  have F0 := ((D0.alloc (.cells #[.slice D J.length d] 22)).alloc (.cells #[.int .i64 0] 3))
  have F1 := ((D1.alloc (.cells #[.slice D J.length d] 22)).alloc (.cells #[.int .i64 0] 3))
  have F2 := (Blk.new w2 22 #[.slice D J.length d]).alloc (.cells #[.int .i64 0] 3)
  have F3 := Blk.new (w2.alloc (.cells #[.slice D J.length d] 22)) 3 #[.int .i64 0]
  rw [show (w2.alloc (.cells #[.slice D J.length d] 22)).heap.size = w2.heap.size + 1 from by simp] at F3
  have bb3 : Below w2.heap.size w2 ((w2.alloc (.cells #[.slice D J.length d] 22)).alloc (.cells #[.int .i64 0] 3)) := below_new (below_new (Below.refl _ _) _) _
  have z3 : ((w2.alloc (.cells #[.slice D J.length d] 22)).alloc (.cells #[.int .i64 0] 3)).heap.size = w2.heap.size + 2 := by simp
  obtain ⟨W3, hW3⟩ : ∃ W3, (w2.alloc (.cells #[.slice D J.length d] 22)).alloc (.cells #[.int .i64 0] 3) = W3 := ⟨_, rfl⟩
  rw [hW3] at F0 F1 F2 F3 bb3 z3
  rw [hW3]
  clear hW3 D0 D1
  refine ⟨trivial, (callsIn_wide.2 (N2.out W3 H1.out (below_on bb2 bb3))).mono ?_⟩
  rintro e w4 ⟨gf, lb, rfl, b4, hent, hseq⟩
  have G0 := F0.later b4
  have G1 := F1.later b4
  have G2 := F2.later b4
  have G3 := F3.later b4
  have bb4 := below_on bb3 b4
  have z4 := b4.size
  have g0 := G0.cell (i := 0) rfl
  have g1 := G1.cell (i := 0) rfl
  have g1f := G1.free 0
  have g2 := G2.cell (i := 0) rfl
  have g3 := G3.cell (i := 0) rfl
  have g3f := G3.free 0
  have hz2 := bb2.size
  clear F0 F1 F2 F3 G0 G1 G2 G3 N2 b4
  gi_wp2_with fail
  refine wpIn_rangeFunc_ownF rfl (by omega) (gf := gf) (lb := lb) rfl trivial hent hseq Keep.trans ?hKb (Below.refl _ _) (fun _ => rfl)
    (fun pre W => ((pre <+: J ∧ W.cell? ⟨w2.heap.size + 1, 0, none⟩ = some (.int .i64 (pre.length : Int)) ∧ W.frozen? ⟨w2.heap.size + 1, 0, none⟩ = false) ∧ W.cell? ⟨w2.heap.size, 0, none⟩ = some (.slice D J.length d)) ∧ Below w2.heap.size w2 W)
    (fun c pre W => (c = .ret ∧ (pre <+: J → W.cell? ⟨w.heap.size + 1, 0, none⟩ = some (.bool true))) ∧ Below w.heap.size w W)
    ?hI ?hIx ?h0
    (fun x => { tmps := #[.slice A l.length c, .int .i64 most, undef, .pointer (some ⟨w.heap.size, 0, none⟩), .pointer (some ⟨w.heap.size + 1, 0, none⟩), .pointer (some ⟨w2.heap.size, 0, none⟩), .pointer (some ⟨w2.heap.size + 1, 0, none⟩), .int .i64 x.2, .int .i64 x.1, .bool true, .bool false, .slice A l.length c, .slice D J.length d, .slice A l.length c, .func (.func gf) #[] lb, .int .i64 x.2, .int .i64 x.1, undef, undef, undef, undef, undef, undef, undef, undef, undef, undef, undef, undef, undef, undef, undef, undef, undef, undef, undef, undef, undef, undef, undef], defers := [] }) ?assign ?body ?done ?stop
  case hKb =>
    intro W l' o o' hl ho h1 h2
    refine ⟨belowK_b (w := w4) (by omega) W l' o o' hl ho h1 h2, fun k _ hk => ?_⟩
    have : l' ≠ k := by omega
    simp [World.putObj, this]
  case hI => exact OwnFrom.and (Own.from (fun s A B row hs hg hr => ⟨⟨hs.1.1, cell_kept hs.1.2.1 hg hr, (frozen_kept hs.1.2.1 hg hr).trans hs.1.2.2⟩, cell_kept hs.2 hg hr⟩) _) (ownFrom_below (Nat.le_refl _) (by omega))
  case hIx => exact fun c' => OwnFrom.and (Own.from (fun s A B row hs hg hr => ⟨hs.1, fun h => cell_kept (hs.2 h) hg hr⟩) _) (ownFrom_below (Nat.le_refl _) (by omega))
  case h0 => exact ⟨⟨⟨List.nil_prefix, g3, g3f⟩, g2⟩, bb4⟩
  case assign =>
    intro l' x W K hK
    unfold told
    gi_wp2
    exact hK
  case body =>
    rintro l' pre x W ⟨⟨⟨hp, hk, hkf⟩, hwant⟩, hB⟩ hlen
    have R0 := HD0.out.later hB
    have R1 := HD1.out.later hB
    have r0 := R0.cell (i := 0) rfl
    have r1 := R1.cell (i := 0) rfl
    have r1f := R1.free 0
    have HR1 := Lib.hid R1
    have hBw := below_on bb2 hB
    have hpl := hp.length_le
    have hOW := HO.out.later hB
    have HOW := Lib.hid hOW
    have HP := Lib.hid hp
    clear R0 R1 HD0 HD1 HO g0 g1 g1f g2 g3 g3f hp hOW
    by_cases hlt : pre.length < J.length
    · have hne : J ≠ [] := fun e => by subst e; simp at hlt
      obtain ⟨b, off, hD, hc⟩ := HOW.out.stamps hne
      subst hD
      obtain ⟨e0, e1⟩ := hc pre.length hlt
      obtain ⟨y, hy⟩ : ∃ y, J.getD pre.length (0, 0) = y := ⟨_, rfl⟩
      rw [hy] at e0 e1
      have hi0 : (0 : Int) ≤ (pre.length : Int) := by omega
      have hi1 : (pre.length : Int) < (J.length : Int) := by omega
      have hn1 : ¬ ((J.length : Int) ≤ (pre.length : Int)) := by omega
      have HY := Lib.hid hy
      clear hc hy
      obtain ⟨x1, x2⟩ := x
      obtain ⟨y1, y2⟩ := y
      have hin : pre ++ [(x1, x2)] <+: J ↔ (y1, y2) = (x1, x2) := by
        obtain ⟨t, ht⟩ := HP.out
        have hg : J.getD pre.length (0, 0) = t.getD 0 (0, 0) := by
          rw [← ht, List.getD_eq_getElem?_getD, List.getElem?_append_right (Nat.le_refl _), Nat.sub_self, List.getD_eq_getElem?_getD]
        rw [HY.out] at hg
        constructor
        · rintro ⟨r, hr⟩
          rw [List.append_assoc] at hr
          have h2 := List.append_cancel_left (ht.trans hr.symm)
          rw [hg, h2]
          rfl
        · intro h
          cases t with
          | nil => rw [List.append_nil] at ht; rw [ht] at hlt; omega
          | cons z t =>
            refine ⟨t, ?_⟩
            rw [← h, hg, List.append_assoc]
            exact ht
      have HIN := Lib.hid hin
      clear hin
      have hno : ∀ v, (y1, y2) ≠ (x1, x2) → KeepsOthers W (W.setCell ⟨w.heap.size + 1, 0, none⟩ v) ∧ (pre ++ [(x1, x2)] <+: J → (W.setCell ⟨w.heap.size + 1, 0, none⟩ v).cell? ⟨w.heap.size + 1, 0, none⟩ = some (.bool true)) ∧ Below w.heap.size w (W.setCell ⟨w.heap.size + 1, 0, none⟩ v) := fun v hne' =>
        ⟨KeepsOthers.setCell _ _ _, fun h => absurd (HIN.out.1 h) hne', hBw.setCell (p := ⟨w.heap.size + 1, 0, none⟩) (by simp) _⟩
      have HNO := Lib.hid hno
      clear hno
      by_cases hx1 : y1 = x1
      · by_cases hx2 : y2 = x2
        · subst hx1 hx2
          by_cases hm : (pre.length : Int) + 1 = most
          · have hmb : ((pre.length : Int) + 1 == most) = true := beq_iff_eq.2 hm
            have hk2 : ∀ v, ((W.setCell ⟨w2.heap.size + 1, 0, none⟩ v).setCell ⟨w.heap.size + 1, 0, none⟩ (.bool true)).cell? ⟨w.heap.size + 1, 0, none⟩ = some (.bool true) := fun v => ((HR1.out.far (p := ⟨w2.heap.size + 1, 0, none⟩) (by show w.heap.size + 1 ≠ w2.heap.size + 1; omega) v).put 0 (.bool true)).cell rfl
            have HK2 := Lib.hid hk2
            clear hk2
            gi_wp2
            exact ⟨(KeepsOthers.setCell _ _ _).trans (KeepsOthers.setCell _ _ _), ⟨rfl, fun _ => HK2.out _⟩, (hBw.setCell (p := ⟨w2.heap.size + 1, 0, none⟩) (by show w.heap.size ≤ w2.heap.size + 1; omega) _).setCell (p := ⟨w.heap.size + 1, 0, none⟩) (by simp) _⟩
          · have hmb : ((pre.length : Int) + 1 == most) = false := beq_eq_false_iff_ne.2 hm
            have q1 : ∀ v, (W.setCell ⟨w2.heap.size + 1, 0, none⟩ v).cell? ⟨w2.heap.size + 1, 0, none⟩ = some v := fun v => World.cell?_setCell_same' _ _ _ (by rw [hk]; rfl)
            have q2 : ∀ v, (W.setCell ⟨w2.heap.size + 1, 0, none⟩ v).cell? ⟨w2.heap.size, 0, none⟩ = some (.slice (some ⟨b, off, none⟩) J.length d) := fun v => (World.cell?_of_block (Below.heap_setCell W ⟨w2.heap.size + 1, 0, none⟩ v w2.heap.size (by show w2.heap.size ≠ w2.heap.size + 1; omega))).trans hwant
            have q3 : ∀ v, (W.setCell ⟨w2.heap.size + 1, 0, none⟩ v).frozen? ⟨w2.heap.size + 1, 0, none⟩ = false := fun v => by rw [World.frozen?_setCell]; exact hkf
            have Q1 := Lib.hid q1
            have Q2 := Lib.hid q2
            have Q3 := Lib.hid q3
            clear q1 q2 q3 hm
            gi_wp2
            refine ⟨KeepsOthers.setCell _ _ _, ⟨(Below.refl _ _).setCell (p := ⟨w2.heap.size + 1, 0, none⟩) (by show w.heap.size ≤ w2.heap.size + 1; omega) _, fun k h1 _ => Below.heap_setCell W ⟨w2.heap.size + 1, 0, none⟩ _ k (by show k ≠ w2.heap.size + 1; omega)⟩, ⟨⟨HIN.out.2 (by first | rfl | trivial), ?_, Q3.out _⟩, Q2.out _⟩, hB.setCell (p := ⟨w2.heap.size + 1, 0, none⟩) (by simp) _⟩
            rw [List.length_append]
            exact Q1.out _
        · have hb2 : (y2 == x2) = false := beq_eq_false_iff_ne.2 hx2
          subst hx1
          gi_wp2
          have hq := HNO.out (.bool false) (fun e => hx2 (by injection e))
          exact ⟨hq.1, ⟨rfl, hq.2.1⟩, hq.2.2⟩
      · have hb1 : (y1 == x1) = false := beq_eq_false_iff_ne.2 hx1
        gi_wp2
        have hq := HNO.out (.bool false) (fun e => hx1 (by injection e))
        exact ⟨hq.1, ⟨rfl, hq.2.1⟩, hq.2.2⟩
    · have hi1 : ((J.length : Int) ≤ (pre.length : Int)) := by omega
      gi_wp2
      exact ⟨KeepsOthers.setCell _ _ _, ⟨rfl, fun h => by have := h.length_le; simp at this; omega⟩, hBw.setCell (p := ⟨w.heap.size + 1, 0, none⟩) (by simp) _⟩
  case done =>
    rintro DD ys W hDD hys ⟨⟨⟨hp, hk, hkf⟩, hwant⟩, hB⟩ hK
    rw [hys] at hk
    have R1 := HD1.out.later hB
    have r1 := R1.cell (i := 0) rfl
    have r1f := R1.free 0
    have hBw := below_on bb2 hB
    have hz := hB.size
    have hend : ∀ v, (W.setCell ⟨w.heap.size + 1, 0, none⟩ v).cell? ⟨w.heap.size + 1, 0, none⟩ = some v := fun v => World.cell?_setCell_same' _ _ _ (by rw [r1]; rfl)
    have HE := Lib.hid hend
    clear hend R1 g0 g1 g1f g2 g3 g3f hp hys
    gi_wp2
    have hK' := (KeepsOthers.setCell W ⟨w.heap.size + 1, 0, none⟩ (.bool true)).same DD _ hK rfl
    refine ⟨by simp, .inl ⟨_, _, rfl, run_takeDeferred hK', ?_⟩⟩
    have hc5 := cell_kept (HE.out (.bool true)) (grownBy_putObj' _ DD (.deferred none)) (fun r e => by cases e; exact ⟨_, hK', rfl⟩)
    refine ⟨.bool true, ?_, rfl, (hBw.setCell (p := ⟨w.heap.size + 1, 0, none⟩) (by simp) _).trans (belowK_b (w := w) (Nat.le_refl _) _ DD _ _ (by omega) hK' rfl rfl)⟩
    simp [results, Try.f7, go_sem, hc5]
  case stop =>
    rintro DD c' pre W hDD hpre ⟨⟨rfl, hin⟩, hB⟩ hK
    have hr := hin hpre
    have hz := hB.size
    clear g0 g1 g1f g2 g3 g3f hin
    gi_wp2
    refine ⟨by simp, .inl ⟨_, _, rfl, run_takeDeferred hK, ?_⟩⟩
    have hc5 := cell_kept hr (grownBy_putObj' _ DD (.deferred none)) (fun r e => by cases e; exact ⟨_, hK, rfl⟩)
    refine ⟨.bool true, ?_, rfl, hB.trans (belowK_b (w := w) (Nat.le_refl _) W DD _ _ (by omega) hK rfl rfl)⟩
    simp [results, Try.f7, go_sem, hc5]

end Go.Proofs.Ytjdiopoikppifaa
