/-
  The function that goes over 64 counts: whatever the loop's body does, the nodes with a count above 0 come, rising.
  What vector's countsOf answers of any list in memory: of each node the count of its first right stamp. And the function value over it.
  VectorWiths walked from vector's contracts.
  VectorWalks walked from the contract of vector's All: the function that it answers comes by the vector of the list's counts.
-/
import Derived.Test.YtcfkpjbakccgiaaG16
import Derived.RangeFuncFrom
import Derived.RangeFuncNested
import Derived.RangeFuncBound
import Derived.RangeFuncCalls
import Derived.RangeFuncLeaves
import Derived.Shelf.Abstract
import Derived.Shelf.RegionOpen
import Derived.OwnWalkIn
import Derived.TacticsInMore
import Derived.LoopNIn
import Derived.LoopIn
import Derived.Test.YtcfkpjbakccgiaaG13
namespace Go.Proofs.Ytcfkpjbakccgiaa
open Go.RowKit Go.Shelf
attribute [local go_sem] Oper.semAt_some

/-- What has come when k nodes are over. -/
def comes {α : Type} (g : Nat → α) (f : Nat → Int) : Nat → List α
  | 0 => []
  | k + 1 => comes g f k ++ (if 0 < f k then [g k] else [])
theorem comes_len {α : Type} (g : Nat → α) (f : Nat → Int) : ∀ k, (comes g f k).length ≤ k
  | 0 => Nat.le_refl _
  | k + 1 => by
    have := comes_len g f k
    unfold comes
    split <;> simp <;> omega
theorem comes_yes {α : Type} (g : Nat → α) (f : Nat → Int) (k : Nat) (h : 0 < f k) : comes g f (k + 1) = comes g f k ++ [g k] := by rw [comes, if_pos h]
theorem comes_no {α : Type} (g : Nat → α) (f : Nat → Int) (k : Nat) (h : ¬ 0 < f k) : comes g f (k + 1) = comes g f k := by rw [comes, if_neg h, List.append_nil]

set_option maxRecDepth 100000 in
set_option maxHeartbeats 2000000 in
theorem each1_in {α : Type} (told : α → Array Value) (g : Nat → α) (f : Nat → Int) (ht : ∀ k, k < 64 → told (g k) = #[.int .i64 (k : Int), .int .i64 (f k)]) (F : Fence) (n : Nat) (hf : F.fn 94) (hro : F.round = none) (hn : 1 ≤ n)
    (l B : Nat) (t : TypeId) (Kp : World → World → Prop) (J Jx : List α → World → Prop)
    (hY : ∀ pre x W, J pre W → pre.length < 64 → YieldAt F (n - 1) Try.prog l (told x) W fun e W' => (e = .returned (.bool true) ∧ J (pre ++ [x]) W' ∧ Kp W W') ∨ (e = .returned (.bool false) ∧ Jx (pre ++ [x]) W'))
    (W : World) (hB : Blk W B t (Ve.arr f)) (h0 : J [] W) :
    CallsIn F n Try.prog 94 #[.func (.yield l) #[] #[], .pointer (some ⟨B, 0, none⟩)] W fun e W' => (∃ v, e = .returned v) ∧
      ((∃ ys, ys = comes g f 64 ∧ J ys W') ∨ (∃ pre, (∃ k, k ≤ 64 ∧ pre = comes g f k) ∧ Jx pre W')) := by
  refine callsIn_of_wp Try.func94 rfl hf ?_ hro
  simp only [Try.ntmps94, List.size_toArray, List.length_cons, List.length_nil, Nat.reduceAdd, Nat.reduceSub, Array.replicate_succ, Array.replicate_zero, List.push_toArray, List.append_toArray, List.nil_append, List.cons_append]
  gi_wp2_with (refine in_load_row rfl 92 _ rfl B rfl t _ _ hB Try.underlying92 rfl (by rw [Ve.arr_size]; exact infoC) ?_)
  gi_loopw [6] (fun s6 wr => ∃ k : Nat, k ≤ 64 ∧ s6 = .int .i64 (k : Int) ∧ J (comes g f k) wr) (fun s6 _ => 64 - (intOf s6).toNat)
  case atStart => exact ⟨0, Nat.zero_le _, rfl, h0⟩
  case round =>
    obtain ⟨k, hk, rfl, hJs⟩ := hrel
    by_cases hlt : k < 64
    · have hi0 : (0 : Int) ≤ (k : Int) := by omega
      have hi1 : (k : Int) < 64 := by omega
      have hix := fun w => index_counts f k hlt w
      by_cases hc : 0 < f k
      · obtain ⟨fn, tmps, assign, body, hy, hR⟩ := hY _ (g k) wr hJs (by have := comes_len g f k; omega)
        rw [ht k hlt] at hy
        have hd : decide (0 < f k) = true := decide_eq_true hc
        gi_wp2
        refine hR.mono ?_
        rintro e W3 (⟨rfl, hJ3, hk3⟩ | ⟨rfl, hJx3⟩)
        · gi_wp2
          go_roundw
          case rel => exact ⟨k + 1, by omega, by go_num, by rw [comes_yes g f k hc]; exact hJ3⟩
          case measure => simp [intOf]; omega
        · gi_wp2
          refine bodyPost_ret (results_none rfl _ _ _) rfl ?_
          exact ⟨⟨_, rfl⟩, .inr ⟨_, ⟨k + 1, by omega, (comes_yes g f k hc).symm⟩, hJx3⟩⟩
      · have hd : decide (0 < f k) = false := decide_eq_false hc
        have HC := Lib.hid (comes_no g f k hc)
        gi_wp2
        refine ⟨fun _ h => (by cases h), ?_⟩
        gi_wp2
        go_roundw
        case rel => exact ⟨k + 1, by omega, by go_num, by rw [HC.out]; exact hJs⟩
        case measure => simp [intOf]; omega
    · obtain rfl : k = 64 := by omega
      gi_wp2
      go_end0
      exact ⟨⟨_, rfl⟩, .inl ⟨_, rfl, hJs⟩⟩

end Go.Proofs.Ytcfkpjbakccgiaa
namespace Go.Proofs.Ytcfkpjbakccgiaa
open Go.RowKit

theorem Ve.cnt_snoc (l : List (Int × Int)) (s : Int × Int) (n : Nat) : Ve.cnt (l ++ [s]) n = if Ve.cnt l n = 0 ∧ St.rgt s.1 s.2 = true ∧ s.2 = (n : Int) then s.1 else Ve.cnt l n := by
  induction l with
  | nil => simp [Ve.cnt]
  | cons x r ih =>
    rw [List.cons_append, Ve.cnt, Ve.cnt, ih]
    by_cases h : St.rgt x.1 x.2 = true ∧ x.2 = (n : Int)
    · have hx : 1 ≤ x.1 := by have := h.1; unfold St.rgt at this; exact (of_decide_eq_true this).1
      rw [if_pos h, if_pos h, if_neg (by omega)]
    · rw [if_neg h, if_neg h]
theorem Ve.cnt_take (l : List (Int × Int)) (k : Nat) (h : k < l.length) (n : Nat) : Ve.cnt (l.take (k + 1)) n = if Ve.cnt (l.take k) n = 0 ∧ St.rgt l[k].1 l[k].2 = true ∧ l[k].2 = (n : Int) then l[k].1 else Ve.cnt (l.take k) n := by
  rw [List.take_succ_eq_append_getElem h, Ve.cnt_snoc]

set_option maxRecDepth 100000 in
set_option maxHeartbeats 1600000 in
theorem countsOf_any (A : Option Addr) (cap : Nat) (l : List (Int × Int)) (w : World) (hl : l.length ≤ 9223372036854775807) (h : Stamps w A l) :
    Calls Try.prog 73 #[.slice A l.length cap] w fun e w' => e = .returned (.agg (Ve.arr (Ve.cnt l))) ∧ Below w.heap.size w w' := by
  have HS := Lib.hid h
  clear h
  go_enter Try.func73, Try.ntmps73
  go_wp2_with fail
  rw [← Ve.arr_zero]
  go_loopw [8] (fun s8 wr => ∃ k : Nat, k ≤ l.length ∧ s8 = .int .i64 (k : Int) ∧ Blk wr (w.heap.size + 1) 92 (Ve.arr (Ve.cnt (l.take k))) ∧ Blk wr w.heap.size 92 (Ve.arr fun _ => 0) ∧ Below w.heap.size w wr) (fun s8 _ => l.length - (intOf s8).toNat)
  case atStart =>
    have hb := Blk.new (w.alloc (.cells (Ve.arr fun _ => 0) 92)) 92 (Ve.arr fun _ => 0)
    rw [show (w.alloc (.cells (Ve.arr fun _ => 0) 92)).heap.size = w.heap.size + 1 from by simp] at hb
    exact ⟨0, Nat.zero_le _, rfl, hb, (Blk.new _ _ _).alloc _, below_new (below_new (Below.refl _ _) _) _⟩
  case round =>
    obtain ⟨k, hk, rfl, hB1, hB0, hbw⟩ := hrel
    by_cases hlt : k < l.length
    · have hne : l ≠ [] := fun e => by subst e; simp at hlt
      obtain ⟨b, off, hA, hc⟩ := HS.out hne
      subst hA
      obtain ⟨e0, e1⟩ := hc k hlt
      have hb0 : b < w.heap.size := World.block_lt_of_cell? _ _ e0
      rw [List.getD_eq_getElem?_getD, List.getElem?_eq_getElem hlt, Option.getD_some] at e0 e1
      have f0 := (hbw.cell (p := ⟨b, _, none⟩) hb0).trans e0
      have f1 := (hbw.cell (p := ⟨b, _, none⟩) hb0).trans e1
      have hcd := Ve.cnt_take l k hlt
      have HCD := Lib.hid hcd
      obtain ⟨x, hx⟩ : ∃ x, l[k].1 = x := ⟨_, rfl⟩
      obtain ⟨y, hy⟩ : ∃ y, l[k].2 = y := ⟨_, rfl⟩
      rw [hx] at f0
      rw [hy] at f1
      have HB1 := Lib.hid (hB1.alloc (.cells #[.int .i64 x, .int .i64 y] 53))
      have HB0 := Lib.hid (hB0.alloc (.cells #[.int .i64 x, .int .i64 y] 53))
      have HB2 := Lib.hid (Blk.new wr 53 #[.int .i64 x, .int .i64 y])
      have hbn := below_new hbw (.cells #[.int .i64 x, .int .i64 y] 53)
      have HXY := Lib.hid (show l[k].1 = x ∧ l[k].2 = y from ⟨hx, hy⟩)
      clear e0 e1 hc hcd hB1 hB0 hx hy
      have hi0 : (0 : Int) ≤ (k : Int) := by omega
      have hi1 : (k : Int) < (l.length : Int) := by omega
      have fin : ∀ wx, Blk wx (w.heap.size + 1) 92 (Ve.arr (Ve.cnt (l.take (k + 1)))) → Blk wx w.heap.size 92 (Ve.arr fun _ => 0) → Below w.heap.size w wx →
          ∃ k' : Nat, k' ≤ l.length ∧ Value.int .i64 ((k : Int) + 1) = .int .i64 (k' : Int) ∧ Blk wx (w.heap.size + 1) 92 (Ve.arr (Ve.cnt (l.take k'))) ∧ Blk wx w.heap.size 92 (Ve.arr fun _ => 0) ∧ Below w.heap.size w wx :=
        fun wx h1 h2 h3 => ⟨k + 1, by omega, by go_num, h1, h2, h3⟩
      have FIN := Lib.hid fin
      clear fin
      go_wp2_with fail
      refine (right_any _ _ _).mono ?_
      rintro e w1 ⟨rfl, hb1⟩
      have hbx := below_on hbn hb1
      have B1 := HB1.out.later hb1
      have B0 := HB0.out.later hb1
      have B2 := HB2.out.later hb1
      have g0 := B2.cell (i := 0) rfl
      have g1 := B2.cell (i := 1) rfl
      clear HB0 HB1 HB2
      cases hr : St.rgt x y
      · have hs : ∀ i, i < 64 → Ve.cnt (l.take k) i = Ve.cnt (l.take (k + 1)) i := fun i _ => by rw [HCD.out i, HXY.out.1, HXY.out.2, if_neg (by rw [hr]; simp)]
        have B3 := Lib.hid (B1.same hs)
        have B4 := Lib.hid B0
        clear B1 B0 B2 hr hs
        go_wp2_with fail
        go_roundw
        case rel => exact FIN.out _ B3.out B4.out hbx
        case measure => simp [intOf]; omega
      · have hrr : 1 ≤ x ∧ 0 ≤ y ∧ y ≤ 63 := by unfold St.rgt at hr; exact of_decide_eq_true hr
        obtain ⟨nn, hnn⟩ : ∃ nn : Nat, y = (nn : Int) := ⟨y.toNat, by omega⟩
        have hn64 : nn < 64 := by omega
        rw [hnn] at g1
        have c1 := B1.arr_cell nn hn64
        have c2 := B1.free nn
        have hj0 : (0 : Int) ≤ (nn : Int) := by omega
        have hj1 : (nn : Int) < 64 := by omega
        by_cases hz : Ve.cnt (l.take k) nn = 0
        · have hzb : (Ve.cnt (l.take k) nn == 0) = true := beq_iff_eq.2 hz
          have hs : ∀ i, i < 64 → (if i = nn then x else Ve.cnt (l.take k) i) = Ve.cnt (l.take (k + 1)) i := fun i _ => by
            rw [HCD.out i, HXY.out.1, HXY.out.2, hr, hnn]
            by_cases hi : i = nn
            · rw [if_pos hi, if_pos ⟨by rw [hi]; exact hz, rfl, by rw [hi]⟩]
            · rw [if_neg hi, if_neg (fun h => hi (by have := h.2.2; omega))]
          have B3 := Lib.hid ((B1.arr_put nn hn64 x).same hs)
          have B4 := Lib.hid (B0.far (p := ⟨w.heap.size + 1, nn, none⟩) (by simp) (.int .i64 x))
          clear B1 B0 B2 hr hs hrr hnn f0 f1 hz
          go_wp2_with fail
          go_roundw
          case rel => exact FIN.out _ B3.out B4.out (hbx.setCell (by simp) _)
          case measure => simp [intOf]; omega
        · have hzb : (Ve.cnt (l.take k) nn == 0) = false := beq_eq_false_iff_ne.2 hz
          have hs : ∀ i, i < 64 → Ve.cnt (l.take k) i = Ve.cnt (l.take (k + 1)) i := fun i _ => by
            rw [HCD.out i, HXY.out.1, HXY.out.2, hr, hnn]
            refine (if_neg ?_).symm
            rintro ⟨q1, -, q2⟩
            have q3 : i = nn := by omega
            rw [q3] at q1
            exact hz q1
          have B3 := Lib.hid (B1.same hs)
          have B4 := Lib.hid B0
          clear B1 B0 B2 hr hs hrr hnn f0 f1 hz
          go_wp2_with fail
          go_roundw
          case rel => exact FIN.out _ B3.out B4.out hbx
          case measure => simp [intOf]; omega
    · have hkl : k = l.length := by omega
      subst hkl
      rw [List.take_length] at hB1
      go_wp2_with (first | (refine wpList_load_row rfl 92 _ rfl (w.heap.size + 1) rfl 92 _ (0, 0) _ hB1 Try.underlying92 rfl (by rw [Ve.arr_size]; exact infoC) ?_) | (refine wpList_store_row rfl 92 _ _ rfl w.heap.size _ rfl rfl 92 _ hB0 (by rw [Ve.arr_size]; exact infoC) (by rw [Ve.arr_size, Ve.arr_size]) (one_arr _) ?_))
      refine bodyPost_ret (v := .agg (Ve.arr (Ve.cnt l))) (results_cell_row rfl _ _ w.heap.size 92 (Ve.arr (Ve.cnt l)) (0, 0) _ rfl (setRow_heap _ _ _ _ _ _ hB0) Try.underlying92 rfl (by rw [Ve.arr_size]; exact infoC)) rfl ⟨rfl, below_setRow hbw (Nat.le_refl _) _⟩

end Go.Proofs.Ytcfkpjbakccgiaa
namespace Go.Proofs.Ytcfkpjbakccgiaa
open Go.RowKit

theorem same_self {A B : Option Addr} {c d : Nat} {l : List (Int × Int)} {w : World} (h1 : OneL w A c l) (h2 : OneL w B d l) :
    Calls Try.prog 16 #[.slice A l.length c, .slice B l.length d] w (Says (.bool true) w) := by
  have h := rsame_any A B c d l l w h1.len h1.stamps h2.stamps
  rw [decide_eq_true rfl] at h
  exact h

end Go.Proofs.Ytcfkpjbakccgiaa
namespace Go.Proofs.Ytcfkpjbakccgiaa
open Go.RowKit Go.Shelf
attribute [local go_sem] Oper.semAt_some

def told (x : Int × Int) : Array Value := #[.int .i64 x.2, .int .i64 x.1]
/-- What is asked of All. -/
def AllSpec : Prop := ∀ (A : Option Addr) (c : Nat) (l : List (Int × Int)) (w0 w : World), OneL w0 A c l → Below w0.heap.size w0 w →
  Calls Try.prog 76 #[.slice A l.length c] w fun e w1 => ∃ gf lb, e = .returned (.func (.func gf) #[] lb) ∧ Below w.heap.size w w1 ∧ (∀ args w, (callFunc gf args).run Try.prog w = .ok (.enter gf args) w) ∧
    SeqStopsK Fence.wide 2 Try.prog gf lb told (Keep w0.heap.size w.heap.size w1.heap.size) (· = Ve.ofL (Ve.cnt l)) (· <+: Ve.ofL (Ve.cnt l)) 64 w1

end Go.Proofs.Ytcfkpjbakccgiaa
