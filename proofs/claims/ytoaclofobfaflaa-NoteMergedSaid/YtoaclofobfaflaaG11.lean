/-
  What telltaleref03's Some, Join, Meet, Less, Covers and Touch answer.
  What telltaleref03's Meet, Less, Covers and Touch answer.
  What is asked of each of span's functions (its contract), as one structure. With it: the fixed fact 'alive'.
  What span's isObject, Formed and Has answer.
-/
import Derived.Test.YtoaclofobfaflaaG10
import Derived.Test.YtoaclofobfaflaaG05
namespace Go.Proofs.Ytoaclofobfaflaa
open Go.RowKit

namespace Sp
/-- Is an object among some numbers? -/
def someOf (xs : List Int) (o : Nat) : Bool := xs.any fun x => decide (x = (o : Int))
theorem someOf_take (xs : List Int) (k : Nat) (h : k < xs.length) (o : Nat) : someOf (xs.take (k + 1)) o = (someOf (xs.take k) o || decide (xs[k] = (o : Int))) := by
  unfold someOf
  rw [List.take_succ_eq_append_getElem h, List.any_append]
  simp
/-- Is an object in one of the first k lists? -/
def anyTo (ls : List (List (Int × Int))) : Nat → Nat → Bool
  | 0, _ => false
  | k + 1, o => anyTo ls k o || inL (ls.getD k []) o
def joinS (ls : List (List (Int × Int))) : List (Int × Int) := ofL (anyTo ls ls.length)
def meetS (l r : List (Int × Int)) : List (Int × Int) := ofL fun o => inL l o && inL r o
def lessS (l r : List (Int × Int)) : List (Int × Int) := ofL fun o => inL l o && !inL r o
/-- Half of a round. -/
def mixTo (h : Bool → Bool → Bool) (f g : Nat → Bool) (n : Nat) : Nat → Bool := fun j => if j < n then h (f j) (g j) else f j
theorem mix_start (h : Bool → Bool → Bool) (f g : Nat → Bool) (i : Nat) : f i = mixTo h f g 0 i := by unfold mixTo; rw [if_neg (by omega)]
theorem mix_here (h : Bool → Bool → Bool) (f g : Nat → Bool) (n : Nat) : mixTo h f g n n = f n := by unfold mixTo; rw [if_neg (by omega)]
theorem mix_step (h : Bool → Bool → Bool) (f g : Nat → Bool) (n : Nat) (x : Bool) (hx : x = h (f n) (g n)) (i : Nat) : (if i = n then x else mixTo h f g n i) = mixTo h f g (n + 1) i := by
  unfold mixTo
  by_cases e : i = n
  · subst e
    rw [if_pos rfl, if_pos (by omega), hx]
  · rw [if_neg e]
    by_cases hl : i < n
    · rw [if_pos hl, if_pos (by omega)]
    · rw [if_neg hl, if_neg (by omega)]
theorem mix_end (h : Bool → Bool → Bool) (f g : Nat → Bool) (i : Nat) (hi : i < 256) : mixTo h f g 256 i = h (f i) (g i) := by unfold mixTo; rw [if_pos hi]
end Sp

set_option maxRecDepth 100000 in
set_option maxHeartbeats 1600000 in
theorem sjoin_any (A : Option Addr) (c1 : Nat) (ls : List (List (Int × Int))) (w : World) (hl : ls.length ≤ 9223372036854775807) (h1 : Rows w A ls) :
    Calls Try.prog 92 #[.slice A ls.length c1] w (GivesS (Sp.joinS ls) w) := by
  have hls := h1.len
  have H1 := Lib.hid h1
  clear h1
  go_enter Try.func92, Try.ntmps92
  go_wp2_with fail
  rw [marks_zero]
  go_loopw [4] (fun s4 wr => ∃ k : Nat, k ≤ ls.length ∧ s4 = .int .i64 (k : Int) ∧ Blk wr w.heap.size 69 (Sp.arr (Sp.anyTo ls k)) ∧ Below w.heap.size w wr) (fun s4 _ => ls.length - (intOf s4).toNat)
  case atStart => exact ⟨0, Nat.zero_le _, rfl, Blk.new _ _ _, below_new (Below.refl _ _) _⟩
  case round =>
    obtain ⟨k, hk, rfl, hB, hbw⟩ := hrel
    by_cases hlt : k < ls.length
    · have hne : ls ≠ [] := fun e => by subst e; simp at hlt
      obtain ⟨b, off, hA, hcA⟩ := (H1.out.later hbw) hne
      obtain ⟨A2, c2, e0, hL⟩ := hcA k hlt
      have hlen := hls k hlt
      have hS := hL.stamps
      subst hA
      have hi0 : (0 : Int) ≤ (k : Int) := by omega
      have hi1 : (k : Int) < (ls.length : Int) := by omega
      have hjs : ∀ n, Sp.anyTo ls (k + 1) n = (Sp.anyTo ls k n || Sp.inL (ls.getD k []) n) := fun n => rfl
      have n1 := fun w h => set_any A2 c2 (ls.getD k []) w hlen h
      obtain ⟨f, hf⟩ : ∃ f, Sp.anyTo ls k = f := ⟨_, rfl⟩
      obtain ⟨g, hg⟩ : ∃ g, Sp.inL (ls.getD k []) = g := ⟨_, rfl⟩
      obtain ⟨m, hm⟩ : ∃ m, (ls.getD k []).length = m := ⟨_, rfl⟩
      rw [hg] at n1
      rw [hf, hg] at hjs
      rw [hf] at hB
      rw [hm] at e0 n1
      have HJS := Lib.hid hjs
      have N1 := Lib.hid n1
      have HS := Lib.hid hS
      have HB := Lib.hid hB
      clear hjs n1 hS hB hcA hf hg hm hL
      go_wp2_with fail
      refine (N1.out _ HS.out).mono ?_
      rintro e w2 ⟨rfl, hb2⟩
      have hbx := below_on hbw hb2
      have B1 := HB.out.later hb2
      have hz := hbx.size
      have hlt1 := B1.lt
      clear N1 HS HB hb2
      go_wp2_with (refine wpList_store_row rfl 69 _ _ rfl w2.heap.size (Sp.arr g) rfl rfl 69 (Sp.arr fun _ => false) ?s1 (by rw [Sp.arr_size]; exact info256) (by rw [Sp.arr_size, Sp.arr_size]) (one_marks _) ?_)
      case s1 =>
        rw [← marks_zero]
        exact Blk.new w2 _ _
      rw [marks_zero]
      have B5 := (Blk.new w2 69 (Sp.arr fun _ => false)).row (Sp.arr g)
      have B4 := (B1.alloc (.cells (Sp.arr fun _ => false) 69)).rowFar (g' := w2.heap.size) (by omega) (Sp.arr g)
      have b6 := below_setRow (below_new hbx (.cells (Sp.arr fun _ => false) 69)) (g := w2.heap.size) hz (Sp.arr g)
      go_loopw [6] (fun s6 wq => ∃ n : Nat, n ≤ 256 ∧ s6 = .int .i64 (n : Int) ∧ Blk wq w.heap.size 69 (Sp.arr (Sp.mixTo or f g n)) ∧ Blk wq w2.heap.size 69 (Sp.arr g) ∧ Below w.heap.size w wq) (fun s6 _ => 256 - (intOf s6).toNat)
      case atStart => exact ⟨0, by omega, rfl, B4.marks_same (fun i _ => Sp.mix_start or f g i), B5, b6⟩
      case round =>
        obtain ⟨n, hn, rfl, hC, hD, hbq⟩ := hrel
        clear B5 B4 b6 B1
        by_cases hlt2 : n < 256
        · have x0 := hC.marks_cell n hlt2
          have x1 := hC.free n
          have y0 := hD.marks_cell n hlt2
          rw [Sp.mix_here] at x0
          have hj0 : (0 : Int) ≤ (n : Int) := by omega
          have hj1 : (n : Int) < 256 := by omega
          have hfin : ∀ v, v = (f n || g n) → Blk (wr.setCell ⟨w.heap.size, n, none⟩ (.bool v)) w.heap.size 69 (Sp.arr (Sp.mixTo or f g (n + 1))) ∧ Blk (wr.setCell ⟨w.heap.size, n, none⟩ (.bool v)) w2.heap.size 69 (Sp.arr g) ∧ Below w.heap.size w (wr.setCell ⟨w.heap.size, n, none⟩ (.bool v)) := fun v hv =>
            ⟨(hC.marks_put n hlt2 v).marks_same (fun i _ => Sp.mix_step or f g n v hv i), hD.far (p := ⟨w.heap.size, n, none⟩) (by show w2.heap.size ≠ w.heap.size; omega) _, hbq.setCell (p := ⟨w.heap.size, n, none⟩) (Nat.le_refl _) _⟩
          have HFIN := Lib.hid hfin
          clear hC hD hfin
          cases hfn : f n
          · rw [hfn] at x0
            have HV := Lib.hid (show g n = (f n || g n) from by rw [hfn]; rfl)
            clear hfn
            go_wp2_with fail
            go_roundw
            case rel =>
              obtain ⟨q1, q2, q3⟩ := HFIN.out _ HV.out
              exact ⟨n + 1, by omega, by go_num, q1, q2, q3⟩
            case measure => simp [intOf]; omega
          · rw [hfn] at x0
            have HV := Lib.hid (show true = (f n || g n) from by rw [hfn]; rfl)
            clear hfn
            go_wp2_with fail
            go_roundw
            case rel =>
              obtain ⟨q1, q2, q3⟩ := HFIN.out _ HV.out
              exact ⟨n + 1, by omega, by go_num, q1, q2, q3⟩
            case measure => simp [intOf]; omega
        · have hn64 : n = 256 := by omega
          subst hn64
          have HB9 := Lib.hid (hC.marks_same (f' := Sp.anyTo ls (k + 1)) (fun i hi => by rw [Sp.mix_end or f g i hi]; exact (HJS.out i).symm))
          clear hC hD
          go_wp2_with fail
          go_roundw
          case rel => exact ⟨k + 1, by omega, by go_num, HB9.out, hbq⟩
          case measure => simp [intOf]; omega
    · have hkl : k = ls.length := by omega
      subst hkl
      have HB := Lib.hid hB
      clear hB
      go_wp2_with (refine wpList_load_row rfl 69 _ rfl w.heap.size rfl 69 _ (0, 0) _ HB.out Try.underlying69 rfl (by rw [Sp.arr_size]; exact info256) ?_)
      refine (ofS_any _ _).mono ?_
      rintro e w3 ⟨v, rfl, ho, hb3⟩
      have HO := Lib.hid ho
      have hz := hbw.size
      clear ho
      go_wp2
      go_ret
      exact ⟨_, rfl, own_base HO.out hz, below_on hbw hb3⟩

end Go.Proofs.Ytoaclofobfaflaa
namespace Go.Proofs.Ytoaclofobfaflaa
open Go.RowKit Fb

def Sp.butNot (a b : Bool) : Bool := a && !b

set_option maxRecDepth 100000 in
set_option maxHeartbeats 1600000 in
theorem smeet_any (A B : Option Addr) (c d : Nat) (l r : List (Int × Int)) (w : World) (h1 : OneL w A c l) (h2 : OneL w B d r) :
    Calls Try.prog 29 #[.slice A l.length c, .slice B r.length d] w (GivesS (Sp.meetS l r) w) := by
  have n1 := set_any A c l w h1.len h1.stamps
  have n2 := fun wx (hx : OneL wx B d r) => set_any B d r wx h2.len hx.stamps
  have hres : Sp.meetS l r = Sp.ofL (fun o => and (Sp.inL l o) (Sp.inL r o)) := rfl
  obtain ⟨f, hf⟩ : ∃ f, Sp.inL l = f := ⟨_, rfl⟩
  obtain ⟨g, hg⟩ : ∃ g, Sp.inL r = g := ⟨_, rfl⟩
  rw [hf] at n1 hres
  rw [hg] at n2 hres
  rw [hres]
  have N1 := Lib.hid n1
  have N2 := Lib.hid n2
  have H2 := Lib.hid h2
  clear n1 n2 h1 h2 hf hg hres
  go_enter Try.func29, Try.ntmps29
  go_wp2_with fail
  refine N1.out.mono ?_
  rintro e w1 ⟨rfl, b1⟩
  have N3 := Lib.hid (N2.out w1 (H2.out.later b1))
  clear N1 N2 H2
  go_wp2_with fail
  refine N3.out.mono ?_
  rintro e w2 ⟨rfl, b2⟩
  clear N3
  have bb2 := below_on b1 b2
  have hz := bb2.size
  have C0 := (Blk.new w2 69 (Sp.arr fun _ => false)).alloc (.cells (Sp.arr fun _ => false) 69)
  have C1 := Blk.new (w2.alloc (.cells (Sp.arr fun _ => false) 69)) 69 (Sp.arr fun _ => false)
  rw [show (w2.alloc (.cells (Sp.arr fun _ => false) 69)).heap.size = w2.heap.size + 1 from by simp] at C1
  have D0 := (C0.row (Sp.arr f)).rowFar (g' := w2.heap.size + 1) (by omega) (Sp.arr g)
  have D1 := (C1.rowFar (g' := w2.heap.size) (by omega) (Sp.arr f)).row (Sp.arr g)
  have E1 := C1.rowFar (g' := w2.heap.size) (by omega) (Sp.arr f)
  have b6 := below_setRow (below_setRow (below_new (below_new bb2 (.cells (Sp.arr fun _ => false) 69)) (.cells (Sp.arr fun _ => false) 69)) (g := w2.heap.size) hz (Sp.arr f)) (g := w2.heap.size + 1) (by omega) (Sp.arr g)
  rw [← marks_zero] at C0 E1
  go_wp2_with (first | (refine wpList_store_row rfl 69 _ _ rfl w2.heap.size (Sp.arr f) rfl rfl 69 Try.zeroCells69 C0 (by rw [Sp.arr_size]; exact info256) (by rw [marks_zero, Sp.arr_size, Sp.arr_size]) (one_marks _) ?_) | (refine wpList_store_row rfl 69 _ _ rfl (w2.heap.size + 1) (Sp.arr g) rfl rfl 69 Try.zeroCells69 E1 (by rw [Sp.arr_size]; exact info256) (by rw [marks_zero, Sp.arr_size, Sp.arr_size]) (one_marks _) ?_))
  rw [marks_zero]
  clear C0 C1 E1
  go_loopw [7] (fun s7 wq => ∃ n : Nat, n ≤ 256 ∧ s7 = .int .i64 (n : Int) ∧ Blk wq w2.heap.size 69 (Sp.arr (Sp.mixTo and f g n)) ∧ Blk wq (w2.heap.size + 1) 69 (Sp.arr g) ∧ Below w.heap.size w wq) (fun s7 _ => 256 - (intOf s7).toNat)
  case atStart => exact ⟨0, by omega, rfl, D0.marks_same (fun i _ => Sp.mix_start and f g i), D1, b6⟩
  case round =>
    obtain ⟨n, hn, rfl, hC, hD, hbq⟩ := hrel
    clear D0 D1 b6
    by_cases hlt2 : n < 256
    · have x0 := hC.marks_cell n hlt2
      have x1 := hC.free n
      have y0 := hD.marks_cell n hlt2
      rw [Sp.mix_here] at x0
      have hj0 : (0 : Int) ≤ (n : Int) := by omega
      have hj1 : (n : Int) < 256 := by omega
      have hfin : ∀ v, v = and (f n) (g n) → Blk (wr.setCell ⟨w2.heap.size, n, none⟩ (.bool v)) w2.heap.size 69 (Sp.arr (Sp.mixTo and f g (n + 1))) ∧ Blk (wr.setCell ⟨w2.heap.size, n, none⟩ (.bool v)) (w2.heap.size + 1) 69 (Sp.arr g) ∧ Below w.heap.size w (wr.setCell ⟨w2.heap.size, n, none⟩ (.bool v)) := fun v hv =>
        ⟨(hC.marks_put n hlt2 v).marks_same (fun i _ => Sp.mix_step and f g n v hv i), hD.far (p := ⟨w2.heap.size, n, none⟩) (by show w2.heap.size + 1 ≠ w2.heap.size; omega) _, hbq.setCell (p := ⟨w2.heap.size, n, none⟩) hz _⟩
      have HFIN := Lib.hid hfin
      clear hC hD hfin
      cases hfn : f n <;> cases hgn : g n
      all_goals
        rw [hfn] at x0
        rw [hgn] at y0
        rw [hfn, hgn] at HFIN
        clear hfn hgn
        go_wp2_with fail
        go_roundw
        case rel =>
          obtain ⟨q1, q2, q3⟩ := HFIN.out _ rfl
          exact ⟨n + 1, by omega, by go_num, q1, q2, q3⟩
        case measure => simp [intOf]; omega
    · have hn64 : n = 256 := by omega
      subst hn64
      have HB9 := Lib.hid (hC.marks_same (f' := fun o => and (f o) (g o)) (fun i hi => Sp.mix_end and f g i hi))
      clear hC hD
      go_wp2_with (refine wpList_load_row rfl 69 _ rfl w2.heap.size rfl 69 _ (0, 0) _ HB9.out Try.underlying69 rfl (by rw [Sp.arr_size]; exact info256) ?_)
      refine (ofS_any _ _).mono ?_
      rintro e w3 ⟨v, rfl, ho, hb3⟩
      have HO := Lib.hid ho
      have hz3 := hbq.size
      clear ho
      go_wp2
      go_ret
      exact ⟨_, rfl, own_base HO.out hz3, below_on hbq hb3⟩

set_option maxRecDepth 100000 in
set_option maxHeartbeats 1600000 in
theorem sless_any (A B : Option Addr) (c d : Nat) (l r : List (Int × Int)) (w : World) (h1 : OneL w A c l) (h2 : OneL w B d r) :
    Calls Try.prog 67 #[.slice A l.length c, .slice B r.length d] w (GivesS (Sp.lessS l r) w) := by
  have n1 := set_any A c l w h1.len h1.stamps
  have n2 := fun wx (hx : OneL wx B d r) => set_any B d r wx h2.len hx.stamps
  have hres : Sp.lessS l r = Sp.ofL (fun o => Sp.butNot (Sp.inL l o) (Sp.inL r o)) := rfl
  obtain ⟨f, hf⟩ : ∃ f, Sp.inL l = f := ⟨_, rfl⟩
  obtain ⟨g, hg⟩ : ∃ g, Sp.inL r = g := ⟨_, rfl⟩
  rw [hf] at n1 hres
  rw [hg] at n2 hres
  rw [hres]
  have N1 := Lib.hid n1
  have N2 := Lib.hid n2
  have H2 := Lib.hid h2
  clear n1 n2 h1 h2 hf hg hres
  go_enter Try.func67, Try.ntmps67
  go_wp2_with fail
  refine N1.out.mono ?_
  rintro e w1 ⟨rfl, b1⟩
  have N3 := Lib.hid (N2.out w1 (H2.out.later b1))
  clear N1 N2 H2
  go_wp2_with fail
  refine N3.out.mono ?_
  rintro e w2 ⟨rfl, b2⟩
  clear N3
  have bb2 := below_on b1 b2
  have hz := bb2.size
  have C0 := (Blk.new w2 69 (Sp.arr fun _ => false)).alloc (.cells (Sp.arr fun _ => false) 69)
  have C1 := Blk.new (w2.alloc (.cells (Sp.arr fun _ => false) 69)) 69 (Sp.arr fun _ => false)
  rw [show (w2.alloc (.cells (Sp.arr fun _ => false) 69)).heap.size = w2.heap.size + 1 from by simp] at C1
  have D0 := (C0.row (Sp.arr f)).rowFar (g' := w2.heap.size + 1) (by omega) (Sp.arr g)
  have D1 := (C1.rowFar (g' := w2.heap.size) (by omega) (Sp.arr f)).row (Sp.arr g)
  have E1 := C1.rowFar (g' := w2.heap.size) (by omega) (Sp.arr f)
  have b6 := below_setRow (below_setRow (below_new (below_new bb2 (.cells (Sp.arr fun _ => false) 69)) (.cells (Sp.arr fun _ => false) 69)) (g := w2.heap.size) hz (Sp.arr f)) (g := w2.heap.size + 1) (by omega) (Sp.arr g)
  rw [← marks_zero] at C0 E1
  go_wp2_with (first | (refine wpList_store_row rfl 69 _ _ rfl w2.heap.size (Sp.arr f) rfl rfl 69 Try.zeroCells69 C0 (by rw [Sp.arr_size]; exact info256) (by rw [marks_zero, Sp.arr_size, Sp.arr_size]) (one_marks _) ?_) | (refine wpList_store_row rfl 69 _ _ rfl (w2.heap.size + 1) (Sp.arr g) rfl rfl 69 Try.zeroCells69 E1 (by rw [Sp.arr_size]; exact info256) (by rw [marks_zero, Sp.arr_size, Sp.arr_size]) (one_marks _) ?_))
  rw [marks_zero]
  clear C0 C1 E1
  go_loopw [7] (fun s7 wq => ∃ n : Nat, n ≤ 256 ∧ s7 = .int .i64 (n : Int) ∧ Blk wq w2.heap.size 69 (Sp.arr (Sp.mixTo Sp.butNot f g n)) ∧ Blk wq (w2.heap.size + 1) 69 (Sp.arr g) ∧ Below w.heap.size w wq) (fun s7 _ => 256 - (intOf s7).toNat)
  case atStart => exact ⟨0, by omega, rfl, D0.marks_same (fun i _ => Sp.mix_start Sp.butNot f g i), D1, b6⟩
  case round =>
    obtain ⟨n, hn, rfl, hC, hD, hbq⟩ := hrel
    clear D0 D1 b6
    by_cases hlt2 : n < 256
    · have x0 := hC.marks_cell n hlt2
      have x1 := hC.free n
      have y0 := hD.marks_cell n hlt2
      rw [Sp.mix_here] at x0
      have hj0 : (0 : Int) ≤ (n : Int) := by omega
      have hj1 : (n : Int) < 256 := by omega
      have hfin : ∀ v, v = Sp.butNot (f n) (g n) → Blk (wr.setCell ⟨w2.heap.size, n, none⟩ (.bool v)) w2.heap.size 69 (Sp.arr (Sp.mixTo Sp.butNot f g (n + 1))) ∧ Blk (wr.setCell ⟨w2.heap.size, n, none⟩ (.bool v)) (w2.heap.size + 1) 69 (Sp.arr g) ∧ Below w.heap.size w (wr.setCell ⟨w2.heap.size, n, none⟩ (.bool v)) := fun v hv =>
        ⟨(hC.marks_put n hlt2 v).marks_same (fun i _ => Sp.mix_step Sp.butNot f g n v hv i), hD.far (p := ⟨w2.heap.size, n, none⟩) (by show w2.heap.size + 1 ≠ w2.heap.size; omega) _, hbq.setCell (p := ⟨w2.heap.size, n, none⟩) hz _⟩
      have HFIN := Lib.hid hfin
      clear hC hD hfin
      cases hfn : f n <;> cases hgn : g n
      all_goals
        rw [hfn] at x0
        rw [hgn] at y0
        rw [hfn, hgn] at HFIN
        clear hfn hgn
        go_wp2_with fail
        go_roundw
        case rel =>
          obtain ⟨q1, q2, q3⟩ := HFIN.out _ rfl
          exact ⟨n + 1, by omega, by go_num, q1, q2, q3⟩
        case measure => simp [intOf]; omega
    · have hn64 : n = 256 := by omega
      subst hn64
      have HB9 := Lib.hid (hC.marks_same (f' := fun o => Sp.butNot (f o) (g o)) (fun i hi => Sp.mix_end Sp.butNot f g i hi))
      clear hC hD
      go_wp2_with (refine wpList_load_row rfl 69 _ rfl w2.heap.size rfl 69 _ (0, 0) _ HB9.out Try.underlying69 rfl (by rw [Sp.arr_size]; exact info256) ?_)
      refine (ofS_any _ _).mono ?_
      rintro e w3 ⟨v, rfl, ho, hb3⟩
      have HO := Lib.hid ho
      have hz3 := hbq.size
      clear ho
      go_wp2
      go_ret
      exact ⟨_, rfl, own_base HO.out hz3, below_on hbq hb3⟩

set_option maxHeartbeats 800000 in
theorem scovers_any (A B : Option Addr) (c d : Nat) (l r : List (Int × Int)) (w : World) (h1 : OneL w A c l) (h2 : OneL w B d r) :
    Calls Try.prog 31 #[.slice A l.length c, .slice B r.length d] w fun e w' => e = .returned (.bool (Sp.cov (Sp.inL l) (Sp.inL r))) ∧ Below w.heap.size w w' := by
  have n1 := sless_any B A d c r l w h2 h1
  have hr : Sp.cov (Sp.inL l) (Sp.inL r) = (((Sp.lessS r l).length : Int) == 0) := by
    rw [Sp.cov_ref, Bool.eq_iff_iff, beq_iff_eq, beq_iff_eq]
    exact Int.natCast_eq_zero.symm
  rw [hr]
  have N1 := Lib.hid n1
  clear n1 hr
  go_enter Try.func31, Try.ntmps31
  go_wp2_with fail
  refine N1.out.mono ?_
  rintro e w1 hg
  obtain ⟨C, k, rfl, ho, b1⟩ := hg.one
  clear hg ho
  go_wp2
  go_ret
  exact ⟨rfl, b1⟩

set_option maxHeartbeats 1600000 in
theorem stwo_any (A B : Option Addr) (c1 c2 : Nat) (l r : List (Int × Int)) (w : World) (h1 : OneL w A c1 l) (h2 : OneL w B c2 r) :
    Calls Try.prog 64 #[.slice A l.length c1, .slice B r.length c2] w (GivesS (Sp.joinS [l, r]) w) := by
  have hb0 := below_new (Below.refl w.heap.size w) (.cells #[.slice A l.length c1, .slice B r.length c2] 23)
  have hB := Blk.new w 23 #[.slice A l.length c1, .slice B r.length c2]
  have hR : Rows (w.alloc (.cells #[.slice A l.length c1, .slice B r.length c2] 23)) (some ⟨w.heap.size, 0, none⟩) [l, r] := fun _ => ⟨w.heap.size, 0, rfl, fun k hk => by
    have hk2 : k = 0 ∨ k = 1 := by simp at hk; omega
    rcases hk2 with rfl | rfl
    · exact ⟨A, c1, hB.cell rfl, h1.later hb0⟩
    · exact ⟨B, c2, hB.cell rfl, h2.later hb0⟩⟩
  have hj := sjoin_any (some ⟨w.heap.size, 0, none⟩) 2 [l, r] (w.alloc (.cells #[.slice A l.length c1, .slice B r.length c2] 23)) (by simp) hR
  have HJ := Lib.hid hj
  clear hj hR hB h1 h2
  go_enter Try.func64, Try.ntmps64
  go_wp2_with fail
  refine HJ.out.mono ?_
  rintro e w1 ⟨v, rfl, ho, hb1⟩
  have HO := Lib.hid ho
  clear ho
  go_wp2
  go_ret
  exact ⟨_, rfl, own_base HO.out (by simp), below_on hb0 hb1⟩

end Go.Proofs.Ytoaclofobfaflaa
namespace Go.Proofs.Ytoaclofobfaflaa
open Go.RowKit

theorem GivesS.ans {l : List (Int × Int)} {w w' : World} {e : Ending} (h : GivesS l w e w') : Ans l w e w' := h.one

/-- A list of numbers by value. -/
def Nums (w : World) (A : Option Addr) (c : Nat) (xs : List Int) : Prop := xs.length ≤ c ∧ c ≤ maxLen ∧ (A = none → xs.length = 0 ∧ c = 0) ∧ Lies w A (xs.map (Value.int .i64))
theorem Nums.later {w w' : World} {A : Option Addr} {c : Nat} {xs : List Int} (h : Nums w A c xs) (hb : Below w.heap.size w w') : Nums w' A c xs := ⟨h.1, h.2.1, h.2.2.1, h.2.2.2.later hb⟩
theorem Nums.len {w : World} {A : Option Addr} {c : Nat} {xs : List Int} (h : Nums w A c xs) : xs.length ≤ 9223372036854775807 := by
  have h1 := h.1
  have h2 := h.2.1
  unfold maxLen at h2
  omega

theorem salive_of : Sp.ofL (Sp.someOf [3, 1, 2, 7, 300]) = [(1, 3), (7, 7)] := by
  refine Sp.good_uniq (Sp.good_ofL _) ?_ ?_
  · intro j hj
    have : j = 0 ∨ j = 1 := by simp at hj; omega
    rcases this with rfl | rfl <;> simp
  · intro o ho
    rw [Sp.inL_ofL _ o ho]
    unfold Sp.someOf Sp.inL
    rw [Bool.eq_iff_iff]
    simp
    omega
theorem salive_7 : inOf [(1, 3), (7, 7)] 7 = true := by decide
theorem salive_300 : inOf [(1, 3), (7, 7)] 300 = false := by decide
theorem salive_sz : Sp.sz (Sp.inL [(1, 3), (7, 7)]) = 4 := by kernel_rfl

end Go.Proofs.Ytoaclofobfaflaa
namespace Go.Proofs.Ytoaclofobfaflaa
open Go.RowKit Fb

set_option maxHeartbeats 800000 in
theorem isObject_any (o : Int) (w : World) : Calls Try.prog 70 #[.int .i64 o] w fun e w' => e = .returned (.bool (decide (0 ≤ o ∧ o ≤ 255))) ∧ Below w.heap.size w w' := by
  by_cases h0 : 0 ≤ o
  · have d0 : decide (0 ≤ o) = true := decide_eq_true h0
    by_cases h1 : o < 256
    · have d1 : decide (o < 256) = true := decide_eq_true h1
      rw [show decide (0 ≤ o ∧ o ≤ 255) = true from decide_eq_true (by omega)]
      go_enter Try.func70, Try.ntmps70
      go_wp2
      go_ret
      exact ⟨rfl, Below.refl _ _⟩
    · have d1 : decide (o < 256) = false := decide_eq_false h1
      rw [show decide (0 ≤ o ∧ o ≤ 255) = false from decide_eq_false (by omega)]
      go_enter Try.func70, Try.ntmps70
      go_wp2
      go_ret
      exact ⟨rfl, Below.refl _ _⟩
  · have d0 : decide (0 ≤ o) = false := decide_eq_false h0
    rw [show decide (0 ≤ o ∧ o ≤ 255) = false from decide_eq_false (by omega)]
    go_enter Try.func70, Try.ntmps70
    go_wp2
    go_ret
    exact ⟨rfl, Below.refl _ _⟩

/-- A span as it must be behind those ahead of it. -/
def Sp.apt (l : List (Int × Int)) (j : Nat) : Prop := 0 ≤ (l.getD j (0, 0)).1 ∧ (l.getD j (0, 0)).1 ≤ (l.getD j (0, 0)).2 ∧ (l.getD j (0, 0)).2 < 256 ∧ (0 < j → (l.getD (j - 1) (0, 0)).2 + 1 < (l.getD j (0, 0)).1)
theorem Sp.apt_good (l : List (Int × Int)) : Sp.good 256 l ↔ ∀ j, j < l.length → Sp.apt l j := Iff.rfl
theorem Sp.fmd_no (l : List (Int × Int)) (k : Nat) (hk : k < l.length) (h : ¬ Sp.apt l k) : Sp.fmd l = false := by
  rcases Sp.two (Sp.fmd l) with h1 | h1
  · exact absurd ((Sp.fmd_iff l).1 h1 k hk) h
  · exact h1

set_option maxHeartbeats 1600000 in
theorem spformed_any (A : Option Addr) (c1 : Nat) (l : List (Int × Int)) (w : World) (h1 : OneL w A c1 l) :
    Calls Try.prog 35 #[.slice A l.length c1] w (Says (.bool (Sp.fmd l)) w) := by
  have hl := h1.len
  have HS := Lib.hid h1.stamps
  clear h1
  go_enter Try.func35, Try.ntmps35
  go_wp2_with fail
  go_loopw [3, 8] (fun s3 s8 wr => ∃ (k : Nat) (least : Int), k ≤ l.length ∧ s8 = .int .i64 (k : Int) ∧ s3 = .int .i64 least ∧ (∀ j, j < k → Sp.apt l j) ∧ ((k = 0 ∧ least = 0) ∨ (0 < k ∧ least = (l.getD (k - 1) (0, 0)).2 + 2)) ∧ Below w.heap.size w wr) (fun _ s8 _ => l.length - (intOf s8).toNat)
  case atStart => exact ⟨0, 0, Nat.zero_le _, rfl, rfl, fun j hj => by omega, .inl ⟨rfl, rfl⟩, Below.refl _ _⟩
  case round =>
    obtain ⟨k, least, hk, rfl, rfl, hap, hle, hbw⟩ := hrel
    by_cases hlt : k < l.length
    · have hne : l ≠ [] := fun e => by subst e; simp at hlt
      obtain ⟨b, off, hA, hc⟩ := (HS.out.later hbw) hne
      subst hA
      obtain ⟨e0, e1⟩ := hc k hlt
      have hi0 : (0 : Int) ≤ (k : Int) := by omega
      have hi1 : (k : Int) < (l.length : Int) := by omega
      have hno := Sp.fmd_no l k hlt
      have hyes : Sp.apt l k → ∀ j, j < k + 1 → Sp.apt l j := fun h j hj => by
        by_cases e : j = k
        · rw [e]; exact h
        · exact hap j (by omega)
      have hle2 : (l.getD k (0, 0)).1 < least → ¬ Sp.apt l k := fun h1 h2 => by
        obtain ⟨q1, q2, q3, q4⟩ := h2
        rcases hle with ⟨h3, h4⟩ | ⟨h3, h4⟩
        · omega
        · have := q4 h3
          omega
      have hle3 : ¬ (l.getD k (0, 0)).1 < least → 0 ≤ (l.getD k (0, 0)).1 ∧ (0 < k → (l.getD (k - 1) (0, 0)).2 + 1 < (l.getD k (0, 0)).1) := fun h1 => by
        rcases hle with ⟨h3, h4⟩ | ⟨h3, h4⟩
        · exact ⟨by omega, by omega⟩
        · obtain ⟨q1, q2, q3, q4⟩ := hap (k - 1) (by omega)
          exact ⟨by omega, by omega⟩
      have hapt : Sp.apt l k = (0 ≤ (l.getD k (0, 0)).1 ∧ (l.getD k (0, 0)).1 ≤ (l.getD k (0, 0)).2 ∧ (l.getD k (0, 0)).2 < 256 ∧ (0 < k → (l.getD (k - 1) (0, 0)).2 + 1 < (l.getD k (0, 0)).1)) := rfl
      have hnx : l.getD (k + 1 - 1) (0, 0) = l.getD k (0, 0) := by rw [Nat.add_sub_cancel]
      obtain ⟨z, hz⟩ : ∃ z, l.getD k (0, 0) = z := ⟨_, rfl⟩
      rw [hz] at e0 e1 hle2 hle3 hapt hnx
      obtain ⟨x, y⟩ := z
      have hle2 : x < least → ¬ Sp.apt l k := hle2
      have hle3 : ¬ x < least → 0 ≤ x ∧ (0 < k → (l.getD (k - 1) (0, 0)).2 + 1 < x) := hle3
      have hapt : Sp.apt l k = (0 ≤ x ∧ x ≤ y ∧ y < 256 ∧ (0 < k → (l.getD (k - 1) (0, 0)).2 + 1 < x)) := hapt
      have HNO := Lib.hid hno
      have HY := Lib.hid hyes
      have HNX := Lib.hid hnx
      have HLE3 := Lib.hid hle3
      have HLE2 := Lib.hid hle2
      have HAPT := Lib.hid hapt
      have hbn := below_new hbw (.cells #[.int .i64 x, .int .i64 y] 50)
      clear hno hyes hnx hle hap hz hle2 hle3 hapt hc
      by_cases c1 : x < least
      · have d1 : decide (x < least) = true := decide_eq_true c1
        have HQ := Lib.hid (HNO.out (HLE2.out c1))
        clear HNO HLE2 HLE3 HAPT
        go_wp2
        go_ret
        exact ⟨by rw [HQ.out]; rfl, hbn⟩
      · have d1 : decide (x < least) = false := decide_eq_false c1
        by_cases c2 : y < x
        · have d2 : decide (y < x) = true := decide_eq_true c2
          have HQ := Lib.hid (HNO.out (fun h => by rw [HAPT.out] at h; omega))
          clear HNO HLE2 HLE3 HAPT
          go_wp2
          go_ret
          exact ⟨by rw [HQ.out]; rfl, hbn⟩
        · have d2 : decide (y < x) = false := decide_eq_false c2
          have n1 := fun wx => isObject_any y wx
          obtain ⟨q1, q2⟩ := HLE3.out c1
          have HQ2 := Lib.hid q2
          clear q2
          by_cases c3 : y < 256
          · have d3 : decide (0 ≤ y ∧ y ≤ 255) = true := decide_eq_true (by omega)
            rw [d3] at n1
            have N1 := Lib.hid n1
            have HAP := Lib.hid (show Sp.apt l k from by rw [HAPT.out]; exact ⟨q1, by omega, c3, HQ2.out⟩)
            clear HNO HLE2 HLE3 HAPT d3 n1
            go_wp2_with fail
            refine (N1.out _).mono ?_
            rintro e w2 ⟨rfl, b2⟩
            have hb2 := below_on hbn b2
            have hB := (Blk.new wr 50 #[.int .i64 x, .int .i64 y]).later b2
            have g1 := hB.cell (i := 1) rfl
            go_wp2_with fail
            go_roundw
            case rel => exact ⟨k + 1, y + 2, by omega, by go_num, by go_num, HY.out HAP.out, .inr ⟨by omega, by rw [HNX.out]⟩, hb2⟩
            case measure => simp [intOf]; omega
          · have d3 : decide (0 ≤ y ∧ y ≤ 255) = false := decide_eq_false (by omega)
            rw [d3] at n1
            have N1 := Lib.hid n1
            have HQ := Lib.hid (HNO.out (fun h => by rw [HAPT.out] at h; omega))
            clear HNO HLE2 HLE3 HAPT d3 n1
            go_wp2_with fail
            refine (N1.out _).mono ?_
            rintro e w2 ⟨rfl, b2⟩
            have hb2 := below_on hbn b2
            go_wp2
            go_ret
            exact ⟨by rw [HQ.out]; rfl, hb2⟩
    · have HQ := Lib.hid (show Sp.fmd l = true from (Sp.fmd_iff l).2 (fun j hj => hap j (by omega)))
      clear hap hle
      go_wp2
      go_ret
      exact ⟨by rw [HQ.out]; rfl, hbw⟩

set_option maxHeartbeats 1600000 in
theorem sphas_any (A : Option Addr) (c1 : Nat) (l : List (Int × Int)) (o : Int) (w : World) (h1 : OneL w A c1 l) :
    Calls Try.prog 51 #[.slice A l.length c1, .int .i64 o] w (Says (.bool (inOf l o)) w) := by
  have hl := h1.len
  have n1 := isObject_any o
  by_cases h0 : 0 ≤ o ∧ o ≤ 255
  · obtain ⟨p, rfl⟩ : ∃ p : Nat, o = (p : Int) := ⟨o.toNat, by omega⟩
    have hi : inOf l (p : Int) = Sp.inL l p := by unfold inOf; rw [decide_eq_true h0]; rfl
    rw [decide_eq_true h0] at n1
    rw [hi]
    have N1 := Lib.hid n1
    have HS := Lib.hid h1.stamps
    clear n1 h1 hi h0
    go_enter Try.func51, Try.ntmps51
    go_wp2_with fail
    refine (N1.out _).mono ?_
    rintro e w1 ⟨rfl, b1⟩
    clear N1
    go_wp2_with fail
    go_loopw [12] (fun s12 wr => ∃ k : Nat, k ≤ l.length ∧ s12 = .int .i64 (k : Int) ∧ Sp.inL (l.take k) p = false ∧ Below w.heap.size w wr) (fun s12 _ => l.length - (intOf s12).toNat)
    case atStart => exact ⟨0, Nat.zero_le _, rfl, rfl, b1⟩
    case round =>
      obtain ⟨k, hk, rfl, hin, hbw⟩ := hrel
      by_cases hlt : k < l.length
      · have hne : l ≠ [] := fun e => by subst e; simp at hlt
        obtain ⟨b, off, hA, hc⟩ := (HS.out.later hbw) hne
        subst hA
        obtain ⟨e0, e1⟩ := hc k hlt
        rw [List.getD_eq_getElem?_getD, List.getElem?_eq_getElem hlt, Option.getD_some] at e0 e1
        have hi0 : (0 : Int) ≤ (k : Int) := by omega
        have hi1 : (k : Int) < (l.length : Int) := by omega
        have hit := Sp.inL_take l k hlt p
        have hmem : l[k].1 ≤ (p : Int) → (p : Int) ≤ l[k].2 → Sp.inL l p = true := fun q1 q2 => (Sp.inL_iff l p).2 ⟨l[k], List.getElem_mem hlt, q1, q2⟩
        rw [hin, Bool.false_or] at hit
        obtain ⟨z, hz⟩ : ∃ z, l[k] = z := ⟨_, rfl⟩
        rw [hz] at e0 e1 hit hmem
        obtain ⟨x, y⟩ := z
        have HIT := Lib.hid (show Sp.inL (l.take (k + 1)) p = decide (x ≤ (p : Int) ∧ (p : Int) ≤ y) from hit)
        have HM := Lib.hid (show x ≤ (p : Int) → (p : Int) ≤ y → Sp.inL l p = true from hmem)
        have hbn := below_new hbw (.cells #[.int .i64 x, .int .i64 y] 50)
        clear hit hmem hz hin hc b1
        by_cases c1 : x ≤ (p : Int)
        · have d1 : decide (x ≤ (p : Int)) = true := decide_eq_true c1
          by_cases c2 : (p : Int) ≤ y
          · have d2 : decide ((p : Int) ≤ y) = true := decide_eq_true c2
            have HQ := Lib.hid (HM.out c1 c2)
            clear HM HIT
            go_wp2
            go_ret
            exact ⟨by rw [HQ.out]; rfl, hbn⟩
          · have d2 : decide ((p : Int) ≤ y) = false := decide_eq_false c2
            have HQ := Lib.hid (show Sp.inL (l.take (k + 1)) p = false from by rw [HIT.out]; exact decide_eq_false (fun h => c2 h.2))
            clear HM HIT
            go_wp2_with fail
            go_roundw
            case rel => exact ⟨k + 1, by omega, by go_num, HQ.out, hbn⟩
            case measure => simp [intOf]; omega
        · have d1 : decide (x ≤ (p : Int)) = false := decide_eq_false c1
          have HQ := Lib.hid (show Sp.inL (l.take (k + 1)) p = false from by rw [HIT.out]; exact decide_eq_false (fun h => c1 h.1))
          clear HM HIT
          go_wp2_with fail
          go_roundw
          case rel => exact ⟨k + 1, by omega, by go_num, HQ.out, hbn⟩
          case measure => simp [intOf]; omega
      · have hkl : k = l.length := by omega
        subst hkl
        rw [List.take_length] at hin
        have HQ := Lib.hid hin
        clear hin b1
        go_wp2
        go_ret
        exact ⟨by rw [HQ.out]; rfl, hbw⟩
  · have hi : inOf l o = false := by unfold inOf; rw [decide_eq_false h0]; rfl
    rw [decide_eq_false h0] at n1
    rw [hi]
    have N1 := Lib.hid n1
    clear n1 h1 hi
    go_enter Try.func51, Try.ntmps51
    go_wp2_with fail
    refine (N1.out _).mono ?_
    rintro e w1 ⟨rfl, b1⟩
    go_wp2
    go_ret
    exact ⟨rfl, b1⟩

end Go.Proofs.Ytoaclofobfaflaa
