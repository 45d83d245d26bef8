/-
  What telltaleref03's Formed, Has, Size and Some answer.
  What telltaleref03's Some, Join, Meet, Less, Covers and Touch answer.
  What telltaleref03's Meet, Less, Covers and Touch answer.
  What telltaleref01's Right answers, for all stamps; each leaves the memory that was there as it was.
-/
import Derived.Test.YtcfkpjbakccgiaaG05
import Derived.Test.YtcfkpjbakccgiaaG02
import Derived.Test.YtcfkpjbakccgiaaProg
import Derived.Test.YtcfkpjbakccgiaaG01
import Derived.Tactics
import Derived.Tactics2
import Derived.WalkKit
import Derived.WalkSpells
import Derived.OwnWalk
import Derived.Deep.QuietTactic
import Derived.BigQuiet
import Derived.Deep.RegionHeld3
import Derived.KernelRfl
import Derived.Lib.Hide
namespace Go.Proofs.Ytcfkpjbakccgiaa
open Go.RowKit

theorem GivesS.one {l : List (Int × Int)} {w w' : World} {e : Ending} (h : GivesS l w e w') : ∃ A c, e = .returned (.slice A l.length c) ∧ OneL w' A c l ∧ Below w.heap.size w w' := by
  obtain ⟨v, rfl, ho, hb⟩ := h
  obtain ⟨A, c, rfl, h1⟩ := OneL.of_own ho
  exact ⟨A, c, rfl, h1, hb⟩

set_option maxHeartbeats 800000 in
theorem sformed_any (A : Option Addr) (c : Nat) (l : List (Int × Int)) (w : World) (h1 : OneL w A c l) :
    Calls Try.prog 83 #[.slice A l.length c] w fun e w' => e = .returned (.bool (Sp.fmd l)) ∧ Below w.heap.size w w' := by
  have hl := h1.len
  by_cases hle : l.length ≤ 128
  · have hd : decide ((l.length : Int) ≤ 128) = true := decide_eq_true (by omega)
    have hf : Sp.fmd l = decide (l = Sp.ofL (Sp.inL l)) := by
      unfold Sp.fmd
      rw [Bool.eq_iff_iff, decide_eq_true_eq, decide_eq_true_eq]
      exact ⟨fun h => h.2, fun h => ⟨hle, h⟩⟩
    have hol := Sp.ofL_len (Sp.inL l)
    have n1 := set_any A c l w hl h1.stamps
    have n2 := fun wx => ofS_any (Sp.inL l) wx
    obtain ⟨m, hm⟩ : ∃ m, Sp.ofL (Sp.inL l) = m := ⟨_, rfl⟩
    obtain ⟨f, hff⟩ : ∃ f, Sp.inL l = f := ⟨_, rfl⟩
    rw [hff] at n1
    rw [hm] at n2 hf hol
    rw [hff] at n2
    have N1 := Lib.hid n1
    have N2 := Lib.hid n2
    have HF := Lib.hid hf
    have H1 := Lib.hid h1
    clear n1 n2 hf h1 hm hff
    go_enter Try.func83, Try.ntmps83
    go_wp2_with fail
    refine N1.out.mono ?_
    rintro e w1 ⟨rfl, b1⟩
    clear N1
    go_wp2_with fail
    refine (N2.out _).mono ?_
    rintro e w2 hg
    obtain ⟨B, d, rfl, ho, b2⟩ := hg.one
    have hbb := below_on b1 b2
    have hs := ssame_any A B c d l m w2 hl (H1.out.later hbb).stamps ho.stamps
    have HS := Lib.hid hs
    clear hg ho hs N2 H1
    go_wp2_with fail
    refine HS.out.mono ?_
    rintro e w3 ⟨rfl, b3⟩
    go_wp2
    go_ret
    exact ⟨by rw [HF.out]; rfl, below_on hbb b3⟩
  · have hd : decide ((l.length : Int) ≤ 128) = false := decide_eq_false (by omega)
    have hf : Sp.fmd l = false := by
      unfold Sp.fmd
      exact decide_eq_false (fun h => hle h.1)
    have HF := Lib.hid hf
    clear hf
    go_enter Try.func83, Try.ntmps83
    go_wp2
    go_ret
    exact ⟨by rw [HF.out]; rfl, Below.refl _ _⟩

/-- One of 256 marks, by its place. -/
theorem index_marks (f : Nat → Bool) (k : Nat) (hk : k < 256) (w : World) : (Instr.index 63 (.agg (Sp.arr f)) (.int .i64 (k : Int))).run Try.prog w = .ok (.bool (f k)) w := by
  have h1 := Sp.arr_get f k hk
  simp [Instr.index, asIntOf, run_underlying Try.underlying63, part, Try.isAgg4, Try.sizeOf4, h1]
  intro h
  exact absurd h (by omega)

/-- Is any number an object in a list? -/
def inOf (l : List (Int × Int)) (o : Int) : Bool := decide (0 ≤ o ∧ o ≤ 255) && Sp.inL l o.toNat

set_option maxHeartbeats 800000 in
theorem shas_any (A : Option Addr) (c : Nat) (l : List (Int × Int)) (o : Int) (w : World) (h1 : OneL w A c l) :
    Calls Try.prog 26 #[.slice A l.length c, .int .i64 o] w fun e w' => e = .returned (.bool (inOf l o)) ∧ Below w.heap.size w w' := by
  have n1 := set_any A c l w h1.len h1.stamps
  by_cases h0 : 0 ≤ o
  · have hd : decide (0 ≤ o) = true := decide_eq_true h0
    by_cases h2 : o ≤ 255
    · obtain ⟨k, rfl⟩ : ∃ k : Nat, o = (k : Int) := ⟨o.toNat, by omega⟩
      have hd2 : decide ((k : Int) ≤ 255) = true := decide_eq_true h2
      have hk : k < 256 := by omega
      have hi : inOf l (k : Int) = Sp.inL l k := by unfold inOf; rw [decide_eq_true ⟨h0, h2⟩]; rfl
      have HI := Lib.hid hi
      have hix := fun w => index_marks (Sp.inL l) k hk w
      have N1 := Lib.hid n1
      clear n1 hi
      go_enter Try.func26, Try.ntmps26
      go_wp2_with fail
      refine N1.out.mono ?_
      rintro e w1 ⟨rfl, b1⟩
      go_wp2
      go_ret
      exact ⟨by rw [HI.out]; rfl, b1⟩
    · have hd2 : decide (o ≤ 255) = false := decide_eq_false h2
      have hi : inOf l o = false := by unfold inOf; rw [decide_eq_false (fun h => h2 h.2)]; rfl
      have HI := Lib.hid hi
      clear n1 hi
      go_enter Try.func26, Try.ntmps26
      go_wp2
      go_ret
      exact ⟨by rw [HI.out]; rfl, Below.refl _ _⟩
  · have hd : decide (0 ≤ o) = false := decide_eq_false h0
    have hi : inOf l o = false := by unfold inOf; rw [decide_eq_false (fun h => h0 h.1)]; rfl
    have HI := Lib.hid hi
    clear n1 hi
    go_enter Try.func26, Try.ntmps26
    go_wp2
    go_ret
    exact ⟨by rw [HI.out]; rfl, Below.refl _ _⟩

end Go.Proofs.Ytcfkpjbakccgiaa
namespace Go.Proofs.Ytcfkpjbakccgiaa
open Go.RowKit

namespace Sp
/-- Is an object among some numbers? -/
def someOf (xs : List Int) (o : Nat) : Bool := xs.any fun x => decide (x = (o : Int))
theorem someOf_take (xs : List Int) (k : Nat) (h : k < xs.length) (o : Nat) : someOf (xs.take (k + 1)) o = (someOf (xs.take k) o || decide (xs[k] = (o : Int))) := by
  unfold someOf
  rw [List.take_succ_eq_append_getElem h, List.any_append]
  simp
/-- Is an object in one of the first k lists? -/
def anyTo (ls : List (List (Int × Int))) : Nat → Nat → Bool
  | 0, _ => false
  | k + 1, o => anyTo ls k o || inL (ls.getD k []) o
def joinS (ls : List (List (Int × Int))) : List (Int × Int) := ofL (anyTo ls ls.length)
def meetS (l r : List (Int × Int)) : List (Int × Int) := ofL fun o => inL l o && inL r o
def lessS (l r : List (Int × Int)) : List (Int × Int) := ofL fun o => inL l o && !inL r o
/-- Half of a round. -/
def mixTo (h : Bool → Bool → Bool) (f g : Nat → Bool) (n : Nat) : Nat → Bool := fun j => if j < n then h (f j) (g j) else f j
theorem mix_start (h : Bool → Bool → Bool) (f g : Nat → Bool) (i : Nat) : f i = mixTo h f g 0 i := by unfold mixTo; rw [if_neg (by omega)]
theorem mix_here (h : Bool → Bool → Bool) (f g : Nat → Bool) (n : Nat) : mixTo h f g n n = f n := by unfold mixTo; rw [if_neg (by omega)]
theorem mix_step (h : Bool → Bool → Bool) (f g : Nat → Bool) (n : Nat) (x : Bool) (hx : x = h (f n) (g n)) (i : Nat) : (if i = n then x else mixTo h f g n i) = mixTo h f g (n + 1) i := by
  unfold mixTo
  by_cases e : i = n
  · subst e
    rw [if_pos rfl, if_pos (by omega), hx]
  · rw [if_neg e]
    by_cases hl : i < n
    · rw [if_pos hl, if_pos (by omega)]
    · rw [if_neg hl, if_neg (by omega)]
theorem mix_end (h : Bool → Bool → Bool) (f g : Nat → Bool) (i : Nat) (hi : i < 256) : mixTo h f g 256 i = h (f i) (g i) := by unfold mixTo; rw [if_pos hi]
end Sp

set_option maxRecDepth 100000 in
set_option maxHeartbeats 1600000 in
theorem sjoin_any (A : Option Addr) (c1 : Nat) (ls : List (List (Int × Int))) (w : World) (hl : ls.length ≤ 9223372036854775807) (h1 : Rows w A ls) :
    Calls Try.prog 64 #[.slice A ls.length c1] w (GivesS (Sp.joinS ls) w) := by
  have hls := h1.len
  have H1 := Lib.hid h1
  clear h1
  go_enter Try.func64, Try.ntmps64
  go_wp2_with fail
  rw [marks_zero]
  go_loopw [4] (fun s4 wr => ∃ k : Nat, k ≤ ls.length ∧ s4 = .int .i64 (k : Int) ∧ Blk wr w.heap.size 63 (Sp.arr (Sp.anyTo ls k)) ∧ Below w.heap.size w wr) (fun s4 _ => ls.length - (intOf s4).toNat)
  case atStart => exact ⟨0, Nat.zero_le _, rfl, Blk.new _ _ _, below_new (Below.refl _ _) _⟩
  case round =>
    obtain ⟨k, hk, rfl, hB, hbw⟩ := hrel
    by_cases hlt : k < ls.length
    · have hne : ls ≠ [] := fun e => by subst e; simp at hlt
      obtain ⟨b, off, hA, hcA⟩ := (H1.out.later hbw) hne
      obtain ⟨A2, c2, e0, hL⟩ := hcA k hlt
      have hlen := hls k hlt
      have hS := hL.stamps
      subst hA
      have hi0 : (0 : Int) ≤ (k : Int) := by omega
      have hi1 : (k : Int) < (ls.length : Int) := by omega
      have hjs : ∀ n, Sp.anyTo ls (k + 1) n = (Sp.anyTo ls k n || Sp.inL (ls.getD k []) n) := fun n => rfl
      have n1 := fun w h => set_any A2 c2 (ls.getD k []) w hlen h
      obtain ⟨f, hf⟩ : ∃ f, Sp.anyTo ls k = f := ⟨_, rfl⟩
      obtain ⟨g, hg⟩ : ∃ g, Sp.inL (ls.getD k []) = g := ⟨_, rfl⟩
      obtain ⟨m, hm⟩ : ∃ m, (ls.getD k []).length = m := ⟨_, rfl⟩
      rw [hg] at n1
      rw [hf, hg] at hjs
      rw [hf] at hB
      rw [hm] at e0 n1
      have HJS := Lib.hid hjs
      have N1 := Lib.hid n1
      have HS := Lib.hid hS
      have HB := Lib.hid hB
      clear hjs n1 hS hB hcA hf hg hm hL
      go_wp2_with fail
      refine (N1.out _ HS.out).mono ?_
      rintro e w2 ⟨rfl, hb2⟩
      have hbx := below_on hbw hb2
      have B1 := HB.out.later hb2
      have hz := hbx.size
      have hlt1 := B1.lt
      clear N1 HS HB hb2
      go_wp2_with (refine wpList_store_row rfl 63 _ _ rfl w2.heap.size (Sp.arr g) rfl rfl 63 (Sp.arr fun _ => false) ?s1 (by rw [Sp.arr_size]; exact info256) (by rw [Sp.arr_size, Sp.arr_size]) (one_marks _) ?_)
      case s1 =>
        rw [← marks_zero]
        exact Blk.new w2 _ _
      rw [marks_zero]
      have B5 := (Blk.new w2 63 (Sp.arr fun _ => false)).row (Sp.arr g)
      have B4 := (B1.alloc (.cells (Sp.arr fun _ => false) 63)).rowFar (g' := w2.heap.size) (by omega) (Sp.arr g)
      have b6 := below_setRow (below_new hbx (.cells (Sp.arr fun _ => false) 63)) (g := w2.heap.size) hz (Sp.arr g)
      go_loopw [6] (fun s6 wq => ∃ n : Nat, n ≤ 256 ∧ s6 = .int .i64 (n : Int) ∧ Blk wq w.heap.size 63 (Sp.arr (Sp.mixTo or f g n)) ∧ Blk wq w2.heap.size 63 (Sp.arr g) ∧ Below w.heap.size w wq) (fun s6 _ => 256 - (intOf s6).toNat)
      case atStart => exact ⟨0, by omega, rfl, B4.marks_same (fun i _ => Sp.mix_start or f g i), B5, b6⟩
      case round =>
        obtain ⟨n, hn, rfl, hC, hD, hbq⟩ := hrel
        clear B5 B4 b6 B1
        by_cases hlt2 : n < 256
        · have x0 := hC.marks_cell n hlt2
          have x1 := hC.free n
          have y0 := hD.marks_cell n hlt2
          rw [Sp.mix_here] at x0
          have hj0 : (0 : Int) ≤ (n : Int) := by omega
          have hj1 : (n : Int) < 256 := by omega
          have hfin : ∀ v, v = (f n || g n) → Blk (wr.setCell ⟨w.heap.size, n, none⟩ (.bool v)) w.heap.size 63 (Sp.arr (Sp.mixTo or f g (n + 1))) ∧ Blk (wr.setCell ⟨w.heap.size, n, none⟩ (.bool v)) w2.heap.size 63 (Sp.arr g) ∧ Below w.heap.size w (wr.setCell ⟨w.heap.size, n, none⟩ (.bool v)) := fun v hv =>
            ⟨(hC.marks_put n hlt2 v).marks_same (fun i _ => Sp.mix_step or f g n v hv i), hD.far (p := ⟨w.heap.size, n, none⟩) (by show w2.heap.size ≠ w.heap.size; omega) _, hbq.setCell (p := ⟨w.heap.size, n, none⟩) (Nat.le_refl _) _⟩
          have HFIN := Lib.hid hfin
          clear hC hD hfin
          cases hfn : f n
          · rw [hfn] at x0
            have HV := Lib.hid (show g n = (f n || g n) from by rw [hfn]; rfl)
            clear hfn
            go_wp2_with fail
            go_roundw
            case rel =>
              obtain ⟨q1, q2, q3⟩ := HFIN.out _ HV.out
              exact ⟨n + 1, by omega, by go_num, q1, q2, q3⟩
            case measure => simp [intOf]; omega
          · rw [hfn] at x0
            have HV := Lib.hid (show true = (f n || g n) from by rw [hfn]; rfl)
            clear hfn
            go_wp2_with fail
            go_roundw
            case rel =>
              obtain ⟨q1, q2, q3⟩ := HFIN.out _ HV.out
              exact ⟨n + 1, by omega, by go_num, q1, q2, q3⟩
            case measure => simp [intOf]; omega
        · have hn64 : n = 256 := by omega
          subst hn64
          have HB9 := Lib.hid (hC.marks_same (f' := Sp.anyTo ls (k + 1)) (fun i hi => by rw [Sp.mix_end or f g i hi]; exact (HJS.out i).symm))
          clear hC hD
          go_wp2_with fail
          go_roundw
          case rel => exact ⟨k + 1, by omega, by go_num, HB9.out, hbq⟩
          case measure => simp [intOf]; omega
    · have hkl : k = ls.length := by omega
      subst hkl
      have HB := Lib.hid hB
      clear hB
      go_wp2_with (refine wpList_load_row rfl 63 _ rfl w.heap.size rfl 63 _ (0, 0) _ HB.out Try.underlying63 rfl (by rw [Sp.arr_size]; exact info256) ?_)
      refine (ofS_any _ _).mono ?_
      rintro e w3 ⟨v, rfl, ho, hb3⟩
      have HO := Lib.hid ho
      have hz := hbw.size
      clear ho
      go_wp2
      go_ret
      exact ⟨_, rfl, own_base HO.out hz, below_on hbw hb3⟩

end Go.Proofs.Ytcfkpjbakccgiaa
namespace Go.Proofs.Ytcfkpjbakccgiaa
open Go.RowKit Fb

def Sp.butNot (a b : Bool) : Bool := a && !b

set_option maxRecDepth 100000 in
set_option maxHeartbeats 1600000 in
theorem smeet_any (A B : Option Addr) (c d : Nat) (l r : List (Int × Int)) (w : World) (h1 : OneL w A c l) (h2 : OneL w B d r) :
    Calls Try.prog 66 #[.slice A l.length c, .slice B r.length d] w (GivesS (Sp.meetS l r) w) := by
  have n1 := set_any A c l w h1.len h1.stamps
  have n2 := fun wx (hx : OneL wx B d r) => set_any B d r wx h2.len hx.stamps
  have hres : Sp.meetS l r = Sp.ofL (fun o => and (Sp.inL l o) (Sp.inL r o)) := rfl
  obtain ⟨f, hf⟩ : ∃ f, Sp.inL l = f := ⟨_, rfl⟩
  obtain ⟨g, hg⟩ : ∃ g, Sp.inL r = g := ⟨_, rfl⟩
  rw [hf] at n1 hres
  rw [hg] at n2 hres
  rw [hres]
  have N1 := Lib.hid n1
  have N2 := Lib.hid n2
  have H2 := Lib.hid h2
  clear n1 n2 h1 h2 hf hg hres
  go_enter Try.func66, Try.ntmps66
  go_wp2_with fail
  refine N1.out.mono ?_
  rintro e w1 ⟨rfl, b1⟩
  have N3 := Lib.hid (N2.out w1 (H2.out.later b1))
  clear N1 N2 H2
  go_wp2_with fail
  refine N3.out.mono ?_
  rintro e w2 ⟨rfl, b2⟩
  clear N3
  have bb2 := below_on b1 b2
  have hz := bb2.size
  have C0 := (Blk.new w2 63 (Sp.arr fun _ => false)).alloc (.cells (Sp.arr fun _ => false) 63)
  have C1 := Blk.new (w2.alloc (.cells (Sp.arr fun _ => false) 63)) 63 (Sp.arr fun _ => false)
  rw [show (w2.alloc (.cells (Sp.arr fun _ => false) 63)).heap.size = w2.heap.size + 1 from by simp] at C1
  have D0 := (C0.row (Sp.arr f)).rowFar (g' := w2.heap.size + 1) (by omega) (Sp.arr g)
  have D1 := (C1.rowFar (g' := w2.heap.size) (by omega) (Sp.arr f)).row (Sp.arr g)
  have E1 := C1.rowFar (g' := w2.heap.size) (by omega) (Sp.arr f)
  have b6 := below_setRow (below_setRow (below_new (below_new bb2 (.cells (Sp.arr fun _ => false) 63)) (.cells (Sp.arr fun _ => false) 63)) (g := w2.heap.size) hz (Sp.arr f)) (g := w2.heap.size + 1) (by omega) (Sp.arr g)
  rw [← marks_zero] at C0 E1
  go_wp2_with (first | (refine wpList_store_row rfl 63 _ _ rfl w2.heap.size (Sp.arr f) rfl rfl 63 Try.zeroCells63 C0 (by rw [Sp.arr_size]; exact info256) (by rw [marks_zero, Sp.arr_size, Sp.arr_size]) (one_marks _) ?_) | (refine wpList_store_row rfl 63 _ _ rfl (w2.heap.size + 1) (Sp.arr g) rfl rfl 63 Try.zeroCells63 E1 (by rw [Sp.arr_size]; exact info256) (by rw [marks_zero, Sp.arr_size, Sp.arr_size]) (one_marks _) ?_))
  rw [marks_zero]
  clear C0 C1 E1
  go_loopw [7] (fun s7 wq => ∃ n : Nat, n ≤ 256 ∧ s7 = .int .i64 (n : Int) ∧ Blk wq w2.heap.size 63 (Sp.arr (Sp.mixTo and f g n)) ∧ Blk wq (w2.heap.size + 1) 63 (Sp.arr g) ∧ Below w.heap.size w wq) (fun s7 _ => 256 - (intOf s7).toNat)
  case atStart => exact ⟨0, by omega, rfl, D0.marks_same (fun i _ => Sp.mix_start and f g i), D1, b6⟩
  case round =>
    obtain ⟨n, hn, rfl, hC, hD, hbq⟩ := hrel
    clear D0 D1 b6
    by_cases hlt2 : n < 256
    · have x0 := hC.marks_cell n hlt2
      have x1 := hC.free n
      have y0 := hD.marks_cell n hlt2
      rw [Sp.mix_here] at x0
      have hj0 : (0 : Int) ≤ (n : Int) := by omega
      have hj1 : (n : Int) < 256 := by omega
      have hfin : ∀ v, v = and (f n) (g n) → Blk (wr.setCell ⟨w2.heap.size, n, none⟩ (.bool v)) w2.heap.size 63 (Sp.arr (Sp.mixTo and f g (n + 1))) ∧ Blk (wr.setCell ⟨w2.heap.size, n, none⟩ (.bool v)) (w2.heap.size + 1) 63 (Sp.arr g) ∧ Below w.heap.size w (wr.setCell ⟨w2.heap.size, n, none⟩ (.bool v)) := fun v hv =>
        ⟨(hC.marks_put n hlt2 v).marks_same (fun i _ => Sp.mix_step and f g n v hv i), hD.far (p := ⟨w2.heap.size, n, none⟩) (by show w2.heap.size + 1 ≠ w2.heap.size; omega) _, hbq.setCell (p := ⟨w2.heap.size, n, none⟩) hz _⟩
      have HFIN := Lib.hid hfin
      clear hC hD hfin
      cases hfn : f n <;> cases hgn : g n
      all_goals
        rw [hfn] at x0
        rw [hgn] at y0
        rw [hfn, hgn] at HFIN
        clear hfn hgn
        go_wp2_with fail
        go_roundw
        case rel =>
          obtain ⟨q1, q2, q3⟩ := HFIN.out _ rfl
          exact ⟨n + 1, by omega, by go_num, q1, q2, q3⟩
        case measure => simp [intOf]; omega
    · have hn64 : n = 256 := by omega
      subst hn64
      have HB9 := Lib.hid (hC.marks_same (f' := fun o => and (f o) (g o)) (fun i hi => Sp.mix_end and f g i hi))
      clear hC hD
      go_wp2_with (refine wpList_load_row rfl 63 _ rfl w2.heap.size rfl 63 _ (0, 0) _ HB9.out Try.underlying63 rfl (by rw [Sp.arr_size]; exact info256) ?_)
      refine (ofS_any _ _).mono ?_
      rintro e w3 ⟨v, rfl, ho, hb3⟩
      have HO := Lib.hid ho
      have hz3 := hbq.size
      clear ho
      go_wp2
      go_ret
      exact ⟨_, rfl, own_base HO.out hz3, below_on hbq hb3⟩

set_option maxRecDepth 100000 in
set_option maxHeartbeats 1600000 in
theorem sless_any (A B : Option Addr) (c d : Nat) (l r : List (Int × Int)) (w : World) (h1 : OneL w A c l) (h2 : OneL w B d r) :
    Calls Try.prog 32 #[.slice A l.length c, .slice B r.length d] w (GivesS (Sp.lessS l r) w) := by
  have n1 := set_any A c l w h1.len h1.stamps
  have n2 := fun wx (hx : OneL wx B d r) => set_any B d r wx h2.len hx.stamps
  have hres : Sp.lessS l r = Sp.ofL (fun o => Sp.butNot (Sp.inL l o) (Sp.inL r o)) := rfl
  obtain ⟨f, hf⟩ : ∃ f, Sp.inL l = f := ⟨_, rfl⟩
  obtain ⟨g, hg⟩ : ∃ g, Sp.inL r = g := ⟨_, rfl⟩
  rw [hf] at n1 hres
  rw [hg] at n2 hres
  rw [hres]
  have N1 := Lib.hid n1
  have N2 := Lib.hid n2
  have H2 := Lib.hid h2
  clear n1 n2 h1 h2 hf hg hres
  go_enter Try.func32, Try.ntmps32
  go_wp2_with fail
  refine N1.out.mono ?_
  rintro e w1 ⟨rfl, b1⟩
  have N3 := Lib.hid (N2.out w1 (H2.out.later b1))
  clear N1 N2 H2
  go_wp2_with fail
  refine N3.out.mono ?_
  rintro e w2 ⟨rfl, b2⟩
  clear N3
  have bb2 := below_on b1 b2
  have hz := bb2.size
  have C0 := (Blk.new w2 63 (Sp.arr fun _ => false)).alloc (.cells (Sp.arr fun _ => false) 63)
  have C1 := Blk.new (w2.alloc (.cells (Sp.arr fun _ => false) 63)) 63 (Sp.arr fun _ => false)
  rw [show (w2.alloc (.cells (Sp.arr fun _ => false) 63)).heap.size = w2.heap.size + 1 from by simp] at C1
  have D0 := (C0.row (Sp.arr f)).rowFar (g' := w2.heap.size + 1) (by omega) (Sp.arr g)
  have D1 := (C1.rowFar (g' := w2.heap.size) (by omega) (Sp.arr f)).row (Sp.arr g)
  have E1 := C1.rowFar (g' := w2.heap.size) (by omega) (Sp.arr f)
  have b6 := below_setRow (below_setRow (below_new (below_new bb2 (.cells (Sp.arr fun _ => false) 63)) (.cells (Sp.arr fun _ => false) 63)) (g := w2.heap.size) hz (Sp.arr f)) (g := w2.heap.size + 1) (by omega) (Sp.arr g)
  rw [← marks_zero] at C0 E1
  go_wp2_with (first | (refine wpList_store_row rfl 63 _ _ rfl w2.heap.size (Sp.arr f) rfl rfl 63 Try.zeroCells63 C0 (by rw [Sp.arr_size]; exact info256) (by rw [marks_zero, Sp.arr_size, Sp.arr_size]) (one_marks _) ?_) | (refine wpList_store_row rfl 63 _ _ rfl (w2.heap.size + 1) (Sp.arr g) rfl rfl 63 Try.zeroCells63 E1 (by rw [Sp.arr_size]; exact info256) (by rw [marks_zero, Sp.arr_size, Sp.arr_size]) (one_marks _) ?_))
  rw [marks_zero]
  clear C0 C1 E1
  go_loopw [7] (fun s7 wq => ∃ n : Nat, n ≤ 256 ∧ s7 = .int .i64 (n : Int) ∧ Blk wq w2.heap.size 63 (Sp.arr (Sp.mixTo Sp.butNot f g n)) ∧ Blk wq (w2.heap.size + 1) 63 (Sp.arr g) ∧ Below w.heap.size w wq) (fun s7 _ => 256 - (intOf s7).toNat)
  case atStart => exact ⟨0, by omega, rfl, D0.marks_same (fun i _ => Sp.mix_start Sp.butNot f g i), D1, b6⟩
  case round =>
    obtain ⟨n, hn, rfl, hC, hD, hbq⟩ := hrel
    clear D0 D1 b6
    by_cases hlt2 : n < 256
    · have x0 := hC.marks_cell n hlt2
      have x1 := hC.free n
      have y0 := hD.marks_cell n hlt2
      rw [Sp.mix_here] at x0
      have hj0 : (0 : Int) ≤ (n : Int) := by omega
      have hj1 : (n : Int) < 256 := by omega
      have hfin : ∀ v, v = Sp.butNot (f n) (g n) → Blk (wr.setCell ⟨w2.heap.size, n, none⟩ (.bool v)) w2.heap.size 63 (Sp.arr (Sp.mixTo Sp.butNot f g (n + 1))) ∧ Blk (wr.setCell ⟨w2.heap.size, n, none⟩ (.bool v)) (w2.heap.size + 1) 63 (Sp.arr g) ∧ Below w.heap.size w (wr.setCell ⟨w2.heap.size, n, none⟩ (.bool v)) := fun v hv =>
        ⟨(hC.marks_put n hlt2 v).marks_same (fun i _ => Sp.mix_step Sp.butNot f g n v hv i), hD.far (p := ⟨w2.heap.size, n, none⟩) (by show w2.heap.size + 1 ≠ w2.heap.size; omega) _, hbq.setCell (p := ⟨w2.heap.size, n, none⟩) hz _⟩
      have HFIN := Lib.hid hfin
      clear hC hD hfin
      cases hfn : f n <;> cases hgn : g n
      all_goals
        rw [hfn] at x0
        rw [hgn] at y0
        rw [hfn, hgn] at HFIN
        clear hfn hgn
        go_wp2_with fail
        go_roundw
        case rel =>
          obtain ⟨q1, q2, q3⟩ := HFIN.out _ rfl
          exact ⟨n + 1, by omega, by go_num, q1, q2, q3⟩
        case measure => simp [intOf]; omega
    · have hn64 : n = 256 := by omega
      subst hn64
      have HB9 := Lib.hid (hC.marks_same (f' := fun o => Sp.butNot (f o) (g o)) (fun i hi => Sp.mix_end Sp.butNot f g i hi))
      clear hC hD
      go_wp2_with (refine wpList_load_row rfl 63 _ rfl w2.heap.size rfl 63 _ (0, 0) _ HB9.out Try.underlying63 rfl (by rw [Sp.arr_size]; exact info256) ?_)
      refine (ofS_any _ _).mono ?_
      rintro e w3 ⟨v, rfl, ho, hb3⟩
      have HO := Lib.hid ho
      have hz3 := hbq.size
      clear ho
      go_wp2
      go_ret
      exact ⟨_, rfl, own_base HO.out hz3, below_on hbq hb3⟩

set_option maxHeartbeats 800000 in
theorem stouch_any (A B : Option Addr) (c d : Nat) (l r : List (Int × Int)) (w : World) (h1 : OneL w A c l) (h2 : OneL w B d r) :
    Calls Try.prog 31 #[.slice A l.length c, .slice B r.length d] w fun e w' => e = .returned (.bool (Sp.touch (Sp.inL l) (Sp.inL r))) ∧ Below w.heap.size w w' := by
  have n1 := smeet_any A B c d l r w h1 h2
  have hr : Sp.touch (Sp.inL l) (Sp.inL r) = decide (0 < (Sp.meetS l r).length) := Sp.touch_ref _ _
  rw [hr]
  have N1 := Lib.hid n1
  clear n1 hr
  go_enter Try.func31, Try.ntmps31
  go_wp2_with fail
  refine N1.out.mono ?_
  rintro e w1 hg
  obtain ⟨C, k, rfl, ho, b1⟩ := hg.one
  clear hg ho
  go_wp2
  go_ret
  exact ⟨rfl, b1⟩

set_option maxHeartbeats 1600000 in
theorem stwo_any (A B : Option Addr) (c1 c2 : Nat) (l r : List (Int × Int)) (w : World) (h1 : OneL w A c1 l) (h2 : OneL w B c2 r) :
    Calls Try.prog 29 #[.slice A l.length c1, .slice B r.length c2] w (GivesS (Sp.joinS [l, r]) w) := by
  have hb0 := below_new (Below.refl w.heap.size w) (.cells #[.slice A l.length c1, .slice B r.length c2] 28)
  have hB := Blk.new w 28 #[.slice A l.length c1, .slice B r.length c2]
  have hR : Rows (w.alloc (.cells #[.slice A l.length c1, .slice B r.length c2] 28)) (some ⟨w.heap.size, 0, none⟩) [l, r] := fun _ => ⟨w.heap.size, 0, rfl, fun k hk => by
    have hk2 : k = 0 ∨ k = 1 := by simp at hk; omega
    rcases hk2 with rfl | rfl
    · exact ⟨A, c1, hB.cell rfl, h1.later hb0⟩
    · exact ⟨B, c2, hB.cell rfl, h2.later hb0⟩⟩
  have hj := sjoin_any (some ⟨w.heap.size, 0, none⟩) 2 [l, r] (w.alloc (.cells #[.slice A l.length c1, .slice B r.length c2] 28)) (by simp) hR
  have HJ := Lib.hid hj
  clear hj hR hB h1 h2
  go_enter Try.func29, Try.ntmps29
  go_wp2_with fail
  refine HJ.out.mono ?_
  rintro e w1 ⟨v, rfl, ho, hb1⟩
  have HO := Lib.hid ho
  clear ho
  go_wp2
  go_ret
  exact ⟨_, rfl, own_base HO.out (by simp), below_on hb0 hb1⟩

end Go.Proofs.Ytcfkpjbakccgiaa
namespace Go.Proofs.Ytcfkpjbakccgiaa
open Go.RowKit

theorem rright_c (c n : Int) (w : World) (h : c < 1) :
    Calls Try.prog 63 #[.agg #[.int .i64 c, .int .i64 n]] w fun e w' => e = .returned (.bool (St.rgt c n)) ∧ Below w.heap.size w w' := by
  have h0 : St.rgt c n = false := by unfold St.rgt; simp; omega
  have H0 := Lib.hid h0; clear h0
  have hd0 : decide (1 ≤ c) = false := decide_eq_false (by omega)
  go_enter Try.func63, Try.ntmps63
  go_wp2
  go_ret
  rw [H0.out]
  exact ⟨rfl, by repeat (first | exact Below.refl _ _ | exact Nat.le_refl _ | (apply Below.drew) | (refine Below.alloc ?_ ?_ _) | (refine Below.setCell ?_ ?_ _) | (simp; done) | (simp; omega))⟩

theorem rright_n (c n : Int) (w : World) (h : 1 ≤ c) (hn : n < 0) :
    Calls Try.prog 63 #[.agg #[.int .i64 c, .int .i64 n]] w fun e w' => e = .returned (.bool (St.rgt c n)) ∧ Below w.heap.size w w' := by
  have h0 : St.rgt c n = false := by unfold St.rgt; simp; omega
  have H0 := Lib.hid h0; clear h0
  have hd0 : decide (1 ≤ c) = true := decide_eq_true (by omega)
  have hd1 : decide (0 ≤ n) = false := decide_eq_false (by omega)
  go_enter Try.func63, Try.ntmps63
  go_wp2
  go_ret
  rw [H0.out]
  exact ⟨rfl, by repeat (first | exact Below.refl _ _ | exact Nat.le_refl _ | (apply Below.drew) | (refine Below.alloc ?_ ?_ _) | (refine Below.setCell ?_ ?_ _) | (simp; done) | (simp; omega))⟩

theorem rright_m (c n : Int) (w : World) (h : 1 ≤ c) (hn : 63 < n) :
    Calls Try.prog 63 #[.agg #[.int .i64 c, .int .i64 n]] w fun e w' => e = .returned (.bool (St.rgt c n)) ∧ Below w.heap.size w w' := by
  have h0 : St.rgt c n = false := by unfold St.rgt; simp; omega
  have H0 := Lib.hid h0; clear h0
  have hd0 : decide (1 ≤ c) = true := decide_eq_true (by omega)
  have hd1 : decide (0 ≤ n) = true := decide_eq_true (by omega)
  have hd2 : decide (n ≤ 63) = false := decide_eq_false (by omega)
  go_enter Try.func63, Try.ntmps63
  go_wp2
  go_ret
  rw [H0.out]
  exact ⟨rfl, by repeat (first | exact Below.refl _ _ | exact Nat.le_refl _ | (apply Below.drew) | (refine Below.alloc ?_ ?_ _) | (refine Below.setCell ?_ ?_ _) | (simp; done) | (simp; omega))⟩

theorem rright_y (c n : Int) (w : World) (h : 1 ≤ c) (hn : 0 ≤ n) (hm : n ≤ 63) :
    Calls Try.prog 63 #[.agg #[.int .i64 c, .int .i64 n]] w fun e w' => e = .returned (.bool (St.rgt c n)) ∧ Below w.heap.size w w' := by
  have h0 : St.rgt c n = true := by unfold St.rgt; simp; omega
  have H0 := Lib.hid h0; clear h0
  have hd0 : decide (1 ≤ c) = true := decide_eq_true (by omega)
  have hd1 : decide (0 ≤ n) = true := decide_eq_true (by omega)
  have hd2 : decide (n ≤ 63) = true := decide_eq_true (by omega)
  go_enter Try.func63, Try.ntmps63
  go_wp2
  go_ret
  rw [H0.out]
  exact ⟨rfl, by repeat (first | exact Below.refl _ _ | exact Nat.le_refl _ | (apply Below.drew) | (refine Below.alloc ?_ ?_ _) | (refine Below.setCell ?_ ?_ _) | (simp; done) | (simp; omega))⟩

/-- telltaleref01's Right. -/
theorem rright_any (c n : Int) (w : World) :
    Calls Try.prog 63 #[.agg #[.int .i64 c, .int .i64 n]] w fun e w' => e = .returned (.bool (St.rgt c n)) ∧ Below w.heap.size w w' := by
  by_cases h : c < 1
  · exact rright_c c n w h
  by_cases h1 : n < 0
  · exact rright_n c n w (by omega) h1
  by_cases h2 : 63 < n
  · exact rright_m c n w (by omega) h2
  · exact rright_y c n w (by omega) (by omega) (by omega)

end Go.Proofs.Ytcfkpjbakccgiaa
