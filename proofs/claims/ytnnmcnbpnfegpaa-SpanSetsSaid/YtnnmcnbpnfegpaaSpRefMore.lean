/-
  What telltaleref03's Some, Join, Meet, Less, Covers and Touch answer.
-/
import Derived.Test.YtnnmcnbpnfegpaaSpRefSmall
namespace Go.Proofs.Ytnnmcnbpnfegpaa
open Go.RowKit

namespace Sp
/-- Is an object among some numbers? -/
def someOf (xs : List Int) (o : Nat) : Bool := xs.any fun x => decide (x = (o : Int))
theorem someOf_take (xs : List Int) (k : Nat) (h : k < xs.length) (o : Nat) : someOf (xs.take (k + 1)) o = (someOf (xs.take k) o || decide (xs[k] = (o : Int))) := by
  unfold someOf
  rw [List.take_succ_eq_append_getElem h, List.any_append]
  simp
/-- Is an object in one of the first k lists? -/
def anyTo (ls : List (List (Int × Int))) : Nat → Nat → Bool
  | 0, _ => false
  | k + 1, o => anyTo ls k o || inL (ls.getD k []) o
def joinS (ls : List (List (Int × Int))) : List (Int × Int) := ofL (anyTo ls ls.length)
def meetS (l r : List (Int × Int)) : List (Int × Int) := ofL fun o => inL l o && inL r o
def lessS (l r : List (Int × Int)) : List (Int × Int) := ofL fun o => inL l o && !inL r o
/-- Half of a round. -/
def mixTo (h : Bool → Bool → Bool) (f g : Nat → Bool) (n : Nat) : Nat → Bool := fun j => if j < n then h (f j) (g j) else f j
theorem mix_start (h : Bool → Bool → Bool) (f g : Nat → Bool) (i : Nat) : f i = mixTo h f g 0 i := by unfold mixTo; rw [if_neg (by omega)]
theorem mix_here (h : Bool → Bool → Bool) (f g : Nat → Bool) (n : Nat) : mixTo h f g n n = f n := by unfold mixTo; rw [if_neg (by omega)]
theorem mix_step (h : Bool → Bool → Bool) (f g : Nat → Bool) (n : Nat) (x : Bool) (hx : x = h (f n) (g n)) (i : Nat) : (if i = n then x else mixTo h f g n i) = mixTo h f g (n + 1) i := by
  unfold mixTo
  by_cases e : i = n
  · subst e
    rw [if_pos rfl, if_pos (by omega), hx]
  · rw [if_neg e]
    by_cases hl : i < n
    · rw [if_pos hl, if_pos (by omega)]
    · rw [if_neg hl, if_neg (by omega)]
theorem mix_end (h : Bool → Bool → Bool) (f g : Nat → Bool) (i : Nat) (hi : i < 256) : mixTo h f g 256 i = h (f i) (g i) := by unfold mixTo; rw [if_pos hi]
end Sp

set_option maxRecDepth 100000 in
set_option maxHeartbeats 1600000 in
theorem ssome_any (A : Option Addr) (c : Nat) (xs : List Int) (w : World) (hl : xs.length ≤ 9223372036854775807) (h1 : Lies w A (xs.map (Value.int .i64))) :
    Calls Try.prog 19 #[.slice A xs.length c] w (GivesS (Sp.ofL (Sp.someOf xs)) w) := by
  have H1 := Lib.hid h1
  clear h1
  go_enter Try.func19, Try.ntmps19
  go_wp2_with fail
  rw [marks_zero]
  go_loopw [4] (fun s4 wr => ∃ k : Nat, k ≤ xs.length ∧ s4 = .int .i64 (k : Int) ∧ Blk wr w.heap.size 38 (Sp.arr (Sp.someOf (xs.take k))) ∧ Below w.heap.size w wr) (fun s4 _ => xs.length - (intOf s4).toNat)
  case atStart => exact ⟨0, Nat.zero_le _, rfl, Blk.new _ _ _, below_new (Below.refl _ _) _⟩
  case round =>
    obtain ⟨k, hk, rfl, hB, hbw⟩ := hrel
    by_cases hlt : k < xs.length
    · have hne : xs.map (Value.int .i64) ≠ [] := fun e => by rw [List.map_eq_nil_iff] at e; subst e; simp at hlt
      obtain ⟨b, off, hA, hc⟩ := (H1.out.later hbw) hne
      subst hA
      have e0 := hc k (.int .i64 xs[k]) (by rw [List.getElem?_map, List.getElem?_eq_getElem hlt]; rfl)
      have hit := Sp.someOf_take xs k hlt
      obtain ⟨x, hx⟩ : ∃ x, xs[k] = x := ⟨_, rfl⟩
      rw [hx] at e0 hit
      obtain ⟨f, hf⟩ : ∃ f, Sp.someOf (xs.take k) = f := ⟨_, rfl⟩
      rw [hf] at hB hit
      have hi0 : (0 : Int) ≤ (k : Int) := by omega
      have hi1 : (k : Int) < (xs.length : Int) := by omega
      have hout : ¬ (0 ≤ x ∧ x ≤ 255) → ∀ i, i < 256 → f i = Sp.someOf (xs.take (k + 1)) i := fun h i hi => by
        rw [hit i, decide_eq_false (by omega), Bool.or_false]
      have HOUT := Lib.hid hout
      have HIT := Lib.hid hit
      have HB := Lib.hid hB
      clear hout hit hB hc hf hx
      by_cases h0 : 0 ≤ x
      · have hd : decide (0 ≤ x) = true := decide_eq_true h0
        by_cases h2 : x ≤ 255
        · have hd2 : decide (x ≤ 255) = true := decide_eq_true h2
          obtain ⟨n, rfl⟩ : ∃ n : Nat, x = (n : Int) := ⟨x.toNat, by omega⟩
          have hn : n < 256 := by omega
          have x1 := HB.out.marks_cell n hn
          have x2 := HB.out.free n
          have hj1 : (n : Int) < 256 := by omega
          have hB2 := (HB.out.marks_put n hn true).marks_same (f' := Sp.someOf (xs.take (k + 1))) (fun i _ => by
            rw [HIT.out i]
            by_cases e : i = n
            · rw [if_pos e, decide_eq_true (by omega), Bool.or_true]
            · rw [if_neg e, decide_eq_false (by omega), Bool.or_false])
          have HB2 := Lib.hid hB2
          have hbz := hbw.setCell (p := ⟨w.heap.size, n, none⟩) (Nat.le_refl _) (.bool true)
          clear hB2
          go_wp2_with fail
          go_roundw
          case rel => exact ⟨k + 1, by omega, by go_num, HB2.out, hbz⟩
          case measure => simp [intOf]; omega
        · have hd2 : decide (x ≤ 255) = false := decide_eq_false h2
          have HB2 := Lib.hid (HB.out.marks_same (HOUT.out (fun h => h2 h.2)))
          go_wp2_with fail
          go_roundw
          case rel => exact ⟨k + 1, by omega, by go_num, HB2.out, hbw⟩
          case measure => simp [intOf]; omega
      · have hd : decide (0 ≤ x) = false := decide_eq_false h0
        have HB2 := Lib.hid (HB.out.marks_same (HOUT.out (fun h => h0 h.1)))
        go_wp2_with fail
        go_roundw
        case rel => exact ⟨k + 1, by omega, by go_num, HB2.out, hbw⟩
        case measure => simp [intOf]; omega
    · have hkl : k = xs.length := by omega
      subst hkl
      rw [List.take_length] at hB
      have HB := Lib.hid hB
      clear hB
      go_wp2_with (refine wpList_load_row rfl 38 _ rfl w.heap.size rfl 38 _ (0, 0) _ HB.out Try.underlying38 rfl (by rw [Sp.arr_size]; exact info256) ?_)
      refine (ofS_any _ _).mono ?_
      rintro e w3 ⟨v, rfl, ho, hb3⟩
      have HO := Lib.hid ho
      have hz := hbw.size
      clear ho
      go_wp2
      go_ret
      exact ⟨_, rfl, own_base HO.out hz, below_on hbw hb3⟩

set_option maxRecDepth 100000 in
set_option maxHeartbeats 1600000 in
theorem sjoin_any (A : Option Addr) (c1 : Nat) (ls : List (List (Int × Int))) (w : World) (hl : ls.length ≤ 9223372036854775807) (h1 : Rows w A ls) :
    Calls Try.prog 21 #[.slice A ls.length c1] w (GivesS (Sp.joinS ls) w) := by
  have hls := h1.len
  have H1 := Lib.hid h1
  clear h1
  go_enter Try.func21, Try.ntmps21
  go_wp2_with fail
  rw [marks_zero]
  go_loopw [4] (fun s4 wr => ∃ k : Nat, k ≤ ls.length ∧ s4 = .int .i64 (k : Int) ∧ Blk wr w.heap.size 38 (Sp.arr (Sp.anyTo ls k)) ∧ Below w.heap.size w wr) (fun s4 _ => ls.length - (intOf s4).toNat)
  case atStart => exact ⟨0, Nat.zero_le _, rfl, Blk.new _ _ _, below_new (Below.refl _ _) _⟩
  case round =>
    obtain ⟨k, hk, rfl, hB, hbw⟩ := hrel
    by_cases hlt : k < ls.length
    · have hne : ls ≠ [] := fun e => by subst e; simp at hlt
      obtain ⟨b, off, hA, hcA⟩ := (H1.out.later hbw) hne
      obtain ⟨A2, c2, e0, hL⟩ := hcA k hlt
      have hlen := hls k hlt
      have hS := hL.stamps
      subst hA
      have hi0 : (0 : Int) ≤ (k : Int) := by omega
      have hi1 : (k : Int) < (ls.length : Int) := by omega
      have hjs : ∀ n, Sp.anyTo ls (k + 1) n = (Sp.anyTo ls k n || Sp.inL (ls.getD k []) n) := fun n => rfl
      have n1 := fun w h => set_any A2 c2 (ls.getD k []) w hlen h
      obtain ⟨f, hf⟩ : ∃ f, Sp.anyTo ls k = f := ⟨_, rfl⟩
      obtain ⟨g, hg⟩ : ∃ g, Sp.inL (ls.getD k []) = g := ⟨_, rfl⟩
      obtain ⟨m, hm⟩ : ∃ m, (ls.getD k []).length = m := ⟨_, rfl⟩
      rw [hg] at n1
      rw [hf, hg] at hjs
      rw [hf] at hB
      rw [hm] at e0 n1
      have HJS := Lib.hid hjs
      have N1 := Lib.hid n1
      have HS := Lib.hid hS
      have HB := Lib.hid hB
      clear hjs n1 hS hB hcA hf hg hm hL
      go_wp2_with fail
      refine (N1.out _ HS.out).mono ?_
      rintro e w2 ⟨rfl, hb2⟩
      have hbx := below_on hbw hb2
      have B1 := HB.out.later hb2
      have hz := hbx.size
      have hlt1 := B1.lt
      clear N1 HS HB hb2
      go_wp2_with (refine wpList_store_row rfl 38 _ _ rfl w2.heap.size (Sp.arr g) rfl rfl 38 (Sp.arr fun _ => false) ?s1 (by rw [Sp.arr_size]; exact info256) (by rw [Sp.arr_size, Sp.arr_size]) (one_marks _) ?_)
      case s1 =>
        rw [← marks_zero]
        exact Blk.new w2 _ _
      rw [marks_zero]
      have B5 := (Blk.new w2 38 (Sp.arr fun _ => false)).row (Sp.arr g)
      have B4 := (B1.alloc (.cells (Sp.arr fun _ => false) 38)).rowFar (g' := w2.heap.size) (by omega) (Sp.arr g)
      have b6 := below_setRow (below_new hbx (.cells (Sp.arr fun _ => false) 38)) (g := w2.heap.size) hz (Sp.arr g)
      go_loopw [6] (fun s6 wq => ∃ n : Nat, n ≤ 256 ∧ s6 = .int .i64 (n : Int) ∧ Blk wq w.heap.size 38 (Sp.arr (Sp.mixTo or f g n)) ∧ Blk wq w2.heap.size 38 (Sp.arr g) ∧ Below w.heap.size w wq) (fun s6 _ => 256 - (intOf s6).toNat)
      case atStart => exact ⟨0, by omega, rfl, B4.marks_same (fun i _ => Sp.mix_start or f g i), B5, b6⟩
      case round =>
        obtain ⟨n, hn, rfl, hC, hD, hbq⟩ := hrel
        clear B5 B4 b6 B1
        by_cases hlt2 : n < 256
        · have x0 := hC.marks_cell n hlt2
          have x1 := hC.free n
          have y0 := hD.marks_cell n hlt2
          rw [Sp.mix_here] at x0
          have hj0 : (0 : Int) ≤ (n : Int) := by omega
          have hj1 : (n : Int) < 256 := by omega
          have hfin : ∀ v, v = (f n || g n) → Blk (wr.setCell ⟨w.heap.size, n, none⟩ (.bool v)) w.heap.size 38 (Sp.arr (Sp.mixTo or f g (n + 1))) ∧ Blk (wr.setCell ⟨w.heap.size, n, none⟩ (.bool v)) w2.heap.size 38 (Sp.arr g) ∧ Below w.heap.size w (wr.setCell ⟨w.heap.size, n, none⟩ (.bool v)) := fun v hv =>
            ⟨(hC.marks_put n hlt2 v).marks_same (fun i _ => Sp.mix_step or f g n v hv i), hD.far (p := ⟨w.heap.size, n, none⟩) (by show w2.heap.size ≠ w.heap.size; omega) _, hbq.setCell (p := ⟨w.heap.size, n, none⟩) (Nat.le_refl _) _⟩
          have HFIN := Lib.hid hfin
          clear hC hD hfin
          cases hfn : f n
          · rw [hfn] at x0
            have HV := Lib.hid (show g n = (f n || g n) from by rw [hfn]; rfl)
            clear hfn
            go_wp2_with fail
            go_roundw
            case rel =>
              obtain ⟨q1, q2, q3⟩ := HFIN.out _ HV.out
              exact ⟨n + 1, by omega, by go_num, q1, q2, q3⟩
            case measure => simp [intOf]; omega
          · rw [hfn] at x0
            have HV := Lib.hid (show true = (f n || g n) from by rw [hfn]; rfl)
            clear hfn
            go_wp2_with fail
            go_roundw
            case rel =>
              obtain ⟨q1, q2, q3⟩ := HFIN.out _ HV.out
              exact ⟨n + 1, by omega, by go_num, q1, q2, q3⟩
            case measure => simp [intOf]; omega
        · have hn64 : n = 256 := by omega
          subst hn64
          have HB9 := Lib.hid (hC.marks_same (f' := Sp.anyTo ls (k + 1)) (fun i hi => by rw [Sp.mix_end or f g i hi]; exact (HJS.out i).symm))
          clear hC hD
          go_wp2_with fail
          go_roundw
          case rel => exact ⟨k + 1, by omega, by go_num, HB9.out, hbq⟩
          case measure => simp [intOf]; omega
    · have hkl : k = ls.length := by omega
      subst hkl
      have HB := Lib.hid hB
      clear hB
      go_wp2_with (refine wpList_load_row rfl 38 _ rfl w.heap.size rfl 38 _ (0, 0) _ HB.out Try.underlying38 rfl (by rw [Sp.arr_size]; exact info256) ?_)
      refine (ofS_any _ _).mono ?_
      rintro e w3 ⟨v, rfl, ho, hb3⟩
      have HO := Lib.hid ho
      have hz := hbw.size
      clear ho
      go_wp2
      go_ret
      exact ⟨_, rfl, own_base HO.out hz, below_on hbw hb3⟩

end Go.Proofs.Ytnnmcnbpnfegpaa
