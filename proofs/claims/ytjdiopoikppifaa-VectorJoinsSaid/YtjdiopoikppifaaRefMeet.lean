/-
  What telltaleref02's Meet answers of any lists of stamps in memory.
-/
import Derived.Test.YtjdiopoikppifaaRefJoin
namespace Go.Proofs.Ytjdiopoikppifaa
open Go.RowKit

set_option maxRecDepth 100000 in
set_option maxHeartbeats 1600000 in
theorem rmeet_any (A : Option Addr) (c1 : Nat) (ls : List (List (Int × Int))) (w : World) (hl : ls.length ≤ 9223372036854775807) (h1 : Rows w A ls) :
    Calls Try.prog 27 #[.slice A ls.length c1] w (Gives (Ve.meetL ls) w) := by
  have hls := h1.len
  have H1 := Lib.hid h1
  clear h1
  by_cases hne : ls = []
  · subst hne
    have hd : (((0 : Nat) : Int) == 0) = true := rfl
    go_enter Try.func27, Try.ntmps27
    go_wp2
    go_ret
    exact ⟨_, rfl, ⟨rfl, .inl ⟨rfl, rfl⟩⟩, Below.refl _ _⟩
  have hpos : 0 < ls.length := List.length_pos_iff.2 hne
  have hd : ((ls.length : Int) == 0) = false := beq_eq_false_iff_ne.2 (by omega)
  obtain ⟨b, off, hA, hcA⟩ := H1.out hne
  obtain ⟨A', c', e0, hL⟩ := hcA 0 hpos
  rw [Nat.add_zero] at e0
  have hlen := hls 0 hpos
  have hS := hL.stamps
  have H1' := H1
  subst hA
  have hm0 : Ve.cnt (ls.getD 0 []) = Ve.mtTo ls 0 := rfl
  have n1 := fun w h => counts_any A' c' (ls.getD 0 []) w hlen h
  rw [hm0] at n1
  obtain ⟨m, hm⟩ : ∃ m, (ls.getD 0 []).length = m := ⟨_, rfl⟩
  rw [hm] at e0 n1
  have N1 := Lib.hid n1
  have HS := Lib.hid hS
  clear n1 hS hm hL hm0 hcA hne
  have hi1 : (0 : Int) < (ls.length : Int) := by omega
  go_enter Try.func27, Try.ntmps27
  go_wp2_with fail
  refine (N1.out _ HS.out).mono ?_
  rintro e w1 ⟨rfl, hb1⟩
  have hz1 := hb1.size
  go_wp2_with (refine wpList_store_row rfl 45 _ _ rfl w1.heap.size (Ve.arr (Ve.mtTo ls 0)) rfl rfl 45 (Ve.arr fun _ => 0) ?s0 (by rw [Ve.arr_size]; exact info64) (by rw [Ve.arr_size, Ve.arr_size]) (one_arr _) ?_)
  case s0 =>
    rw [← Ve.arr_zero]
    exact Blk.new w1 _ _
  rw [← Ve.arr_zero]
  have B0 := (Blk.new w1 45 (Ve.arr fun _ => 0)).row (Ve.arr (Ve.mtTo ls 0))
  have b0 := below_setRow (below_new (below_on (Below.refl _ _) hb1) (.cells (Ve.arr fun _ => 0) 45)) (g := w1.heap.size) hz1 (Ve.arr (Ve.mtTo ls 0))
  clear N1 HS e0
  go_loopw [4] (fun s4 wr => ∃ k : Nat, k + 1 ≤ ls.length ∧ s4 = .int .i64 ((k + 1 : Nat) : Int) ∧ Blk wr w1.heap.size 45 (Ve.arr (Ve.mtTo ls k)) ∧ Below w.heap.size w wr) (fun s4 _ => ls.length - (intOf s4).toNat)
  case atStart => exact ⟨0, hpos, rfl, B0, b0⟩
  case round =>
    obtain ⟨k, hk, rfl, hB, hbw⟩ := hrel
    clear B0 b0 hb1
    by_cases hlt : k + 1 < ls.length
    · have hne : ls ≠ [] := fun e => by subst e; simp at hlt
      obtain ⟨b', off', hA, hcA⟩ := (H1.out.later hbw) hne
      obtain ⟨A2, c2, e0, hL⟩ := hcA (k + 1) hlt
      have hlen := hls (k + 1) hlt
      have hS := hL.stamps
      injection hA with hA
      injection hA with hA1 hA2
      subst hA1 hA2
      have hi0 : (0 : Int) ≤ ((k + 1 : Nat) : Int) := by omega
      have hi1 : ((k + 1 : Nat) : Int) < (ls.length : Int) := by omega
      have hjs : ∀ n, Ve.mtTo ls (k + 1) n = Ve.mnTo (Ve.mtTo ls k) (Ve.cnt (ls.getD (k + 1) [])) 64 n ∨ 64 ≤ n := fun n => by
        by_cases hn : n < 64
        · left
          unfold Ve.mnTo
          rw [if_pos hn]
          rfl
        · right; omega
      have n1 := fun w h => counts_any A2 c2 (ls.getD (k + 1) []) w hlen h
      obtain ⟨f, hf⟩ : ∃ f, Ve.mtTo ls k = f := ⟨_, rfl⟩
      obtain ⟨g, hg⟩ : ∃ g, Ve.cnt (ls.getD (k + 1) []) = g := ⟨_, rfl⟩
      obtain ⟨m, hm⟩ : ∃ m, (ls.getD (k + 1) []).length = m := ⟨_, rfl⟩
      rw [hg] at n1
      rw [hf, hg] at hjs
      rw [hf] at hB
      rw [hm] at e0 n1
      have HJS := Lib.hid hjs
      have N1 := Lib.hid n1
      have HS := Lib.hid hS
      have HB := Lib.hid hB
      clear hjs n1 hS hB hcA hf hg hm hL
      go_wp2_with fail
      refine (N1.out _ HS.out).mono ?_
      rintro e w2 ⟨rfl, hb2⟩
      have hbx := below_on hbw hb2
      have B1 := HB.out.later hb2
      have hz := hbx.size
      have hlt1 := B1.lt
      clear N1 HS HB hb2
      go_wp2_with (refine wpList_store_row rfl 45 _ _ rfl w2.heap.size (Ve.arr g) rfl rfl 45 (Ve.arr fun _ => 0) ?s1 (by rw [Ve.arr_size]; exact info64) (by rw [Ve.arr_size, Ve.arr_size]) (one_arr _) ?_)
      case s1 =>
        rw [← Ve.arr_zero]
        exact Blk.new w2 _ _
      rw [← Ve.arr_zero]
      have B5 := (Blk.new w2 45 (Ve.arr fun _ => 0)).row (Ve.arr g)
      have B4 := (B1.alloc (.cells (Ve.arr fun _ => 0) 45)).rowFar (g' := w2.heap.size) (by omega) (Ve.arr g)
      have b6 := below_setRow (below_new hbx (.cells (Ve.arr fun _ => 0) 45)) (g := w2.heap.size) hz (Ve.arr g)
      go_loopw [6] (fun s6 wq => ∃ n : Nat, n ≤ 64 ∧ s6 = .int .i64 (n : Int) ∧ Blk wq w1.heap.size 45 (Ve.arr (Ve.mnTo f g n)) ∧ Blk wq w2.heap.size 45 (Ve.arr g) ∧ Below w.heap.size w wq) (fun s6 _ => 64 - (intOf s6).toNat)
      case atStart => exact ⟨0, by omega, rfl, B4.same (fun i _ => by unfold Ve.mnTo; rw [if_neg (by omega)]), B5, b6⟩
      case round =>
        obtain ⟨n, hn, rfl, hC, hD, hbq⟩ := hrel
        clear B5 B4 b6 B1
        by_cases hlt2 : n < 64
        · have x0 := hC.arr_cell n hlt2
          have x1 := hC.free n
          have y0 := hD.arr_cell n hlt2
          rw [show Ve.mnTo f g n n = f n from by unfold Ve.mnTo; rw [if_neg (by omega)]] at x0
          have hj0 : (0 : Int) ≤ (n : Int) := by omega
          have hj1 : (n : Int) < 64 := by omega
          by_cases hgt : g n < f n
          · have B7 := (hC.arr_put n hlt2 (g n)).same (f' := Ve.mnTo f g (n + 1)) (fun i _ => Ve.mn_step f g n _ (if_pos hgt).symm i)
            have B8 := hD.far (p := ⟨w1.heap.size, n, none⟩) (by show w2.heap.size ≠ w1.heap.size; omega) (.int .i64 (g n))
            have HB7 := Lib.hid B7
            have HB8 := Lib.hid B8
            have hbz := hbq.setCell (p := ⟨w1.heap.size, n, none⟩) hz1 (.int .i64 (g n))
            clear hC hD B7 B8
            go_wp2_with fail
            go_region
            go_wp2_with fail
            go_roundw
            case rel => exact ⟨n + 1, by omega, by go_num, HB7.out.drew, HB8.out.drew, hbz.drew⟩
            case measure => simp [intOf]; omega
          · have hle : f n ≤ g n := by omega
            have B7 := (hC.arr_put n hlt2 (f n)).same (f' := Ve.mnTo f g (n + 1)) (fun i _ => Ve.mn_step f g n _ (if_neg hgt).symm i)
            have B8 := hD.far (p := ⟨w1.heap.size, n, none⟩) (by show w2.heap.size ≠ w1.heap.size; omega) (.int .i64 (f n))
            have HB7 := Lib.hid B7
            have HB8 := Lib.hid B8
            have hbz := hbq.setCell (p := ⟨w1.heap.size, n, none⟩) hz1 (.int .i64 (f n))
            clear hC hD B7 B8
            go_wp2_with fail
            go_region
            go_wp2_with fail
            go_roundw
            case rel => exact ⟨n + 1, by omega, by go_num, HB7.out.drew, HB8.out.drew, hbz.drew⟩
            case measure => simp [intOf]; omega
        · have hn64 : n = 64 := by omega
          subst hn64
          have B9 := hC.same (f' := Ve.mtTo ls (k + 1)) (fun i hi => by
            rcases HJS.out i with h | h
            · exact h.symm
            · omega)
          have HB9 := Lib.hid B9
          clear hC hD B9
          go_wp2_with fail
          go_roundw
          case rel => exact ⟨k + 1, by omega, by go_num, HB9.out, hbq⟩
          case measure => simp [intOf]; omega
    · have hkl : ls.length = k + 1 := by omega
      have hres : Ve.meetL ls = Ve.ofL (Ve.mtTo ls k) := by unfold Ve.meetL Ve.mt; rw [if_neg (fun e => by subst e; simp at hpos), hkl]; rfl
      have HRES := Lib.hid hres
      have HB := Lib.hid hB
      clear hB hres
      go_wp2_with (refine wpList_load_row rfl 45 _ rfl w1.heap.size rfl 45 _ (0, 0) _ HB.out Try.underlying45 rfl (by rw [Ve.arr_size]; exact info64) ?_)
      refine (of_any _ _).mono ?_
      rintro e w3 ⟨v, rfl, ho, hb3⟩
      have HO := Lib.hid ho
      have hz := hbw.size
      clear ho
      go_wp2
      go_ret
      exact ⟨_, rfl, by rw [HRES.out]; exact own_base HO.out hz, below_on hbw hb3⟩

end Go.Proofs.Ytjdiopoikppifaa
