/-
  What telltaleref02's Join answers of any lists of stamps in memory.
-/
import Derived.Test.YtjdiopoikppifaaRefFormed
import Derived.Test.YtjdiopoikppifaaMany
namespace Go.Proofs.Ytjdiopoikppifaa
open Go.RowKit

set_option maxRecDepth 100000 in
set_option maxHeartbeats 1600000 in
theorem rjoin_any (A : Option Addr) (c1 : Nat) (ls : List (List (Int × Int))) (w : World) (hl : ls.length ≤ 9223372036854775807) (h1 : Rows w A ls) :
    Calls Try.prog 26 #[.slice A ls.length c1] w (Gives (Ve.joinL ls) w) := by
  have hls := h1.len
  have H1 := Lib.hid h1
  clear h1
  go_enter Try.func26, Try.ntmps26
  go_wp2_with fail
  rw [← Ve.arr_zero]
  go_loopw [4] (fun s4 wr => ∃ k : Nat, k ≤ ls.length ∧ s4 = .int .i64 (k : Int) ∧ Blk wr w.heap.size 45 (Ve.arr (Ve.jnTo ls k)) ∧ Below w.heap.size w wr) (fun s4 _ => ls.length - (intOf s4).toNat)
  case atStart => exact ⟨0, Nat.zero_le _, rfl, Blk.new _ _ _, below_new (Below.refl _ _) _⟩
  case round =>
    obtain ⟨k, hk, rfl, hB, hbw⟩ := hrel
    by_cases hlt : k < ls.length
    · have hne : ls ≠ [] := fun e => by subst e; simp at hlt
      obtain ⟨b, off, hA, hcA⟩ := (H1.out.later hbw) hne
      obtain ⟨A', c', e0, hL⟩ := hcA k hlt
      have hlen := hls k hlt
      have hS := hL.stamps
      have H1' := H1
      subst hA
      have hi0 : (0 : Int) ≤ (k : Int) := by omega
      have hi1 : (k : Int) < (ls.length : Int) := by omega
      have hjs : ∀ n, Ve.jnTo ls (k + 1) n = Ve.mxTo (Ve.jnTo ls k) (Ve.cnt (ls.getD k [])) 64 n ∨ 64 ≤ n := fun n => by
        by_cases hn : n < 64
        · left
          unfold Ve.mxTo
          rw [if_pos hn]
          rfl
        · right; omega
      have n1 := fun w h => counts_any A' c' (ls.getD k []) w hlen h
      obtain ⟨f, hf⟩ : ∃ f, Ve.jnTo ls k = f := ⟨_, rfl⟩
      obtain ⟨g, hg⟩ : ∃ g, Ve.cnt (ls.getD k []) = g := ⟨_, rfl⟩
      obtain ⟨m, hm⟩ : ∃ m, (ls.getD k []).length = m := ⟨_, rfl⟩
      rw [hg] at n1
      rw [hf, hg] at hjs
      rw [hf] at hB
      rw [hm] at e0 n1
      have HJS := Lib.hid hjs
      have N1 := Lib.hid n1
      have HS := Lib.hid hS
      have HB := Lib.hid hB
      clear hjs n1 hS hB hcA hf hg hm hL
      go_wp2_with fail
      refine (N1.out _ HS.out).mono ?_
      rintro e w2 ⟨rfl, hb2⟩
      have hbx := below_on hbw hb2
      have B1 := HB.out.later hb2
      have hz := hbx.size
      have hlt1 := B1.lt
      clear N1 HS HB hb2
      go_wp2_with (refine wpList_store_row rfl 45 _ _ rfl w2.heap.size (Ve.arr g) rfl rfl 45 (Ve.arr fun _ => 0) ?s1 (by rw [Ve.arr_size]; exact info64) (by rw [Ve.arr_size, Ve.arr_size]) (one_arr _) ?_)
      case s1 =>
        rw [← Ve.arr_zero]
        exact Blk.new w2 _ _
      rw [← Ve.arr_zero]
      have B5 := (Blk.new w2 45 (Ve.arr fun _ => 0)).row (Ve.arr g)
      have B4 := (B1.alloc (.cells (Ve.arr fun _ => 0) 45)).rowFar (g' := w2.heap.size) (by omega) (Ve.arr g)
      have b6 := below_setRow (below_new hbx (.cells (Ve.arr fun _ => 0) 45)) (g := w2.heap.size) hz (Ve.arr g)
      go_loopw [6] (fun s6 wq => ∃ n : Nat, n ≤ 64 ∧ s6 = .int .i64 (n : Int) ∧ Blk wq w.heap.size 45 (Ve.arr (Ve.mxTo f g n)) ∧ Blk wq w2.heap.size 45 (Ve.arr g) ∧ Below w.heap.size w wq) (fun s6 _ => 64 - (intOf s6).toNat)
      case atStart => exact ⟨0, by omega, rfl, B4.same (fun i _ => by unfold Ve.mxTo; rw [if_neg (by omega)]), B5, b6⟩
      case round =>
        obtain ⟨n, hn, rfl, hC, hD, hbq⟩ := hrel
        clear B5 B4 b6 B1
        by_cases hlt2 : n < 64
        · have x0 := hC.arr_cell n hlt2
          have x1 := hC.free n
          have y0 := hD.arr_cell n hlt2
          rw [show Ve.mxTo f g n n = f n from by unfold Ve.mxTo; rw [if_neg (by omega)]] at x0
          have hj0 : (0 : Int) ≤ (n : Int) := by omega
          have hj1 : (n : Int) < 64 := by omega
          by_cases hgt : f n < g n
          · have B7 := (hC.arr_put n hlt2 (g n)).same (f' := Ve.mxTo f g (n + 1)) (fun i _ => Ve.mx_step f g n _ (if_pos hgt).symm i)
            have B8 := hD.far (p := ⟨w.heap.size, n, none⟩) (by show w2.heap.size ≠ w.heap.size; omega) (.int .i64 (g n))
            have HB7 := Lib.hid B7
            have HB8 := Lib.hid B8
            have hbz := hbq.setCell (p := ⟨w.heap.size, n, none⟩) (Nat.le_refl _) (.int .i64 (g n))
            clear hC hD B7 B8
            go_wp2_with fail
            go_region
            go_wp2_with fail
            go_roundw
            case rel => exact ⟨n + 1, by omega, by go_num, HB7.out.drew, HB8.out.drew, hbz.drew⟩
            case measure => simp [intOf]; omega
          · have hle : g n ≤ f n := by omega
            have B7 := (hC.arr_put n hlt2 (f n)).same (f' := Ve.mxTo f g (n + 1)) (fun i _ => Ve.mx_step f g n _ (if_neg hgt).symm i)
            have B8 := hD.far (p := ⟨w.heap.size, n, none⟩) (by show w2.heap.size ≠ w.heap.size; omega) (.int .i64 (f n))
            have HB7 := Lib.hid B7
            have HB8 := Lib.hid B8
            have hbz := hbq.setCell (p := ⟨w.heap.size, n, none⟩) (Nat.le_refl _) (.int .i64 (f n))
            clear hC hD B7 B8
            go_wp2_with fail
            go_region
            go_wp2_with fail
            go_roundw
            case rel => exact ⟨n + 1, by omega, by go_num, HB7.out.drew, HB8.out.drew, hbz.drew⟩
            case measure => simp [intOf]; omega
        · have hn64 : n = 64 := by omega
          subst hn64
          have B9 := hC.same (f' := Ve.jnTo ls (k + 1)) (fun i hi => by
            rcases HJS.out i with h | h
            · exact h.symm
            · omega)
          have HB9 := Lib.hid B9
          clear hC hD B9
          go_wp2_with fail
          go_roundw
          case rel => exact ⟨k + 1, by omega, by go_num, HB9.out, hbq⟩
          case measure => simp [intOf]; omega
    · have hkl : k = ls.length := by omega
      subst hkl
      have HB := Lib.hid hB
      clear hB
      go_wp2_with (refine wpList_load_row rfl 45 _ rfl w.heap.size rfl 45 _ (0, 0) _ HB.out Try.underlying45 rfl (by rw [Ve.arr_size]; exact info64) ?_)
      refine (of_any _ _).mono ?_
      rintro e w3 ⟨v, rfl, ho, hb3⟩
      have HO := Lib.hid ho
      have hz := hbw.size
      clear ho
      go_wp2
      go_ret
      exact ⟨_, rfl, own_base HO.out hz, below_on hbw hb3⟩

end Go.Proofs.Ytjdiopoikppifaa
