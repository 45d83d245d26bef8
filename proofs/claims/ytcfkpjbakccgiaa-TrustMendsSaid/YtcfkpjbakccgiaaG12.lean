/-
  What telltaleref10's stretched answers.
  What telltaleref10's Take answers.
  Plain mathematics of what trust promises: zones of a function are formed and say what it says; a note twice; what stays sharp; what a sum mends. Nothing of the program is imported but the contracts' words.
  Plain mathematics of what trust promises: what stays sharp, no reach falls behind; what a sum mends.
-/
import Derived.Test.YtcfkpjbakccgiaaG11
import Derived.Test.YtcfkpjbakccgiaaG09
import Derived.Test.YtcfkpjbakccgiaaG08
import Derived.Deep.LoopGhost
import Derived.Deep.CutRange
import Derived.Deep.DeepCutAuto
namespace Go.Proofs.Ytcfkpjbakccgiaa
open Go.RowKit Fb

namespace Tr
def strTo (c s e : Nat → Int) (k i : Nat) : Int := if i < k then str c s e i else c i
theorem str_start (c s e : Nat → Int) (i : Nat) : c i = strTo c s e 0 i := by unfold strTo; rw [if_neg (by omega)]
theorem str_here (c s e : Nat → Int) (k : Nat) : strTo c s e k k = c k := by unfold strTo; rw [if_neg (by omega)]
theorem str_step (c s e : Nat → Int) (k : Nat) {x : Int} (hx : x = str c s e k) (i : Nat) : (if i = k then x else strTo c s e k i) = strTo c s e (k + 1) i := by
  unfold strTo
  by_cases q : i = k
  · subst q
    rw [if_pos rfl, if_pos (Nat.lt_succ_self _), hx]
  · rw [if_neg q]
    by_cases r : i < k
    · rw [if_pos r, if_pos (by omega)]
    · rw [if_neg r, if_neg (by omega)]
theorem str_same (c s e : Nat → Int) (k : Nat) (h : str c s e k = c k) (i : Nat) : strTo c s e k i = strTo c s e (k + 1) i := by
  unfold strTo
  by_cases q : i = k
  · subst q
    rw [if_neg (Nat.lt_irrefl _), if_pos (Nat.lt_succ_self _), h]
  · by_cases r : i < k
    · rw [if_pos r, if_pos (by omega)]
    · rw [if_neg r, if_neg (by omega)]
theorem str_end (c s e : Nat → Int) (i : Nat) (hi : i < 64) : strTo c s e 64 i = str c s e i := by unfold strTo; rw [if_pos hi]
end Tr

set_option maxRecDepth 100000 in
set_option maxHeartbeats 6400000 in
theorem zstretched_any (X S E B V : Option Addr) (cx cs ce cb cv : Nat) (l : List (Int × Int)) (n : Note) (o : Int) (w : World) (hX : OneL w X cx l) (h1 : NoteAt w S E B V cs ce cb cv n) :
    Calls Try.prog 60 #[.slice X l.length cx, .agg (noteCells S E B V cs ce cb cv n), .int .i64 o] w (Ans (Tr.strd l n o) w) := by
  obtain ⟨W, hW⟩ : ∃ W, w.alloc (.cells (noteCells S E B V cs ce cb cv n) 38) = W := ⟨_, rfl⟩
  have hb0 : Below w.heap.size w W := by rw [← hW]; exact below_new (Below.refl _ _) _
  have hB0 : Blk W w.heap.size 38 (noteCells S E B V cs ce cb cv n) := by rw [← hW]; exact Blk.new w _ _
  have hN := h1.later hb0
  have hX0 := hX.later hb0
  have C0 := Lib.hid (fun wx (hb : Below W.heap.size W wx) => counts_any X cx l wx hX0.len (hX0.later hb).stamps)
  have C1 := Lib.hid (fun wx (hb : Below W.heap.size W wx) => counts_any S cs n.s wx hN.hs.len (hN.hs.later hb).stamps)
  have C2 := Lib.hid (fun wx (hb : Below W.heap.size W wx) => counts_any E ce n.e wx hN.he.len (hN.he.later hb).stamps)
  have AT := Lib.hid (fun wx (hb : Below W.heap.size W wx) => nat_any V cv n.ws o wx (hN.hv.later hb))
  have P0 := Lib.hid (show W.cell? ⟨w.heap.size, 0, none⟩ = some (.slice S n.s.length cs) from hB0.cell rfl)
  have P1 := Lib.hid (show W.cell? ⟨w.heap.size, 1, none⟩ = some (.slice E n.e.length ce) from hB0.cell rfl)
  have P3 := Lib.hid (show W.cell? ⟨w.heap.size, 3, none⟩ = some (.slice V n.ws.length cv) from hB0.cell rfl)
  have HX0 := Lib.hid hX0
  have HB0 := Lib.hid hb0
  have HW := Lib.hid hW
  obtain ⟨CV, hCV⟩ : ∃ CV, Ve.cnt l = CV := ⟨_, rfl⟩
  obtain ⟨CS, hCS⟩ : ∃ CS, Ve.cnt n.s = CS := ⟨_, rfl⟩
  obtain ⟨CE, hCE⟩ : ∃ CE, Ve.cnt n.e = CE := ⟨_, rfl⟩
  obtain ⟨x, hx⟩ : ∃ x, Ve.ofL (Tr.str CV CS CE) = x := ⟨_, rfl⟩
  obtain ⟨⟨wt, ok⟩, hat⟩ : ∃ r, Nt.at_ n.ws o = r := ⟨_, rfl⟩
  have hT : Tr.strd l n o = if ok = true ∧ hasOf x wt.1 wt.2.1 = false then l else x := by
    unfold Tr.strd
    rw [hCV, hCS, hCE, hx, hat]
  rw [hT]
  rw [hat] at AT
  rw [hCV] at C0
  rw [hCS] at C1
  rw [hCE] at C2
  obtain ⟨RS, hRS⟩ : ∃ RS, (if ok = true ∧ hasOf x wt.1 wt.2.1 = false then l else x) = RS := ⟨_, rfl⟩
  rw [hRS]
  have HRS := Lib.hid hRS
  have HXX := Lib.hid hx
  clear hX h1 hN hX0 hb0 hW hB0 hCV hCS hCE hx hat hT hRS
  go_enter Try.func60, Try.ntmps60
  go_upto_region 1 with (fail)
  try rw [HW.out]
  refine wp_region_facts2 11 (by kernel_rfl) (by kernel_rfl)
    (fun v => { tmps := #[.slice X l.length cx, .agg (noteCells S E B V cs ce cb cv n), .int .i64 o, undef, .pointer (some ⟨w.heap.size, 0, none⟩), undef, .slice none 0 0, v 8, v 9, v 10, undef, undef, undef, undef, v 0, v 1, v 2, v 3, v 4, v 5, v 6, v 7, undef, undef, undef, undef, undef, undef, undef, undef, undef, undef, undef, undef, undef, undef, undef, undef, undef, undef, undef, undef, undef, undef, undef, undef, undef, undef, undef, undef, undef, undef, undef, undef, undef, undef, undef, undef, undef, undef, undef], defers := [] }) (fun _ => undef)
    (fun i x wx => match i with
      | 0 => x = .slice X l.length cx
      | 1 => x = .agg (Ve.arr CV)
      | 2 => x = .pointer (some ⟨w.heap.size, 0, none⟩)
      | 3 => x = .slice S n.s.length cs
      | 4 => x = .agg (Ve.arr CS)
      | 5 => x = .pointer (some ⟨w.heap.size, 1, none⟩)
      | 6 => x = .slice E n.e.length ce
      | 7 => x = .agg (Ve.arr CE)
      | 8 => ∃ g, x = .pointer (some ⟨g, 0, none⟩) ∧ Blk wx g 81 (Ve.arr fun _ => 0) ∧ W.heap.size ≤ g
      | 9 => ∃ g, x = .pointer (some ⟨g, 0, none⟩) ∧ Blk wx g 81 (Ve.arr fun _ => 0) ∧ W.heap.size ≤ g
      | 10 => ∃ g, x = .pointer (some ⟨g, 0, none⟩) ∧ Blk wx g 81 (Ve.arr fun _ => 0) ∧ W.heap.size ≤ g
      | _ => True)
    (fun i j x y => (8 ≤ i ∧ i ≤ 10 ∧ 8 ≤ j ∧ j ≤ 10) → x ≠ y)
    (fun w1 w2 => Below w1.heap.size w1 w2) (fun h1 h2 => below_on h1 h2) (fun _ => Below.refl _ _) (Below.drew (Below.refl _ _)) ?stab ?step ?done
  case stab =>
    rintro i x w1 w2 h hb
    match i, h with
    | 0, h => exact h
    | 1, h => exact h
    | 2, h => exact h
    | 3, h => exact h
    | 4, h => exact h
    | 5, h => exact h
    | 6, h => exact h
    | 7, h => exact h
    | 8, h => obtain ⟨g, h1, h2, h3⟩ := h; exact ⟨g, h1, h2.later hb, h3⟩
    | 9, h => obtain ⟨g, h1, h2, h3⟩ := h; exact ⟨g, h1, h2.later hb, h3⟩
    | 10, h => obtain ⟨g, h1, h2, h3⟩ := h; exact ⟨g, h1, h2.later hb, h3⟩
    | i + 11, _ => trivial
  case step =>
    intro i hi v w' hb hd
    match i, hi with
    | 0, _ =>
      refine wpOp_oneK rfl (fun KK hKK => ?_)
      have HKK := Lib.hid hKK
      clear hKK hd
      go_wp2
      exact HKK.out _ _ ⟨_, (by simp [upd]; done), Below.refl _ _, rfl, fun j y _ _ => ⟨fun h => by omega, fun h => by omega⟩⟩
    | 1, _ =>
      have h0 : v 0 = _ := hd 0 (List.elem_iff.1 (by kernel_rfl))
      refine wpOp_oneK rfl (fun KK hKK => ?_)
      have HKK := Lib.hid hKK
      clear hKK hd
      rw [h0]
      go_wp2_with fail
      refine (C0.out _ hb).mono ?_
      rintro e w'' ⟨rfl, b⟩
      go_wp2
      exact HKK.out _ _ ⟨_, (by simp [upd, h0]; done), b, rfl, fun j y _ _ => ⟨fun h => by omega, fun h => by omega⟩⟩
    | 2, _ =>
      refine wpOp_oneK rfl (fun KK hKK => ?_)
      have HKK := Lib.hid hKK
      clear hKK hd
      go_wp2
      exact HKK.out _ _ ⟨_, (by simp [upd]; done), Below.refl _ _, rfl, fun j y _ _ => ⟨fun h => by omega, fun h => by omega⟩⟩
    | 3, _ =>
      have h2 : v 2 = _ := hd 2 (List.elem_iff.1 (by kernel_rfl))
      refine wpOp_oneK rfl (fun KK hKK => ?_)
      have HKK := Lib.hid hKK
      clear hKK hd
      rw [h2]
      have q0 := cell_later hb P0.out
      go_wp2
      exact HKK.out _ _ ⟨_, (by simp [upd, h2]; done), Below.refl _ _, rfl, fun j y _ _ => ⟨fun h => by omega, fun h => by omega⟩⟩
    | 4, _ =>
      have h3 : v 3 = _ := hd 3 (List.elem_iff.1 (by kernel_rfl))
      refine wpOp_oneK rfl (fun KK hKK => ?_)
      have HKK := Lib.hid hKK
      clear hKK hd
      rw [h3]
      go_wp2_with fail
      refine (C1.out _ hb).mono ?_
      rintro e w'' ⟨rfl, b⟩
      go_wp2
      exact HKK.out _ _ ⟨_, (by simp [upd, h3]; done), b, rfl, fun j y _ _ => ⟨fun h => by omega, fun h => by omega⟩⟩
    | 5, _ =>
      refine wpOp_oneK rfl (fun KK hKK => ?_)
      have HKK := Lib.hid hKK
      clear hKK hd
      go_wp2
      exact HKK.out _ _ ⟨_, (by simp [upd]; done), Below.refl _ _, rfl, fun j y _ _ => ⟨fun h => by omega, fun h => by omega⟩⟩
    | 6, _ =>
      have h5 : v 5 = _ := hd 5 (List.elem_iff.1 (by kernel_rfl))
      refine wpOp_oneK rfl (fun KK hKK => ?_)
      have HKK := Lib.hid hKK
      clear hKK hd
      rw [h5]
      have q0 := cell_later hb P1.out
      go_wp2
      exact HKK.out _ _ ⟨_, (by simp [upd, h5]; done), Below.refl _ _, rfl, fun j y _ _ => ⟨fun h => by omega, fun h => by omega⟩⟩
    | 7, _ =>
      have h6 : v 6 = _ := hd 6 (List.elem_iff.1 (by kernel_rfl))
      refine wpOp_oneK rfl (fun KK hKK => ?_)
      have HKK := Lib.hid hKK
      clear hKK hd
      rw [h6]
      go_wp2_with fail
      refine (C2.out _ hb).mono ?_
      rintro e w'' ⟨rfl, b⟩
      go_wp2
      exact HKK.out _ _ ⟨_, (by simp [upd, h6]; done), b, rfl, fun j y _ _ => ⟨fun h => by omega, fun h => by omega⟩⟩
    | 8, _ =>
      refine wpOp_oneK rfl (fun KK hKK => ?_)
      have HKK := Lib.hid hKK
      clear hKK hd
      have hz := hb.size
      go_wp2
      refine HKK.out _ _ ⟨_, (by simp [upd]; done), below_new (Below.refl _ _) _, ⟨w'.heap.size, rfl, by rw [Ve.arr_zero]; exact Blk.new _ _ _, by omega⟩, fun j y hne hy => ?_⟩
      have hj : 8 ≤ j → j ≤ 10 → y ≠ .pointer (some ⟨w'.heap.size, 0, none⟩) := fun h1 h2 e => by
        have h3 : j = 8 ∨ j = 9 ∨ j = 10 := by omega
        rcases h3 with rfl | rfl | rfl <;> (obtain ⟨g, h4, h5, _⟩ := hy; rw [e] at h4; have h6 := h5.lt; injection h4 with h4; injection h4 with h4; injection h4 with h4; omega)
      exact ⟨fun h => (fun e => hj h.2.2.1 h.2.2.2 e.symm), fun h => hj h.1 h.2.1⟩
    | 9, _ =>
      refine wpOp_oneK rfl (fun KK hKK => ?_)
      have HKK := Lib.hid hKK
      clear hKK hd
      have hz := hb.size
      go_wp2
      refine HKK.out _ _ ⟨_, (by simp [upd]; done), below_new (Below.refl _ _) _, ⟨w'.heap.size, rfl, by rw [Ve.arr_zero]; exact Blk.new _ _ _, by omega⟩, fun j y hne hy => ?_⟩
      have hj : 8 ≤ j → j ≤ 10 → y ≠ .pointer (some ⟨w'.heap.size, 0, none⟩) := fun h1 h2 e => by
        have h3 : j = 8 ∨ j = 9 ∨ j = 10 := by omega
        rcases h3 with rfl | rfl | rfl <;> (obtain ⟨g, h4, h5, _⟩ := hy; rw [e] at h4; have h6 := h5.lt; injection h4 with h4; injection h4 with h4; injection h4 with h4; omega)
      exact ⟨fun h => (fun e => hj h.2.2.1 h.2.2.2 e.symm), fun h => hj h.1 h.2.1⟩
    | 10, _ =>
      refine wpOp_oneK rfl (fun KK hKK => ?_)
      have HKK := Lib.hid hKK
      clear hKK hd
      have hz := hb.size
      go_wp2
      refine HKK.out _ _ ⟨_, (by simp [upd]; done), below_new (Below.refl _ _) _, ⟨w'.heap.size, rfl, by rw [Ve.arr_zero]; exact Blk.new _ _ _, by omega⟩, fun j y hne hy => ?_⟩
      have hj : 8 ≤ j → j ≤ 10 → y ≠ .pointer (some ⟨w'.heap.size, 0, none⟩) := fun h1 h2 e => by
        have h3 : j = 8 ∨ j = 9 ∨ j = 10 := by omega
        rcases h3 with rfl | rfl | rfl <;> (obtain ⟨g, h4, h5, _⟩ := hy; rw [e] at h4; have h6 := h5.lt; injection h4 with h4; injection h4 with h4; injection h4 with h4; omega)
      exact ⟨fun h => (fun e => hj h.2.2.1 h.2.2.2 e.symm), fun h => hj h.1 h.2.1⟩
  case done =>
    intro v w' hb hf hr
    have h1 : v 1 = _ := hf 1 (by omega)
    have h4 : v 4 = _ := hf 4 (by omega)
    have h7 : v 7 = _ := hf 7 (by omega)
    obtain ⟨g6, h9, q6, l6⟩ := hf 8 (by omega)
    obtain ⟨g7, h10, q7, l7⟩ := hf 9 (by omega)
    obtain ⟨g8, h11, q8, l8⟩ := hf 10 (by omega)
    have n67 : g6 ≠ g7 := fun e => hr 8 9 (by omega) (by omega) (by omega) ⟨by omega, by omega, by omega, by omega⟩ (by rw [h9, h10, e])
    have n68 : g6 ≠ g8 := fun e => hr 8 10 (by omega) (by omega) (by omega) ⟨by omega, by omega, by omega, by omega⟩ (by rw [h9, h11, e])
    have n78 : g7 ≠ g8 := fun e => hr 9 10 (by omega) (by omega) (by omega) ⟨by omega, by omega, by omega, by omega⟩ (by rw [h10, h11, e])
    clear hf hr
    simp only [List.drop_succ_cons, List.drop_zero]
    rw [h1, h4, h7, h9, h10, h11]
    have u7 := q7.rowFar n67.symm (Ve.arr CV)
    have u8 := (q8.rowFar n68.symm (Ve.arr CV)).rowFar n78.symm (Ve.arr CS)
    have G6 := ((q6.row (Ve.arr CV)).rowFar n67 (Ve.arr CS)).rowFar n68 (Ve.arr CE)
    have G7 := (u7.row (Ve.arr CS)).rowFar n78 (Ve.arr CE)
    have G8 := u8.row (Ve.arr CE)
    have b5 := below_setRow (below_setRow (below_setRow hb l6 (Ve.arr CV)) l7 (Ve.arr CS)) l8 (Ve.arr CE)
    clear C0 C1 C2 h1 h4 h7 h9 h10 h11
    go_wp2_with (first | (refine wpList_store_row rfl 81 _ _ rfl g6 (Ve.arr CV) rfl rfl 81 (Ve.arr fun _ => 0) q6 (by rw [Ve.arr_size]; exact info64) (by rw [Ve.arr_size, Ve.arr_size]) (one_arr _) ?_) | (refine wpList_store_row rfl 81 _ _ rfl g7 (Ve.arr CS) rfl rfl 81 (Ve.arr fun _ => 0) u7 (by rw [Ve.arr_size]; exact info64) (by rw [Ve.arr_size, Ve.arr_size]) (one_arr _) ?_) | (refine wpList_store_row rfl 81 _ _ rfl g8 (Ve.arr CE) rfl rfl 81 (Ve.arr fun _ => 0) u8 (by rw [Ve.arr_size]; exact info64) (by rw [Ve.arr_size, Ve.arr_size]) (one_arr _) ?_))
    obtain ⟨w5, hw5⟩ : ∃ w5, ((w'.setRow g6 (Ve.arr CV)).setRow g7 (Ve.arr CS)).setRow g8 (Ve.arr CE) = w5 := ⟨_, rfl⟩
    rw [hw5] at G6 G7 G8 b5 ⊢
    have HG6 := Lib.hid G6
    have HG7 := Lib.hid G7
    have HG8 := Lib.hid G8
    clear hw5 q6 q7 q8 u7 u8 G6 G7 G8 hb
    go_loopw [10] (fun s10 wr => ∃ k : Nat, k ≤ 64 ∧ s10 = .int .i64 (k : Int) ∧ Blk wr g6 81 (Ve.arr (Tr.strTo CV CS CE k)) ∧ Blk wr g7 81 (Ve.arr CS) ∧ Blk wr g8 81 (Ve.arr CE) ∧ Below W.heap.size W wr) (fun s10 _ => 64 - (intOf s10).toNat)
    case atStart =>
      exact ⟨0, Nat.zero_le _, rfl, HG6.out.same fun i _ => Tr.str_start CV CS CE i, HG7.out, HG8.out, b5⟩
    case round =>
      obtain ⟨k, hk, rfl, hC, hS, hE, hbw⟩ := hrel
      by_cases hlt : k < 64
      · have x0 := hC.arr_cell k hlt
        rw [Tr.str_here] at x0
        have y0 := hS.arr_cell k hlt
        have z0 := hE.arr_cell k hlt
        have x1 := hC.free k
        have hj0 : (0 : Int) ≤ (k : Int) := by omega
        have hj1 : (k : Int) < 64 := by omega
        obtain ⟨c, hc⟩ : ∃ c, CV k = c := ⟨_, rfl⟩
        obtain ⟨s, hs⟩ : ∃ s, CS k = s := ⟨_, rfl⟩
        obtain ⟨e, he⟩ : ∃ e, CE k = e := ⟨_, rfl⟩
        have HSK := Lib.hid (show Tr.str CV CS CE k = if s ≤ c then (if c < e then e else c) else c from by unfold Tr.str; rw [hc, hs, he])
        have HCK := Lib.hid hc
        rw [hc] at x0
        rw [hs] at y0
        rw [he] at z0
        clear hc hs he
        by_cases t1 : s ≤ c
        · have d1 : decide (s ≤ c) = true := decide_eq_true t1
          by_cases t2 : c < e
          · have B6 := (hC.arr_put k hlt e).same (f' := Tr.strTo CV CS CE (k + 1)) (fun i _ => Tr.str_step CV CS CE k (by rw [HSK.out, if_pos t1, if_pos t2]) i)
            have B7 := hS.far (p := ⟨g6, k, none⟩) (by show g7 ≠ g6; exact n67.symm) (.int .i64 e)
            have B8 := hE.far (p := ⟨g6, k, none⟩) (by show g8 ≠ g6; exact n68.symm) (.int .i64 e)
            have HB := Lib.hid (And.intro B6 (And.intro B7 B8))
            have HBZ := Lib.hid (hbw.setCell (p := ⟨g6, k, none⟩) (by show W.heap.size ≤ g6; exact l6) (.int .i64 e))
            clear hC hS hE B6 B7 B8 hbw
            go_wp2_with fail
            go_region
            go_wp2_with fail
            go_region
            go_wp2_with fail
            go_roundw
            case rel => exact ⟨k + 1, by omega, by go_num, HB.out.1, HB.out.2.1, HB.out.2.2, HBZ.out.drew.drew⟩
            case measure => simp [intOf]; omega
          · have hle : e ≤ c := by omega
            have B6 := (hC.arr_put k hlt c).same (f' := Tr.strTo CV CS CE (k + 1)) (fun i _ => Tr.str_step CV CS CE k (by rw [HSK.out, if_pos t1, if_neg t2]) i)
            have B7 := hS.far (p := ⟨g6, k, none⟩) (by show g7 ≠ g6; exact n67.symm) (.int .i64 c)
            have B8 := hE.far (p := ⟨g6, k, none⟩) (by show g8 ≠ g6; exact n68.symm) (.int .i64 c)
            have HB := Lib.hid (And.intro B6 (And.intro B7 B8))
            have HBZ := Lib.hid (hbw.setCell (p := ⟨g6, k, none⟩) (by show W.heap.size ≤ g6; exact l6) (.int .i64 c))
            clear hC hS hE B6 B7 B8 hbw
            go_wp2_with fail
            go_region
            go_wp2_with fail
            go_region
            go_wp2_with fail
            go_roundw
            case rel => exact ⟨k + 1, by omega, by go_num, HB.out.1, HB.out.2.1, HB.out.2.2, HBZ.out.drew.drew⟩
            case measure => simp [intOf]; omega
        · have d1 : decide (s ≤ c) = false := decide_eq_false t1
          have B6 := hC.same (f' := Tr.strTo CV CS CE (k + 1)) (fun i _ => Tr.str_same CV CS CE k (by rw [HSK.out, if_neg t1, HCK.out]) i)
          have HB := Lib.hid (And.intro B6 (And.intro hS hE))
          have HBZ := Lib.hid hbw
          clear hC hS hE B6 hbw
          go_wp2_with fail
          go_region
          go_wp2_with fail
          go_roundw
          case rel => exact ⟨k + 1, by omega, by go_num, HB.out.1.drew, HB.out.2.1.drew, HB.out.2.2.drew, HBZ.out.drew⟩
          case measure => simp [intOf]; omega
      · have hkl : k = 64 := by omega
        subst hkl
        have HC := Lib.hid (hC.same (f' := Tr.str CV CS CE) (fun i hi => Tr.str_end CV CS CE i hi))
        have HBW := Lib.hid hbw
        clear hC hS hE hbw
        go_wp2_with (refine wpList_load_row rfl 81 _ rfl g6 rfl 81 _ (0, 0) _ HC.out Try.underlying81 rfl (by rw [Ve.arr_size]; exact info64) ?_)
        refine (of_any _ _).mono ?_
        rintro e w3 ⟨v3, rfl, ho, hb3⟩
        rw [HXX.out] at ho
        obtain ⟨X3, c3, rfl, hx3⟩ := OneL.of_own ho
        have HO3 := Lib.hid hx3
        have B3 := Lib.hid (below_on HBW.out hb3)
        have AT3 := Lib.hid (AT.out w3 B3.out)
        have p3 := cell_later B3.out P3.out
        clear ho hx3 hb3 AT
        go_wp2_with fail
        refine AT3.out.mono ?_
        rintro e w4 ⟨rfl, b4⟩
        unfold Nt.wrV
        obtain ⟨W5, hW5⟩ : ∃ W5, w4.alloc (.cells #[.int .i64 wt.1, .int .i64 wt.2.1, .int .i64 wt.2.2.1, .bool wt.2.2.2] 102) = W5 := ⟨_, rfl⟩
        have b5' : Below w4.heap.size w4 W5 := by rw [← hW5]; exact below_new (Below.refl _ _) _
        have XB : Blk W5 w4.heap.size 102 #[.int .i64 wt.1, .int .i64 wt.2.1, .int .i64 wt.2.2.1, .bool wt.2.2.2] := by rw [← hW5]; exact Blk.new w4 _ _
        have B5 := Lib.hid (below_on (below_on B3.out b4) b5')
        have HO5 := Lib.hid ((HO3.out.later b4).later b5')
        have HXB := Lib.hid XB
        have HHS := Lib.hid (rhas_any X3 c3 x wt.1 wt.2.1 W5 HO5.out.len HO5.out.stamps)
        obtain ⟨hs, hhs⟩ : ∃ hs, hasOf x wt.1 wt.2.1 = hs := ⟨_, rfl⟩
        rw [hhs] at HHS
        have HHV := Lib.hid hhs
        have x0 := XB.cell (i := 0) rfl
        have x1 := XB.cell (i := 1) rfl
        clear b4 b5' XB AT3 p3 hhs
        go_upto_region 9 with (fail)
        try rw [hW5]
        clear hW5
        cases ok with
        | false =>
          have hRS : RS = x := by rw [← HRS.out, if_neg (fun h => by cases h.1)]
          subst hRS
          clear HHS HHV
          go_wp2
          go_ret
          exact ⟨X3, c3, rfl, HO5.out, below_on HB0.out B5.out⟩
        | true =>
          go_wp2_with fail
          refine HHS.out.mono ?_
          rintro e w6 ⟨rfl, b6⟩
          have B6 := Lib.hid (below_on HB0.out (below_on B5.out b6))
          have HO6 := Lib.hid (HO5.out.later b6)
          have HX6 := Lib.hid (HX0.out.later (below_on B5.out b6))
          clear b6
          cases hs with
          | false =>
            have hRS : RS = l := by rw [← HRS.out, if_pos ⟨by first | rfl | trivial, HHV.out⟩]
            subst hRS
            go_wp2
            go_ret
            exact ⟨X, cx, rfl, HX6.out, B6.out⟩
          | true =>
            have hRS : RS = x := by rw [← HRS.out, if_neg (fun h => by rw [HHV.out] at h; cases h.2)]
            subst hRS
            go_wp2
            go_ret
            exact ⟨X3, c3, rfl, HO6.out, B6.out⟩
end Go.Proofs.Ytcfkpjbakccgiaa
namespace Go.Proofs.Ytcfkpjbakccgiaa
open Go.RowKit Fb

namespace Tr
theorem strd_len {v : List (Int × Int)} (h : v.length ≤ 64) (n : Note) (o : Int) : (strd v n o).length ≤ 64 := by
  unfold strd
  split
  · exact h
  · exact Ve.ofL_len _
theorem sho_len {zs : List Zn} {known : List (Int × Int)} (h : fmd zs = true) (hk : Ve.fmd known = true) (n : Note) (o : Nat) : (sho zs known n o).length ≤ 64 := by
  have h1 := short (rch_fmd h hk (o : Int))
  unfold sho
  split
  · exact h1
  · exact strd_len h1 n _
theorem mkTo_none {f : Nat → Option (List (Int × Int))} {k : Nat} (h : f k = none) : mkTo f (k + 1) = mkTo f k := by
  show (match f k with | none => mkTo f k | some v => if goesOn (mkTo f k) k v = true then ext (mkTo f k) k else mkTo f k ++ [((k : Int), (k : Int), v)]) = _
  rw [h]
theorem mkTo_on {f : Nat → Option (List (Int × Int))} {k : Nat} {v : List (Int × Int)} (h : f k = some v) (hg : goesOn (mkTo f k) k v = true) : mkTo f (k + 1) = ext (mkTo f k) k := by
  show (match f k with | none => mkTo f k | some v => if goesOn (mkTo f k) k v = true then ext (mkTo f k) k else mkTo f k ++ [((k : Int), (k : Int), v)]) = _
  rw [h]
  dsimp only
  rw [if_pos hg]
theorem mkTo_new {f : Nat → Option (List (Int × Int))} {k : Nat} {v : List (Int × Int)} (h : f k = some v) (hg : goesOn (mkTo f k) k v = false) : mkTo f (k + 1) = mkTo f k ++ [((k : Int), (k : Int), v)] := by
  show (match f k with | none => mkTo f k | some v => if goesOn (mkTo f k) k v = true then ext (mkTo f k) k else mkTo f k ++ [((k : Int), (k : Int), v)]) = _
  rw [h]
  dsimp only
  rw [if_neg (by rw [hg]; exact Bool.false_ne_true)]
theorem ext_len (zs : List Zn) (k : Nat) (h : 0 < zs.length) : (ext zs k).length = zs.length := by
  unfold ext
  rw [List.length_append, List.length_dropLast]
  simp
  omega
theorem mkTo_len (f : Nat → Option (List (Int × Int))) : ∀ k, (mkTo f k).length ≤ k
  | 0 => Nat.le_refl _
  | k + 1 => by
    have ih := mkTo_len f k
    cases hf : f k with
    | none => rw [mkTo_none hf]; omega
    | some v =>
      cases hg : goesOn (mkTo f k) k v with
      | true =>
        rw [mkTo_on hf hg]
        have : 0 < (mkTo f k).length := by unfold goesOn at hg; exact (of_decide_eq_true hg).1
        rw [ext_len _ _ this]
        omega
      | false => rw [mkTo_new hf hg, List.length_append]; simp; omega
theorem last_snoc (zs : List Zn) (z : Zn) : (zs ++ [z]).getD ((zs ++ [z]).length - 1) (0, 0, []) = z := by
  rw [List.length_append, List.length_singleton, Nat.add_sub_cancel, List.getD_eq_getElem?_getD, List.getElem?_concat_length]
  rfl
theorem goes_snoc (zs : List Zn) (z : Zn) (k : Nat) (v : List (Int × Int)) : goesOn (zs ++ [z]) k v = decide (z.2.1 = (k : Int) - 1 ∧ z.2.2 = v) := by
  unfold goesOn
  rw [last_snoc]
  have : 0 < (zs ++ [z]).length := by rw [List.length_append]; simp
  by_cases q : z.2.1 = (k : Int) - 1 ∧ z.2.2 = v
  · rw [decide_eq_true q, decide_eq_true ⟨this, q⟩]
  · rw [decide_eq_false q, decide_eq_false (fun h => q h.2)]
theorem ext_snoc (zs : List Zn) (z : Zn) (k : Nat) : ext (zs ++ [z]) k = zs ++ [((z.1, (k : Int), z.2.2) : Zn)] := by
  unfold ext
  rw [last_snoc, List.dropLast_concat]
theorem goes_nil (k : Nat) (v : List (Int × Int)) : goesOn [] k v = false := by
  unfold goesOn
  exact decide_eq_false (fun h => by cases h.1)
end Tr

theorem undZones : Try.prog.underlying 22 = some (.slice 57) := by kernel_rfl
/-- What lies while Take goes on. -/
structure TkI (w wr : World) (g : Nat) (nc : Array Value) (bf : Nat → Bool) (v : Value) (M : List Zc) : Prop where
  out : OwnZ wr (g + 1) v M
  bl : Blk wr g 63 (Sp.arr bf)
  nb : Blk wr w.heap.size 38 nc
  low : Below w.heap.size w wr
  hn : w.heap.size < g
section
variable {w wr w1 w2 : World} {g : Nat} {nc : Array Value} {bf : Nat → Bool} {v v2 : Value} {M M0 : List Zc}
theorem TkI.later (h : TkI w wr g nc bf v M) (hb : Below wr.heap.size wr w1) : TkI w w1 g nc bf v M := ⟨h.out.later hb, h.bl.later hb, h.nb.later hb, below_on h.low hb, h.hn⟩
theorem TkI.push (h : TkI w wr g nc bf v M) {z : Zc} (hz : wr.ownsRow (g + 1) 53 2 (.slice z.X z.l.length z.c) z.l.length (stCells z.l)) (hg : wr.grownBy w2 v.ownBlock) (hr : w2.ownsRow (g + 1) 57 3 v2 (M.length + 1) (zCells M ++ zCells [z])) : TkI w w2 g nc bf v2 (M ++ [z]) := by
  have hge := own_ge h.out.row
  have hn := h.hn
  have hlt := h.bl.lt
  have low : ∀ k, k ≤ g → w2.heap[k]? = wr.heap[k]? := fun k hk => hg.block k (by omega) (fun e => by have := hge k e.symm; omega)
  exact ⟨h.out.snoc hz hg hr, (low _ (Nat.le_refl _)).trans h.bl, (low _ (by omega)).trans h.nb, h.low.grown hg h.low.size (fun k hk => by have := hge k hk; omega), h.hn⟩
theorem zCells_set (M0 : List Zc) (z : Zc) (x : Int) : (zCells (M0 ++ [z])).set (M0.length * 3 + 1) (.int .i64 x) = zCells (M0 ++ [{ z with hi := x }]) := by
  rw [zCells_append, zCells_append, List.set_append_right _ _ (by rw [zCells_length]; omega), zCells_length, Nat.add_sub_cancel_left]
  rfl
theorem TkI.ext {A cap n : Nat} {z : Zc} (h : TkI w wr g nc bf (.slice (some ⟨A, 0, none⟩) n cap) (M0 ++ [z])) (hn : n = (M0 ++ [z]).length) (x : Int) : TkI w (wr.setCell ⟨A, M0.length * 3 + 1, none⟩ (.int .i64 x)) g nc bf (.slice (some ⟨A, 0, none⟩) n cap) (M0 ++ [{ z with hi := x }]) := by
  subst hn
  have hrow := h.out.row
  have hge : g + 1 ≤ A := (own_base_le hrow).1
  have hput := own_put hrow (M0.length * 3 + 1) (.int .i64 x)
  rw [zCells_set] at hput
  have hlen : (M0 ++ [{ z with hi := x }]).length = (M0 ++ [z]).length := by simp
  have hn := h.hn
  have keep : ∀ y : Zc, wr.ownsRow (g + 1) 53 2 (.slice y.X y.l.length y.c) y.l.length (stCells y.l) → (wr.setCell ⟨A, M0.length * 3 + 1, none⟩ (.int .i64 x)).ownsRow (g + 1) 53 2 (.slice y.X y.l.length y.c) y.l.length (stCells y.l) := fun y hy =>
    own_stays hy (fun k hk => Below.heap_setCell _ _ _ _ (fun e => own_apart hy hrow (by decide) k hk (by rw [e]; rfl)))
  refine ⟨⟨by rw [hlen]; exact hput, fun y hy => ?_⟩, h.bl.far (p := ⟨A, M0.length * 3 + 1, none⟩) (by show g ≠ A; omega) _, h.nb.far (p := ⟨A, M0.length * 3 + 1, none⟩) (by show w.heap.size ≠ A; omega) _, h.low.setCell (by show w.heap.size ≤ A; omega) _, h.hn⟩
  rcases List.mem_append.1 hy with hy | hy
  · exact keep y (h.out.each y (List.mem_append.2 (.inl hy)))
  · rw [List.mem_singleton] at hy
    subst hy
    exact keep { z with hi := x } (h.out.each z (List.mem_append.2 (.inr (List.mem_singleton.2 rfl))))
end

theorem now_one {w : World} {base : Nat} {A : Option Addr} {c : Nat} {l : List (Int × Int)} (h : w.ownsRow base 53 2 (.slice A l.length c) l.length (stCells l)) : OneL w A c l := by
  obtain ⟨X, cx, e1, e2⟩ := OneL.of_own h
  injection e1 with e3 _ e4
  subst e3 e4
  exact e2
theorem GivesT.err {w w' : World} (k : Int) (hb : Below w.heap.size w w') : GivesT ([], [], k) w (.returned (.tuple #[.slice none 0 0, .slice none 0 0, .int .i64 k])) w' := ⟨none, 0, [], none, 0, rfl, OneZ.nil _, rfl, OneL.nil, hb⟩

set_option maxRecDepth 100000 in
set_option maxHeartbeats 12800000 in
theorem ztake_any (A B S E Bl V : Option Addr) (c cb cs ce cl cv : Nat) (L : List Zc) (kn : List (Int × Int)) (n : Note) (w : World) (h : OneZ w A c L) (hk : OneL w B cb kn) (hN : NoteAt w S E Bl V cs ce cl cv n) :
    Calls Try.prog 24 #[.slice A L.length c, .slice B kn.length cb, .agg (noteCells S E Bl V cs ce cl cv n)] w (GivesT (Tr.tkR (L.map Zc.zn) kn n) w) := by
  obtain ⟨W, hW⟩ : ∃ W, w.alloc (.cells (noteCells S E Bl V cs ce cl cv n) 38) = W := ⟨_, rfl⟩
  have hb0 : Below w.heap.size w W := by rw [← hW]; exact below_new (Below.refl _ _) _
  have hB0 : Blk W w.heap.size 38 (noteCells S E Bl V cs ce cl cv n) := by rw [← hW]; exact Blk.new w _ _
  have HZ := Lib.hid h
  have HK := Lib.hid hk
  have HN := Lib.hid hN
  have HW := Lib.hid hW
  have HB0 := Lib.hid hb0
  have HNB := Lib.hid hB0
  have ZF := Lib.hid (zformed_any A c L W (h.later hb0))
  have KF := Lib.hid (fun wx (hb : Below w.heap.size w wx) => rformed_any B cb kn wx (HK.out.later hb).len (HK.out.later hb).stamps)
  have NF := Lib.hid (fun wx (hb : Below w.heap.size w wx) => nformed_any S E Bl V cs ce cl cv n wx (HN.out.later hb))
  have FT := Lib.hid (fun wx (hb : Below w.heap.size w wx) => nfits_any S E Bl V B cs ce cl cv cb n kn wx (HN.out.later hb) (HK.out.later hb))
  obtain ⟨zf, hzf⟩ : ∃ x, Tr.fmd (L.map Zc.zn) = x := ⟨_, rfl⟩
  obtain ⟨kf, hkf⟩ : ∃ x, Ve.fmd kn = x := ⟨_, rfl⟩
  obtain ⟨nf, hnf⟩ : ∃ x, Nt.fmd n = x := ⟨_, rfl⟩
  obtain ⟨ft, hft⟩ : ∃ x, Ve.cov (Ve.cnt kn) (Ve.cnt n.s) = x := ⟨_, rfl⟩
  rw [hzf] at ZF
  rw [hkf] at KF
  rw [hnf] at NF
  rw [hft] at FT
  have hR : Tr.tkR (L.map Zc.zn) kn n = if zf = true ∧ kf = true ∧ nf = true then (if ft = true then (Tr.mkTo (Tr.zof (L.map Zc.zn) kn n) 256, Ve.joinL [kn, n.e], 0) else ([], [], 3)) else ([], [], 1) := by
    unfold Tr.tkR
    rw [hzf, hkf, hnf, hft]
  have HZF := Lib.hid hzf; have HKF := Lib.hid hkf
  clear h hk hN hW hb0 hB0 hzf hkf hnf hft
  cases zf with
  | false =>
    rw [if_neg (fun h => by cases h.1)] at hR
    rw [hR]
    clear hR
    go_enter Try.func24, Try.ntmps24
    go_wp2_with fail
    rw [HW.out]
    refine ZF.out.mono ?_
    rintro e w1 ⟨rfl, b1⟩
    have B1 := Lib.hid (below_on HB0.out b1)
    have N1 := Lib.hid (HNB.out.later b1)
    clear b1
    have FIN := Lib.hid (GivesT.err 1 B1.out)
    go_wp2
    exact bodyPost_ret (v := .tuple #[.slice none 0 0, .slice none 0 0, .int .i64 1]) (by simp [results, Try.results24, go_sem]) rfl FIN.out
  | true =>
  cases kf with
  | false =>
    rw [if_neg (fun h => by cases h.2.1)] at hR
    rw [hR]
    clear hR
    go_enter Try.func24, Try.ntmps24
    go_wp2_with fail
    rw [HW.out]
    refine ZF.out.mono ?_
    rintro e w1 ⟨rfl, b1⟩
    have B1 := Lib.hid (below_on HB0.out b1)
    have N1 := Lib.hid (HNB.out.later b1)
    clear b1
    have KF1 := Lib.hid (KF.out w1 B1.out)
    go_wp2_with fail
    refine KF1.out.mono ?_
    rintro e w2 ⟨rfl, b2⟩
    have B2 := Lib.hid (below_on B1.out b2)
    have N2 := Lib.hid (N1.out.later b2)
    clear b2 KF1
    have FIN := Lib.hid (GivesT.err 1 B2.out)
    go_wp2
    exact bodyPost_ret (v := .tuple #[.slice none 0 0, .slice none 0 0, .int .i64 1]) (by simp [results, Try.results24, go_sem]) rfl FIN.out
  | true =>
  cases nf with
  | false =>
    rw [if_neg (fun h => by cases h.2.2)] at hR
    rw [hR]
    clear hR
    go_enter Try.func24, Try.ntmps24
    go_wp2_with fail
    rw [HW.out]
    refine ZF.out.mono ?_
    rintro e w1 ⟨rfl, b1⟩
    have B1 := Lib.hid (below_on HB0.out b1)
    have N1 := Lib.hid (HNB.out.later b1)
    clear b1
    have KF1 := Lib.hid (KF.out w1 B1.out)
    go_wp2_with fail
    refine KF1.out.mono ?_
    rintro e w2 ⟨rfl, b2⟩
    have B2 := Lib.hid (below_on B1.out b2)
    have N2 := Lib.hid (N1.out.later b2)
    clear b2 KF1
    have NF2 := Lib.hid (NF.out w2 B2.out)
    obtain ⟨c0, c1, c2, c3⟩ := note_cells N2.out
    go_wp2_with fail
    refine NF2.out.mono ?_
    rintro e w3 ⟨rfl, b3⟩
    have B3 := Lib.hid (below_on B2.out b3)
    have N3 := Lib.hid (N2.out.later b3)
    clear b3 NF2 c0 c1 c2 c3
    have FIN := Lib.hid (GivesT.err 1 B3.out)
    go_wp2
    exact bodyPost_ret (v := .tuple #[.slice none 0 0, .slice none 0 0, .int .i64 1]) (by simp [results, Try.results24, go_sem]) rfl FIN.out
  | true =>
  rw [if_pos ⟨rfl, rfl, rfl⟩] at hR
  cases ft with
  | false =>
    rw [if_neg Bool.false_ne_true] at hR
    rw [hR]
    clear hR
    go_enter Try.func24, Try.ntmps24
    go_wp2_with fail
    rw [HW.out]
    refine ZF.out.mono ?_
    rintro e w1 ⟨rfl, b1⟩
    have B1 := Lib.hid (below_on HB0.out b1)
    have N1 := Lib.hid (HNB.out.later b1)
    clear b1
    have KF1 := Lib.hid (KF.out w1 B1.out)
    go_wp2_with fail
    refine KF1.out.mono ?_
    rintro e w2 ⟨rfl, b2⟩
    have B2 := Lib.hid (below_on B1.out b2)
    have N2 := Lib.hid (N1.out.later b2)
    clear b2 KF1
    have NF2 := Lib.hid (NF.out w2 B2.out)
    obtain ⟨c0, c1, c2, c3⟩ := note_cells N2.out
    go_wp2_with fail
    refine NF2.out.mono ?_
    rintro e w3 ⟨rfl, b3⟩
    have B3 := Lib.hid (below_on B2.out b3)
    have N3 := Lib.hid (N2.out.later b3)
    clear b3 NF2 c0 c1 c2 c3
    have FT3 := Lib.hid (FT.out w3 B3.out)
    obtain ⟨c0, c1, c2, c3⟩ := note_cells N3.out
    go_wp2_with fail
    refine FT3.out.mono ?_
    rintro e w4 ⟨rfl, b4⟩
    have B4 := Lib.hid (below_on B3.out b4)
    have N4 := Lib.hid (N3.out.later b4)
    clear b4 FT3 c0 c1 c2 c3
    have FIN := Lib.hid (GivesT.err 3 B4.out)
    go_wp2
    exact bodyPost_ret (v := .tuple #[.slice none 0 0, .slice none 0 0, .int .i64 3]) (by simp [results, Try.results24, go_sem]) rfl FIN.out
  | true =>
    rw [if_pos rfl] at hR
    obtain ⟨NOW, hNOW⟩ : ∃ x, Ve.joinL [kn, n.e] = x := ⟨_, rfl⟩
    obtain ⟨ZO, hZO⟩ : ∃ x, Tr.mkTo (Tr.zof (L.map Zc.zn) kn n) 256 = x := ⟨_, rfl⟩
    rw [hR, hNOW, hZO]
    have HNOW := Lib.hid hNOW
    have HZO := Lib.hid hZO
    obtain ⟨i0, hI, hz0, hz1, hz2⟩ := info_parts infoZn
    clear hR hNOW hZO
    go_enter Try.func24, Try.ntmps24
    go_wp2_with fail
    rw [HW.out]
    refine ZF.out.mono ?_
    rintro e w1 ⟨rfl, b1⟩
    have B1 := Lib.hid (below_on HB0.out b1)
    have N1 := Lib.hid (HNB.out.later b1)
    clear b1
    have KF1 := Lib.hid (KF.out w1 B1.out)
    go_wp2_with fail
    refine KF1.out.mono ?_
    rintro e w2 ⟨rfl, b2⟩
    have B2 := Lib.hid (below_on B1.out b2)
    have N2 := Lib.hid (N1.out.later b2)
    clear b2 KF1
    have NF2 := Lib.hid (NF.out w2 B2.out)
    obtain ⟨c0, c1, c2, c3⟩ := note_cells N2.out
    go_wp2_with fail
    refine NF2.out.mono ?_
    rintro e w3 ⟨rfl, b3⟩
    have B3 := Lib.hid (below_on B2.out b3)
    have N3 := Lib.hid (N2.out.later b3)
    clear b3 NF2 c0 c1 c2 c3
    have FT3 := Lib.hid (FT.out w3 B3.out)
    obtain ⟨c0, c1, c2, c3⟩ := note_cells N3.out
    go_wp2_with fail
    refine FT3.out.mono ?_
    rintro e w4 ⟨rfl, b4⟩
    have B4 := Lib.hid (below_on B3.out b4)
    have N4 := Lib.hid (N3.out.later b4)
    clear b4 FT3 c0 c1 c2 c3
    have TW := rtwo_any B E cb ce kn n.e w4 (HK.out.later B4.out) (HN.out.he.later B4.out)
    rw [HNOW.out] at TW
    have TT := Lib.hid TW
    have SE := Lib.hid (fun wx (hb : Below w.heap.size w wx) => set_any Bl cl n.b wx (HN.out.hb.later hb).len (HN.out.hb.later hb).stamps)
    have c1 := N4.out.cell (i := 1) rfl
    clear TW
    go_wp2_with fail
    refine TT.out.mono ?_
    rintro e w5 ⟨v5, rfl, ho5, b5⟩
    have hnow := own_base ho5 B4.out.size
    obtain ⟨NA, na, rfl, -, -, -, -⟩ := own_form hnow
    have B5 := Lib.hid (below_on B4.out b5)
    have N5 := Lib.hid (N4.out.later b5)
    have HNW := Lib.hid hnow
    have SE5 := Lib.hid (SE.out w5 B5.out)
    have c2 := N5.out.cell (i := 2) rfl
    clear ho5 b5 hnow c1 TT SE
    go_wp2_with fail
    refine SE5.out.mono ?_
    rintro e w6 ⟨rfl, b6⟩
    have hS0 := Blk.new w6 63 (Sp.arr fun _ => false)
    rw [← marks_zero] at hS0
    have bs := below_setRow (below_new (Below.refl w6.heap.size w6) (.cells Try.zeroCells63 63)) (Nat.le_refl _) (Sp.arr (Sp.inL n.b))
    have TK := Lib.hid (⟨OwnZ.nil _ _, hS0.row (Sp.arr (Sp.inL n.b)), (N5.out.later b6).later bs, below_on (below_on B5.out b6) bs, (N5.out.later b6).lt⟩ : TkI w ((w6.alloc (.cells Try.zeroCells63 63)).setRow w6.heap.size (Sp.arr (Sp.inL n.b))) w6.heap.size (noteCells S E Bl V cs ce cl cv n) (Sp.inL n.b) (.slice none 0 0) [])
    have HNW7 := Lib.hid (own_later (own_later HNW.out b6) bs)
    clear b6 bs c2 SE5 N5 B5 HNW
    go_wp2_with (refine wpList_store_row rfl 63 _ _ rfl w6.heap.size (Sp.arr (Sp.inL n.b)) rfl rfl 63 Try.zeroCells63 hS0 (by rw [Sp.arr_size]; exact info256) (by rw [marks_zero, Sp.arr_size, Sp.arr_size]) (one_marks _) ?_)
    obtain ⟨W7, hW7⟩ : ∃ W7, (w6.alloc (.cells Try.zeroCells63 63)).setRow w6.heap.size (Sp.arr (Sp.inL n.b)) = W7 := ⟨_, rfl⟩
    obtain ⟨g, hg⟩ : ∃ g, w6.heap.size = g := ⟨_, rfl⟩
    rw [hW7] at TK HNW7 ⊢
    rw [hg] at TK ⊢
    clear hW7 hS0 hg
    go_loopg [11, 12] 256 (fun gk s11 s12 wr => ∃ (k : Nat) (M : List Zc), k ≤ 256 ∧ gk = 256 - k ∧ s12 = .int .i64 (k : Int) ∧ TkI w wr g (noteCells S E Bl V cs ce cl cv n) (Sp.inL n.b) s11 M ∧ M.map Zc.zn = Tr.mkTo (Tr.zof (L.map Zc.zn) kn n) k ∧ wr.ownsRow w.heap.size 53 2 (.slice NA NOW.length na) NOW.length (stCells NOW))
    case atStart => exact ⟨0, [], Nat.zero_le _, rfl, rfl, TK.out, rfl, HNW7.out⟩
    case round =>
      obtain ⟨k, M, hk, rfl, rfl, hT, hM, hNW⟩ := hrel
      obtain ⟨VA, vc, hvv, -, hvm, hvn, -⟩ := own_form hT.out.row
      subst hvv
      unfold maxLen at hvm
      have HT := Lib.hid hT
      have HM := Lib.hid hM
      have HNX := Lib.hid hNW
      have HMl := Lib.hid (show M.length ≤ k from by
        have h1 := congrArg List.length hM
        have h2 := Tr.mkTo_len (Tr.zof (L.map Zc.zn) kn n) k
        rw [List.length_map] at h1
        omega)
      clear TK HNW7 hM hNW
      by_cases hlt : k < 256
      · have hd : decide ((k : Int) < 256) = true := decide_eq_true (by omega)
        have hi0 : (0 : Int) ≤ (k : Int) := by omega
        have hi1 : (k : Int) < 256 := by omega
        obtain ⟨vl, hvl⟩ : ∃ vl, Tr.rch (L.map Zc.zn) kn (k : Int) = vl := ⟨_, rfl⟩
        have HVL := Lib.hid hvl
        clear hvl hT
        obtain ⟨r, hr⟩ : ∃ r, Tr.atI (L.map Zc.zn) (k : Int) = r := ⟨_, rfl⟩
        have ZA := zat_any A c L (k : Int) wr (HZ.out.later HT.out.low)
        rw [hr] at ZA
        have NA_ := Lib.hid ZA
        have HRR := Lib.hid hr
        clear hr ZA
        go_wp2_with fail
        refine NA_.out.mono ?_
        rintro e w8 ⟨rfl, b8⟩
        have HT8 := Lib.hid (HT.out.later b8)
        have HNX8 := Lib.hid (own_later HNX.out b8)
        clear b8 NA_ HT HNX
        go_upto_if 49 with (fail)
        go_cut [13] (fun s13 wx => ∃ X cx, s13 = .slice X vl.length cx ∧ OneL wx X cx vl ∧ Below w8.heap.size w8 wx)
        case first =>
          rcases Tr.at_ways (L.map Zc.zn) (k : Int) with ⟨h1, h2, -⟩ | ⟨j, h0, h1, h2, -, -⟩
          · have hv : vl = kn := by rw [← HVL.out]; unfold Tr.rch; rw [h2]; rfl
            have dr : decide ((0 : Int) ≤ r) = false := by rw [← HRR.out, h1]; rfl
            have HV := Lib.hid hv
            have HX8 := Lib.hid (HK.out.later HT8.out.low)
            clear h1 h2 hv
            rw [dr]
            go_wp2_with fail
            go_meet
            exact ⟨B, cb, by rw [HV.out], by rw [HV.out]; exact HX8.out, Below.refl _ _⟩
          · rw [List.length_map] at h0
            obtain ⟨x, hx⟩ : ∃ x, L[j]? = some x := ⟨L[j], List.getElem?_eq_getElem h0⟩
            have hg := zn_getD hx
            rw [hg] at h2
            have hv : vl = x.l := by rw [← HVL.out]; unfold Tr.rch; rw [h2]; rfl
            have hr : r = (j : Int) := by rw [← HRR.out, h1]
            subst hr
            have HV := Lib.hid hv
            obtain ⟨b, off, hA, hc⟩ := HZ.out.at (fun e => by subst e; simp at h0)
            obtain ⟨-, -, e2⟩ := hc j x hx
            subst hA
            have e2 := cell_later HT8.out.low e2
            have HX8 := Lib.hid ((HZ.out.one hx).later HT8.out.low)
            have hj0 : (0 : Int) ≤ (j : Int) := by omega
            have hj1 : (j : Int) < (L.length : Int) := by omega
            have dj : decide ((0 : Int) ≤ (j : Int)) = true := decide_eq_true hj0
            clear h1 h2 hv hc hx hg
            rw [dj]
            go_wp2_with fail
            go_meet
            exact ⟨x.X, x.c, by rw [HV.out], by rw [HV.out]; exact HX8.out, Below.refl _ _⟩
        case rest =>
          obtain ⟨X, cx, rfl, hX, hbw⟩ := hcut
          have HX := Lib.hid hX
          have HT8 := Lib.hid (HT8.out.later hbw)
          have HNX8 := Lib.hid (own_later HNX8.out hbw)
          clear hbw
          obtain ⟨w9, hw9⟩ : ∃ w9, wc = w9 := ⟨_, rfl⟩
          subst hw9
          obtain ⟨sh, hsh⟩ : ∃ sh, Tr.sho (L.map Zc.zn) kn n k = sh := ⟨_, rfl⟩
          have HSH := Lib.hid hsh
          have HSL := Lib.hid (show sh.length ≤ 64 from by rw [← hsh]; exact Tr.sho_len HZF.out HKF.out n k)
          have x1 := HT8.out.bl.marks_cell k hlt
          obtain ⟨m, hmm⟩ : ∃ m, Sp.inL n.b k = m := ⟨_, rfl⟩
          rw [hmm] at x1
          have HMM := Lib.hid hmm
          clear hX hsh hmm
          go_upto_if 58 with (fail)
          go_cut [13] (fun s13 wx => ∃ X cx, s13 = .slice X sh.length cx ∧ OneL wx X cx sh ∧ Below wc.heap.size wc wx)
          case first =>
            have hmm := HMM.out
            cases m with
            | true =>
              have hv : sh = vl := by rw [← HSH.out]; unfold Tr.sho; rw [if_pos hmm, HVL.out]
              have HV := Lib.hid hv
              clear hmm hv
              try simp only [Bool.not_true]
              go_wp2_with fail
              go_meet
              exact ⟨X, cx, by rw [HV.out], by rw [HV.out]; exact HX.out, Below.refl _ _⟩
            | false =>
              have hv : Tr.strd vl n (k : Int) = sh := by rw [← HSH.out]; unfold Tr.sho; rw [if_neg (by rw [hmm]; exact Bool.false_ne_true), HVL.out]
              have ST := zstretched_any X S E Bl V cx cs ce cl cv vl n (k : Int) wc HX.out (HN.out.later HT8.out.low)
              rw [hv] at ST
              have NS := Lib.hid ST
              obtain ⟨c0, c1, c2, c3⟩ := note_cells HT8.out.nb
              clear hmm hv ST
              try simp only [Bool.not_false]
              go_wp2_with fail
              refine NS.out.mono ?_
              rintro e w8 ⟨Y, cy, rfl, hy, b8⟩
              have HY := Lib.hid hy
              have B8 := Lib.hid b8
              clear hy b8 c0 c1 c2 c3 x1
              go_wp2_with fail
              go_meet
              exact ⟨Y, cy, by first | rfl | simp, HY.out, B8.out⟩
          case rest =>
            obtain ⟨Y, cy, rfl, hy, hbw⟩ := hcut
            have HY := Lib.hid hy
            have HD := Lib.hid (HT8.out.later hbw)
            have HND := Lib.hid (own_later HNX8.out hbw)
            have HY := Lib.hid hy
            have HD := Lib.hid (HT8.out.later hbw)
            have HND := Lib.hid (own_later HNX8.out hbw)
            have hno := now_one HND.out
            have RC := rcovers_any Y NA cy na sh NOW wc hy.len hno.len hy.stamps hno.stamps
            obtain ⟨cvb, hcvb⟩ : ∃ x, Ve.cov (Ve.cnt sh) (Ve.cnt NOW) = x := ⟨_, rfl⟩
            rw [hcvb] at RC
            have NRC := Lib.hid RC
            have HZF2 := Lib.hid (show Tr.zof (L.map Zc.zn) kn n k = if cvb = true then none else some sh from by unfold Tr.zof; rw [HSH.out, HNOW.out, hcvb])
            obtain ⟨ml, hml⟩ : ∃ x, M.length = x := ⟨_, rfl⟩
            rw [hml]
            rw [hml] at hvn
            have HLEN := Lib.hid hml
            have HML := Lib.hid (show ml ≤ k from by rw [← hml]; exact HMl.out)
            clear hy hbw RC hcvb hml HT8 HNX8 hno
            go_wp2_with fail
            refine NRC.out.mono ?_
            rintro e w9 ⟨rfl, b9⟩
            have HD9 := Lib.hid (HD.out.later b9)
            have HND9 := Lib.hid (own_later HND.out b9)
            have HY9 := Lib.hid (HY.out.later b9)
            clear b9 NRC HD HND HY
            cases cvb with
            | true =>
              have hT1 := Lib.hid (show M.map Zc.zn = Tr.mkTo (Tr.zof (L.map Zc.zn) kn n) (k + 1) from by rw [Tr.mkTo_none (by rw [HZF2.out]; rfl)]; exact HM.out)
              go_wp2_with fail
              go_roundg (256 - (k + 1))
              case measure => omega
              case rel => exact ⟨k + 1, M, by omega, rfl, by first | rfl | go_num, (by rw [← HLEN.out]; exact HD9.out), hT1.out, HND9.out⟩
            | false =>
              have hzo : Tr.zof (L.map Zc.zn) kn n k = some sh := by rw [HZF2.out]; rfl
              have HZS := Lib.hid hzo
              clear hzo
              rcases List.eq_nil_or_concat M with hMn | ⟨M0, z, hMn⟩
              · subst hMn
                have h0 : ml = 0 := by rw [← HLEN.out]; rfl
                subst h0
                have HNW := Lib.hid (show Tr.mkTo (Tr.zof (L.map Zc.zn) kn n) (k + 1) = ([] : List Zc).map Zc.zn ++ [((k : Int), (k : Int), sh)] from by
                  rw [HM.out]
                  exact Tr.mkTo_new HZS.out (by rw [← HM.out]; exact Tr.goes_nil k sh))
                have CP := Lib.hid (rcopy_any Y cy sh w9 (by have := HSL.out; omega) HY9.out.2.2.1 HY9.out.2.2.2)
                have HGW := Lib.hid (show g + 1 ≤ w9.heap.size from HD9.out.bl.lt)
                go_wp2_with fail
                refine CP.out.mono ?_
                rintro e w11 ⟨v11, rfl, ho, b11⟩
                have ho := own_base ho HGW.out
                obtain ⟨X11, c11, rfl, -, -, -, -⟩ := own_form ho
                have b12 := below_new (Below.refl w11.heap.size w11) (.cells #[.int .i64 (k : Int), .int .i64 (k : Int), .slice X11 sh.length c11] 57)
                have HD12 := Lib.hid ((HD9.out.later b11).later b12)
                have HO12 := Lib.hid (own_later ho b12)
                have HND12 := Lib.hid (own_later (own_later HND9.out b11) b12)
                have YB := Lib.hid (Blk.new w11 57 #[.int .i64 (k : Int), .int .i64 (k : Int), .slice X11 sh.length c11])
                have hown := HD12.out.out.row
                rw [HLEN.out] at hown
                have hs12 : g + 1 ≤ (w11.alloc (.cells #[.int .i64 (k : Int), .int .i64 (k : Int), .slice X11 sh.length c11] 57)).heap.size := HD12.out.bl.lt
                have hy12 : Lies (w11.alloc (.cells #[.int .i64 (k : Int), .int .i64 (k : Int), .slice X11 sh.length c11] 57)) (some ⟨w11.heap.size, 0, none⟩) [.int .i64 (k : Int), .int .i64 (k : Int), .slice X11 sh.length c11] := fun _ => ⟨w11.heap.size, 0, rfl, fun j u hu => by
                  rw [Nat.zero_add]
                  exact YB.out.cell (by simpa using hu)⟩
                have hml := HML.out
                clear ho b11 b12 CP
                go_wp2_with (at_builtin; refine Go.Proofs.Ytcfkpjbakccgiaa.wpList_append_lies _ rfl _ _ 22 rfl (g + 1) 57 i0 (.agg #[.int .i64 0, .int .i64 0, .slice none 0 0]) 3 40 undZones hI hz0 hz1 hz2 rfl (by decide) (.slice VA 0 vc) 0 (zCells []) rfl hown (some ⟨w11.heap.size, 0, none⟩) 1 1 (fun h => by cases h) [.int .i64 (k : Int), .int .i64 (k : Int), .slice X11 sh.length c11] rfl rfl hy12 (by intro u hu; simp at hu; rcases hu with rfl | rfl <;> rfl) ?d3 ?d4 ?d5 ?_)
                case d3 => unfold maxLen; omega
                case d4 => omega
                case d5 => exact hs12
                intro v13 w13 ho13 hg13 _
                have hsn := Lib.hid (HD12.out.push (z := ⟨(k : Int), (k : Int), X11, c11, sh⟩) HO12.out hg13 (by rw [HLEN.out]; exact ho13))
                have hnw := Lib.hid (own_stays HND12.out (fun q hq => hg13.block q (own_lt HND12.out q hq) (own_apart HND12.out hown (by decide) q hq)))
                clear ho13 hg13 hown hy12 hs12 hml
                go_wp2_with fail
                go_roundg (256 - (k + 1))
                case measure => omega
                case rel => exact ⟨k + 1, _, by omega, rfl, by first | rfl | go_num, hsn.out, by rw [List.map_append]; exact HNW.out.symm, hnw.out⟩
              · rw [List.concat_eq_append] at hMn
                obtain ⟨m, hm⟩ : ∃ m, M0.length = m := ⟨_, rfl⟩
                have hlm : ml = m + 1 := by rw [← HLEN.out, hMn, List.length_append, hm]; rfl
                subst hlm
                have hrow := HD9.out.out.row
                obtain ⟨gA, cap, hgv⟩ := own_len hrow (by rw [HLEN.out]; omega)
                injection hgv with hg1 _ hg2
                subst hg1 hg2
                have hz := zCells_get M m z (by rw [hMn, ← hm, List.getElem?_concat_length])
                have z1 := own_cell_at (n := m + 1) (by rw [HLEN.out] at hrow; exact hrow) hz.2.1
                have z2 := own_cell_at (n := m + 1) (by rw [HLEN.out] at hrow; exact hrow) hz.2.2
                have zf := own_free_at (n := m + 1) (by rw [HLEN.out] at hrow; exact hrow) (m * 3 + 1)
                have hzo := now_one (HD9.out.out.each z (by rw [hMn]; exact List.mem_append.2 (.inr (List.mem_singleton.2 rfl))))
                obtain ⟨zlo, zhi, ZX, zc, zl⟩ := z
                dsimp only at z1 z2 hzo
                have HMN := Lib.hid hMn
                have HM0 := Lib.hid hm
                have hgo : Tr.goesOn (M.map Zc.zn) k sh = decide (zhi = (k : Int) - 1 ∧ zl = sh) := by rw [hMn, List.map_append]; exact Tr.goes_snoc _ _ _ _
                have HGO := Lib.hid hgo
                have HZO9 := Lib.hid hzo
                have m0 : (0 : Int) ≤ (m : Int) := by omega
                have m1 : (m : Int) < ((m + 1 : Nat) : Int) := by omega
                have mz : ((m + 1 : Nat) : Int) - 1 = (m : Int) := by omega
                have hmb : m + 1 ≤ 257 := by have := HML.out; omega
                have dg : decide ((0 : Int) < ((m + 1 : Nat) : Int)) = true := decide_eq_true (by omega)
                have kw : IntKind.i64.wrap ((k : Int) - 1) = (k : Int) - 1 := IntWalk.i64_in _ (by omega)
                clear hMn hm hrow hz hzo hgo
                by_cases t5 : zhi = (k : Int) - 1
                · obtain ⟨sm, hsm⟩ : ∃ x, decide (zl = sh) = x := ⟨_, rfl⟩
                  have SM := Lib.hid (show Calls Try.prog 16 #[.slice ZX zl.length zc, .slice Y sh.length cy] w9 (fun e w' => e = .returned (.bool sm) ∧ Below w9.heap.size w9 w') from by
                    rw [← hsm]
                    exact rsame_any ZX Y zc cy zl sh w9 HZO9.out.len HZO9.out.stamps HY9.out.stamps)
                  have HSM := Lib.hid hsm
                  have HT5 := Lib.hid t5
                  clear hsm
                  subst t5
                  go_wp2_with fail
                  refine SM.out.mono ?_
                  rintro e w10 ⟨rfl, b10⟩
                  have HD10 := Lib.hid (HD9.out.later b10)
                  have HND10 := Lib.hid (own_later HND9.out b10)
                  have HY10 := Lib.hid (HY9.out.later b10)
                  have z1 := cell_later b10 z1
                  have zf := own_free_at (n := m + 1) (by have h := HD10.out.out.row; rw [HLEN.out] at h; exact h) (m * 3 + 1)
                  clear b10 SM
                  cases sm with
                  | true =>
                    have hx := HD10.out
                    rw [HLEN.out] at hx
                    have hx2 := TkI.ext (M0 := M0) (z := ⟨zlo, (k : Int) - 1, ZX, zc, zl⟩) (by rw [← HMN.out]; exact hx) (show m + 1 = _ from by rw [← HMN.out, HLEN.out]) (k : Int)
                    rw [HM0.out] at hx2
                    have HXT := Lib.hid hx2
                    have HNW := Lib.hid (show (M0 ++ [(⟨zlo, (k : Int), ZX, zc, zl⟩ : Zc)]).map Zc.zn = Tr.mkTo (Tr.zof (L.map Zc.zn) kn n) (k + 1) from by
                      rw [Tr.mkTo_on HZS.out (by rw [← HM.out, HGO.out]; exact decide_eq_true ⟨by first | rfl | trivial, of_decide_eq_true HSM.out⟩), ← HM.out, HMN.out, List.map_append, List.map_append]
                      exact (Tr.ext_snoc (M0.map Zc.zn) (zlo, (k : Int) - 1, zl) k).symm)
                    have hnw := Lib.hid (own_stays (w' := w10.setCell ⟨gA, m * 3 + 1, none⟩ (.int .i64 (k : Int))) HND10.out (fun q hq => Below.heap_setCell _ _ _ _ (fun e => own_apart HND10.out hx.out.row (by decide) q hq (by rw [e]; rfl))))
                    clear hx hx2
                    go_wp2_with fail
                    go_roundg (256 - (k + 1))
                    case measure => omega
                    case rel => exact ⟨k + 1, _, by omega, rfl, by first | rfl | go_num, HXT.out, HNW.out, hnw.out⟩
                  | false =>
                    have HNW := Lib.hid (show Tr.mkTo (Tr.zof (L.map Zc.zn) kn n) (k + 1) = M.map Zc.zn ++ [((k : Int), (k : Int), sh)] from by
                      rw [HM.out]
                      exact Tr.mkTo_new HZS.out (by rw [← HM.out, HGO.out]; exact decide_eq_false (fun h => of_decide_eq_false HSM.out h.2)))
                    have CP := Lib.hid (rcopy_any Y cy sh w10 (by have := HSL.out; omega) HY10.out.2.2.1 HY10.out.2.2.2)
                    have HGW := Lib.hid (show g + 1 ≤ w10.heap.size from HD10.out.bl.lt)
                    go_wp2_with fail
                    refine CP.out.mono ?_
                    rintro e w11 ⟨v11, rfl, ho, b11⟩
                    have ho := own_base ho HGW.out
                    obtain ⟨X11, c11, rfl, -, -, -, -⟩ := own_form ho
                    have b12 := below_new (Below.refl w11.heap.size w11) (.cells #[.int .i64 (k : Int), .int .i64 (k : Int), .slice X11 sh.length c11] 57)
                    have HD12 := Lib.hid ((HD10.out.later b11).later b12)
                    have HO12 := Lib.hid (own_later ho b12)
                    have HND12 := Lib.hid (own_later (own_later HND10.out b11) b12)
                    have YB := Lib.hid (Blk.new w11 57 #[.int .i64 (k : Int), .int .i64 (k : Int), .slice X11 sh.length c11])
                    have hown := HD12.out.out.row
                    rw [HLEN.out] at hown
                    have hs12 : g + 1 ≤ (w11.alloc (.cells #[.int .i64 (k : Int), .int .i64 (k : Int), .slice X11 sh.length c11] 57)).heap.size := HD12.out.bl.lt
                    have hy12 : Lies (w11.alloc (.cells #[.int .i64 (k : Int), .int .i64 (k : Int), .slice X11 sh.length c11] 57)) (some ⟨w11.heap.size, 0, none⟩) [.int .i64 (k : Int), .int .i64 (k : Int), .slice X11 sh.length c11] := fun _ => ⟨w11.heap.size, 0, rfl, fun j u hu => by
                      rw [Nat.zero_add]
                      exact YB.out.cell (by simpa using hu)⟩
                    have hml := HML.out
                    clear ho b11 b12 CP
                    go_wp2_with (at_builtin; refine Go.Proofs.Ytcfkpjbakccgiaa.wpList_append_lies _ rfl _ _ 22 rfl (g + 1) 57 i0 (.agg #[.int .i64 0, .int .i64 0, .slice none 0 0]) 3 40 undZones hI hz0 hz1 hz2 rfl (by decide) (.slice (some ⟨gA, 0, none⟩) (m + 1) vc) (m + 1) (zCells M) rfl hown (some ⟨w11.heap.size, 0, none⟩) 1 1 (fun h => by cases h) [.int .i64 (k : Int), .int .i64 (k : Int), .slice X11 sh.length c11] rfl rfl hy12 (by intro u hu; simp at hu; rcases hu with rfl | rfl <;> rfl) ?d3 ?d4 ?d5 ?_)
                    case d3 => unfold maxLen; omega
                    case d4 => omega
                    case d5 => exact hs12
                    intro v13 w13 ho13 hg13 _
                    have hsn := Lib.hid (HD12.out.push (z := ⟨(k : Int), (k : Int), X11, c11, sh⟩) HO12.out hg13 (by rw [HLEN.out]; exact ho13))
                    have hnw := Lib.hid (own_stays HND12.out (fun q hq => hg13.block q (own_lt HND12.out q hq) (own_apart HND12.out hown (by decide) q hq)))
                    clear ho13 hg13 hown hy12 hs12 hml
                    go_wp2_with fail
                    go_roundg (256 - (k + 1))
                    case measure => omega
                    case rel => exact ⟨k + 1, _, by omega, rfl, by first | rfl | go_num, hsn.out, by rw [List.map_append]; exact HNW.out.symm, hnw.out⟩
                · have d5 : (zhi == (k : Int) - 1) = false := by rw [beq_eq_false_iff_ne]; exact t5
                  have d5' : decide (zhi = (k : Int) - 1) = false := decide_eq_false t5
                  have HNW := Lib.hid (show Tr.mkTo (Tr.zof (L.map Zc.zn) kn n) (k + 1) = M.map Zc.zn ++ [((k : Int), (k : Int), sh)] from by
                    rw [HM.out]
                    exact Tr.mkTo_new HZS.out (by rw [← HM.out, HGO.out]; exact decide_eq_false (fun h => t5 h.1)))
                  have HT5 := Lib.hid t5
                  clear t5
                  have CP := Lib.hid (rcopy_any Y cy sh w9 (by have := HSL.out; omega) HY9.out.2.2.1 HY9.out.2.2.2)
                  have HGW := Lib.hid (show g + 1 ≤ w9.heap.size from HD9.out.bl.lt)
                  go_wp2_with fail
                  refine CP.out.mono ?_
                  rintro e w11 ⟨v11, rfl, ho, b11⟩
                  have ho := own_base ho HGW.out
                  obtain ⟨X11, c11, rfl, -, -, -, -⟩ := own_form ho
                  have b12 := below_new (Below.refl w11.heap.size w11) (.cells #[.int .i64 (k : Int), .int .i64 (k : Int), .slice X11 sh.length c11] 57)
                  have HD12 := Lib.hid ((HD9.out.later b11).later b12)
                  have HO12 := Lib.hid (own_later ho b12)
                  have HND12 := Lib.hid (own_later (own_later HND9.out b11) b12)
                  have YB := Lib.hid (Blk.new w11 57 #[.int .i64 (k : Int), .int .i64 (k : Int), .slice X11 sh.length c11])
                  have hown := HD12.out.out.row
                  rw [HLEN.out] at hown
                  have hs12 : g + 1 ≤ (w11.alloc (.cells #[.int .i64 (k : Int), .int .i64 (k : Int), .slice X11 sh.length c11] 57)).heap.size := HD12.out.bl.lt
                  have hy12 : Lies (w11.alloc (.cells #[.int .i64 (k : Int), .int .i64 (k : Int), .slice X11 sh.length c11] 57)) (some ⟨w11.heap.size, 0, none⟩) [.int .i64 (k : Int), .int .i64 (k : Int), .slice X11 sh.length c11] := fun _ => ⟨w11.heap.size, 0, rfl, fun j u hu => by
                    rw [Nat.zero_add]
                    exact YB.out.cell (by simpa using hu)⟩
                  have hml := HML.out
                  clear ho b11 b12 CP
                  go_wp2_with (at_builtin; refine Go.Proofs.Ytcfkpjbakccgiaa.wpList_append_lies _ rfl _ _ 22 rfl (g + 1) 57 i0 (.agg #[.int .i64 0, .int .i64 0, .slice none 0 0]) 3 40 undZones hI hz0 hz1 hz2 rfl (by decide) (.slice (some ⟨gA, 0, none⟩) (m + 1) vc) (m + 1) (zCells M) rfl hown (some ⟨w11.heap.size, 0, none⟩) 1 1 (fun h => by cases h) [.int .i64 (k : Int), .int .i64 (k : Int), .slice X11 sh.length c11] rfl rfl hy12 (by intro u hu; simp at hu; rcases hu with rfl | rfl <;> rfl) ?d3 ?d4 ?d5 ?_)
                  case d3 => unfold maxLen; omega
                  case d4 => omega
                  case d5 => exact hs12
                  intro v13 w13 ho13 hg13 _
                  have hsn := Lib.hid (HD12.out.push (z := ⟨(k : Int), (k : Int), X11, c11, sh⟩) HO12.out hg13 (by rw [HLEN.out]; exact ho13))
                  have hnw := Lib.hid (own_stays HND12.out (fun q hq => hg13.block q (own_lt HND12.out q hq) (own_apart HND12.out hown (by decide) q hq)))
                  clear ho13 hg13 hown hy12 hs12 hml
                  go_wp2_with fail
                  go_roundg (256 - (k + 1))
                  case measure => omega
                  case rel => exact ⟨k + 1, _, by omega, rfl, by first | rfl | go_num, hsn.out, by rw [List.map_append]; exact HNW.out.symm, hnw.out⟩
      · have hd : decide ((k : Int) < 256) = false := decide_eq_false (by omega)
        have hkl : k = 256 := by omega
        have hme : M.map Zc.zn = ZO := by rw [HM.out, hkl, HZO.out]
        obtain ⟨VB, vd, hve, hOZ⟩ := HT.out.out.one
        injection hve with hve1 _ hve2
        subst hve1 hve2
        have FIN := Lib.hid (show GivesT (ZO, NOW, 0) w (.returned (.tuple #[.slice VA M.length vc, .slice NA NOW.length na, .int .i64 0])) wr from ⟨VA, vc, M, NA, na, rfl, hOZ, hme, now_one HNX.out, HT.out.low⟩)
        clear hkl hme hOZ hT
        go_wp2
        exact bodyPost_ret (v := .tuple #[.slice VA M.length vc, .slice NA NOW.length na, .int .i64 0]) (by simp [results, Try.results24, go_sem]) rfl FIN.out
end Go.Proofs.Ytcfkpjbakccgiaa
namespace Go.Proofs.Ytcfkpjbakccgiaa
open Go.RowKit

namespace Ve
/-- Right stamps by rising nodes, from a node on. -/
def up : Int → List (Int × Int) → Prop
  | _, [] => True
  | lo, s :: r => St.rgt s.1 s.2 = true ∧ lo ≤ s.2 ∧ up (s.2 + 1) r
theorem up_of : ∀ (l : List (Int × Int)) (lo : Int), fmTo l l.length → (∀ s r, l = s :: r → lo ≤ s.2) → up lo l
  | [], _, _, _ => trivial
  | s :: r, lo, h, h0 => by
    refine ⟨(h 0 (by simp)).1, h0 s r rfl, up_of r (s.2 + 1) (fun j hj => ?_) (fun t q e => ?_)⟩
    · have h1 := h (j + 1) (by simpa using hj)
      refine ⟨by simpa using h1.1, fun hj0 => ?_⟩
      have h2 := h1.2 (by omega)
      obtain ⟨i, rfl⟩ : ∃ i, j = i + 1 := ⟨j - 1, by omega⟩
      simpa using h2
    · subst e
      have h1 := (h 1 (by simp)).2 (by omega)
      simp at h1
      omega
theorem up_less : ∀ (l : List (Int × Int)) (lo : Int), up lo l → ∀ n : Nat, (n : Int) < lo → cnt l n = 0
  | [], _, _, _, _ => rfl
  | s :: r, lo, h, n, hn => by
    unfold cnt
    rw [if_neg (fun q => by have := h.2.1; have := q.2; omega)]
    exact up_less r (s.2 + 1) h.2.2 n (by have := h.2.1; omega)
theorem up_head {s : Int × Int} {r : List (Int × Int)} {lo : Int} (h : up lo (s :: r)) : ∃ n : Nat, n < 64 ∧ s.2 = (n : Int) ∧ cnt (s :: r) n = s.1 ∧ 1 ≤ s.1 := by
  have h1 := h.1
  unfold St.rgt at h1
  have h2 := of_decide_eq_true h1
  refine ⟨s.2.toNat, by omega, by omega, ?_, h2.1⟩
  unfold cnt
  rw [if_pos ⟨h.1, by omega⟩]
theorem uniq : ∀ (l r : List (Int × Int)) (lo : Int), up lo l → up lo r → (∀ n : Nat, n < 64 → cnt l n = cnt r n) → l = r
  | [], [], _, _, _, _ => rfl
  | [], t :: r, lo, _, h2, hc => by
    obtain ⟨n, h3, h4, h5, h6⟩ := up_head h2
    have := hc n h3
    rw [h5] at this
    have h7 : cnt [] n = 0 := rfl
    omega
  | s :: l, [], lo, h1, _, hc => by
    obtain ⟨n, h3, h4, h5, h6⟩ := up_head h1
    have := hc n h3
    rw [h5] at this
    have h7 : cnt [] n = 0 := rfl
    omega
  | s :: l, t :: r, lo, h1, h2, hc => by
    obtain ⟨n, a3, a4, a5, a6⟩ := up_head h1
    obtain ⟨m, b3, b4, b5, b6⟩ := up_head h2
    have hnm : n = m := by
      rcases Nat.lt_trichotomy n m with q | q | q
      · have h3 := hc n a3
        rw [a5, up_less (t :: r) t.2 ⟨h2.1, Int.le_refl _, h2.2.2⟩ n (by omega)] at h3
        omega
      · exact q
      · have h3 := hc m b3
        rw [b5, up_less (s :: l) s.2 ⟨h1.1, Int.le_refl _, h1.2.2⟩ m (by omega)] at h3
        omega
    subst hnm
    have h3 := hc n a3
    rw [a5, b5] at h3
    have hst : s = t := Prod.ext h3 (by omega)
    subst hst
    congr 1
    refine uniq l r (s.2 + 1) h1.2.2 h2.2.2 (fun i hi => ?_)
    by_cases e : s.2 = (i : Int)
    · rw [up_less l (s.2 + 1) h1.2.2 i (by omega), up_less r (s.2 + 1) h2.2.2 i (by omega)]
    · have h4 := hc i hi
      unfold cnt at h4
      rw [if_neg (fun q => e q.2), if_neg (fun q => e q.2)] at h4
      exact h4
theorem up_fmd {l : List (Int × Int)} (h : fmd l = true) : up 0 l := up_of l 0 ((fmd_iff l).1 h) (fun s r e => by
  subst e
  have h1 : St.rgt s.1 s.2 = true := ((fmd_iff (s :: r)).1 h 0 (Nat.succ_pos _)).1
  unfold St.rgt at h1
  have := of_decide_eq_true h1
  omega)
theorem self {l : List (Int × Int)} (h : fmd l = true) : ofL (cnt l) = l := by
  have hc : ∀ n : Nat, n < 64 → cnt (ofL (cnt l)) n = cnt l n := fun n hn => cnt_ofL (cnt l) (cnt_nonneg l) n hn
  have hf : fmd (ofL (cnt l)) = true := fmd_ofL (cnt l)
  generalize ofL (cnt l) = r at hc hf
  exact uniq r l 0 (up_fmd hf) (up_fmd h) hc
end Ve

namespace Tr
theorem mkTo_ext {f g : Nat → Option (List (Int × Int))} : ∀ k, (∀ o, o < k → f o = g o) → mkTo f k = mkTo g k
  | 0, _ => rfl
  | k + 1, h => by
    have ih := mkTo_ext k (fun o ho => h o (by omega))
    cases hf : f k with
    | none => rw [mkTo_none hf, mkTo_none (by rw [← h k (by omega)]; exact hf), ih]
    | some v =>
      have hg : g k = some v := by rw [← h k (by omega)]; exact hf
      cases ho : goesOn (mkTo f k) k v with
      | true => rw [mkTo_on hf ho, mkTo_on hg (by rw [← ih]; exact ho), ih]
      | false => rw [mkTo_new hf ho, mkTo_new hg (by rw [← ih]; exact ho), ih]

theorem getD_lt (zs : List Zn) (z : Zn) {j : Nat} (h : j < zs.length) : (zs ++ [z]).getD j (0, 0, []) = zs.getD j (0, 0, []) := by
  rw [List.getD_eq_getElem?_getD, List.getD_eq_getElem?_getD, List.getElem?_append_left h]
theorem getD_eq (zs : List Zn) (z : Zn) : (zs ++ [z]).getD zs.length (0, 0, []) = z := by
  rw [List.getD_eq_getElem?_getD, List.getElem?_concat_length]
  rfl
/-- Is a zone as it must be behind others? -/
def okLast (zs : List Zn) (z : Zn) : Prop :=
  (0 ≤ z.1 ∧ z.1 ≤ z.2.1 ∧ z.2.1 ≤ 255) ∧ Ve.fmd z.2.2 = true ∧ (0 < zs.length → (zs.getD (zs.length - 1) (0, 0, [])).2.1 < z.1 ∧ ((zs.getD (zs.length - 1) (0, 0, [])).2.1 = z.1 - 1 → (zs.getD (zs.length - 1) (0, 0, [])).2.2 ≠ z.2.2))
theorem ok_snoc (zs : List Zn) (z : Zn) : fmTo (zs ++ [z]) (zs ++ [z]).length ↔ fmTo zs zs.length ∧ okLast zs z := by
  rw [List.length_append, List.length_singleton]
  constructor
  · intro h
    refine ⟨fun j hj => ?_, ?_⟩
    · have h1 := h j (by omega)
      unfold okAt at h1 ⊢
      rw [getD_lt zs z hj] at h1
      refine ⟨h1.1, h1.2.1, fun h0 => ?_⟩
      have h2 := h1.2.2 h0
      rw [getD_lt zs z (by omega)] at h2
      exact h2
    · have h1 := h zs.length (by omega)
      unfold okAt at h1
      unfold okLast
      rw [getD_eq] at h1
      refine ⟨h1.1, h1.2.1, fun h0 => ?_⟩
      have h2 := h1.2.2 h0
      rw [getD_lt zs z (by omega)] at h2
      exact h2
  · rintro ⟨h, hl⟩ j hj
    by_cases e : j < zs.length
    · have h1 := h j e
      unfold okAt at h1 ⊢
      rw [getD_lt zs z e]
      refine ⟨h1.1, h1.2.1, fun h0 => ?_⟩
      rw [getD_lt zs z (by omega)]
      exact h1.2.2 h0
    · have ej : j = zs.length := by omega
      subst ej
      unfold okAt
      rw [getD_eq]
      refine ⟨hl.1, hl.2.1, fun h0 => ?_⟩
      rw [getD_lt zs z (by omega)]
      exact hl.2.2 h0
theorem at_snoc (zs : List Zn) (z : Zn) (o : Int) : at_ (zs ++ [z]) o = (at_ zs o).or (if holds z o = true then some z.2.2 else none) := by
  induction zs with
  | nil =>
    show at_ [z] o = (none : Option (List (Int × Int))).or _
    rw [at_cons, Option.none_or]
    rfl
  | cons y r ih =>
    rw [List.cons_append, at_cons, at_cons, ih]
    split
    · rfl
    · rfl
theorem at_above {zs : List Zn} {k : Int} (h : ∀ z ∈ zs, z.2.1 < k) : at_ zs k = none := by
  induction zs with
  | nil => rfl
  | cons y r ih =>
    have h1 := h y (List.mem_cons_self)
    rw [at_cons, if_neg (fun q => by unfold holds at q; have := (of_decide_eq_true q).2; omega)]
    exact ih (fun z hz => h z (List.mem_cons_of_mem _ hz))
/-- The zones of a function. -/
theorem mkTo_is {f : Nat → Option (List (Int × Int))} (hf : ∀ o v, f o = some v → Ve.fmd v = true) : ∀ k, k ≤ 256 → fmTo (mkTo f k) (mkTo f k).length ∧ (∀ z ∈ mkTo f k, z.2.1 < (k : Int)) ∧ ∀ o : Nat, at_ (mkTo f k) (o : Int) = if o < k then f o else none
  | 0, _ => ⟨fun j hj => (by cases hj), fun z hz => (by cases hz), fun o => (by rw [if_neg (by omega)]; rfl)⟩
  | k + 1, hk => by
    obtain ⟨h1, h2, h3⟩ := mkTo_is hf k (by omega)
    cases hv : f k with
    | none =>
      rw [mkTo_none hv]
      refine ⟨h1, fun z hz => by have := h2 z hz; omega, fun o => ?_⟩
      rw [h3 o]
      by_cases e : o = k
      · subst e; rw [if_neg (by omega), if_pos (by omega), hv]
      · by_cases q : o < k
        · rw [if_pos q, if_pos (by omega)]
        · rw [if_neg q, if_neg (by omega)]
    | some v =>
      have hvf := hf k v hv
      cases hg : goesOn (mkTo f k) k v with
      | true =>
        rw [mkTo_on hv hg]
        rcases List.eq_nil_or_concat (mkTo f k) with h0 | ⟨M0, z, h0⟩
        · rw [h0, goes_nil] at hg; cases hg
        · rw [List.concat_eq_append] at h0
          rw [h0] at hg h1 h2 h3 ⊢
          rw [goes_snoc] at hg
          obtain ⟨g1, g2⟩ := of_decide_eq_true hg
          rw [ext_snoc]
          obtain ⟨a1, a2⟩ := (ok_snoc M0 z).1 h1
          refine ⟨(ok_snoc M0 _).2 ⟨a1, ⟨a2.1.1, ?_, ?_⟩, a2.2.1, a2.2.2⟩, fun y hy => ?_, fun o => ?_⟩
          · have := a2.1.2.1; show z.1 ≤ (k : Int); omega
          · show (k : Int) ≤ 255; omega
          · rcases List.mem_append.1 hy with hy | hy
            · have := h2 y (List.mem_append.2 (.inl hy)); omega
            · rw [List.mem_singleton] at hy
              subst hy
              show (k : Int) < ((k + 1 : Nat) : Int)
              omega
          · have h4 := h3 o
            rw [at_snoc] at h4 ⊢
            by_cases e : o < k
            · rw [if_pos e] at h4
              rw [if_pos (show o < k + 1 by omega), ← h4]
              have : holds (z.1, (k : Int), z.2.2) (o : Int) = holds z (o : Int) := by
                unfold holds
                rw [decide_eq_decide]
                show z.1 ≤ (o : Int) ∧ (o : Int) ≤ (k : Int) ↔ z.1 ≤ (o : Int) ∧ (o : Int) ≤ z.2.1
                omega
              rw [this]
            · by_cases e2 : o = k
              · subst e2
                have hn : at_ M0 (o : Int) = none := at_above (fun y hy => h2 y (List.mem_append.2 (.inl hy)))
                rw [hn, Option.none_or, if_pos (show o < o + 1 by omega), hv, if_pos, g2]
                unfold holds
                refine decide_eq_true ⟨?_, Int.le_refl _⟩
                have := a2.1.2.1
                show z.1 ≤ (o : Int)
                omega
              · rw [if_neg e] at h4
                rw [if_neg (show ¬ o < k + 1 by omega)]
                have hn : at_ M0 (o : Int) = none := at_above (fun y hy => by have := h2 y (List.mem_append.2 (.inl hy)); omega)
                rw [hn, Option.none_or, if_neg]
                unfold holds
                intro q
                have := (of_decide_eq_true q).2
                have h5 : (o : Int) ≤ (k : Int) := this
                omega
      | false =>
        rw [mkTo_new hv hg]
        refine ⟨(ok_snoc _ _).2 ⟨h1, ⟨by omega, Int.le_refl _, by show (k : Int) ≤ 255; omega⟩, hvf, fun h0 => ?_⟩, fun y hy => ?_, fun o => ?_⟩
        · rcases List.eq_nil_or_concat (mkTo f k) with h5 | ⟨M0, z, h5⟩
          · rw [h5] at h0; cases h0
          · rw [List.concat_eq_append] at h5
            rw [h5] at hg h2 ⊢
            rw [goes_snoc] at hg
            rw [last_snoc]
            have h6 := h2 z (List.mem_append.2 (.inr (List.mem_singleton.2 rfl)))
            exact ⟨h6, fun q1 q2 => of_decide_eq_false hg ⟨q1, q2⟩⟩
        · rcases List.mem_append.1 hy with hy | hy
          · have := h2 y hy; omega
          · rw [List.mem_singleton] at hy
            subst hy
            show (k : Int) < ((k + 1 : Nat) : Int)
            omega
        · rw [at_snoc, h3 o]
          by_cases e : o < k
          · rw [if_pos e, if_pos (show o < k + 1 by omega), if_neg, Option.or_none]
            unfold holds
            intro q
            have h5 : (k : Int) ≤ (o : Int) := (of_decide_eq_true q).1
            omega
          · by_cases e2 : o = k
            · subst e2
              rw [if_neg e, if_pos (show o < o + 1 by omega), Option.none_or, hv, if_pos]
              unfold holds
              exact decide_eq_true ⟨Int.le_refl _, Int.le_refl _⟩
            · rw [if_neg e, if_neg (show ¬ o < k + 1 by omega), Option.none_or, if_neg]
              unfold holds
              intro q
              have h5 : (o : Int) ≤ (k : Int) := (of_decide_eq_true q).2
              omega
theorem fmd_mk {f : Nat → Option (List (Int × Int))} (hf : ∀ o v, f o = some v → Ve.fmd v = true) : fmd (mkTo f 256) = true := (fmd_iff _).2 (mkTo_is hf 256 (Nat.le_refl _)).1
theorem at_mk {f : Nat → Option (List (Int × Int))} (hf : ∀ o v, f o = some v → Ve.fmd v = true) {o : Nat} (ho : o < 256) : at_ (mkTo f 256) (o : Int) = f o := by rw [(mkTo_is hf 256 (Nat.le_refl _)).2.2 o, if_pos ho]

theorem strd_fmd {v : List (Int × Int)} (h : Ve.fmd v = true) (n : Note) (o : Int) : Ve.fmd (strd v n o) = true := by
  unfold strd
  split
  · exact h
  · exact Ve.fmd_ofL _
theorem sho_fmd {zs : List Zn} {known : List (Int × Int)} (h : fmd zs = true) (hk : Ve.fmd known = true) (n : Note) (o : Nat) : Ve.fmd (sho zs known n o) = true := by
  have h1 := rch_fmd h hk (o : Int)
  unfold sho
  split
  · exact h1
  · exact strd_fmd h1 n _
theorem zof_fmd {zs : List Zn} {known : List (Int × Int)} (h : fmd zs = true) (hk : Ve.fmd known = true) (n : Note) : ∀ o v, zof zs known n o = some v → Ve.fmd v = true := by
  intro o v hv
  unfold zof at hv
  split at hv
  · cases hv
  · cases hv
    exact sho_fmd h hk n o

section
variable {zs : List Zn} {kn : List (Int × Int)} {n : Note}
theorem str_nonneg (l : List (Int × Int)) (s e : Nat → Int) (i : Nat) : 0 ≤ str (Ve.cnt l) s e i := by
  have := Ve.cnt_nonneg l i
  unfold str
  split
  · split <;> omega
  · exact this
theorem cnt_str (l : List (Int × Int)) (s e : Nat → Int) (i : Nat) (hi : i < 64) : Ve.cnt (Ve.ofL (str (Ve.cnt l) s e)) i = str (Ve.cnt l) s e i := Ve.cnt_ofL _ (str_nonneg l s e) i hi
theorem cnt_now (i : Nat) (hi : i < 64) : Ve.cnt (Ve.joinL [kn, n.e]) i = if Ve.cnt kn i < Ve.cnt n.e i then Ve.cnt n.e i else Ve.cnt kn i := by rw [Ve.cnt_joinL _ i hi, Ve.jn_two]
/-- A reach stretched twice is stretched once. -/
theorem strd_twice (v : List (Int × Int)) (n : Note) (o : Int) : strd (strd v n o) n o = strd v n o := by
  obtain ⟨x, hx⟩ : ∃ x, Ve.ofL (str (Ve.cnt v) (Ve.cnt n.s) (Ve.cnt n.e)) = x := ⟨_, rfl⟩
  have hxx : Ve.ofL (str (Ve.cnt x) (Ve.cnt n.s) (Ve.cnt n.e)) = x := by
    rw [← hx]
    refine Ve.ofL_ext (fun i hi => ?_)
    have h1 := cnt_str v (Ve.cnt n.s) (Ve.cnt n.e) i hi
    unfold str at h1 ⊢
    rw [h1]
    (repeat' split) <;> omega
  have hv : strd v n o = if (Nt.at_ n.ws o).2 = true ∧ hasOf x (Nt.at_ n.ws o).1.1 (Nt.at_ n.ws o).1.2.1 = false then v else x := by unfold strd; rw [hx]
  have hx2 : strd x n o = x := by unfold strd; rw [hxx]; split <;> rfl
  rw [hv]
  split
  · next h => rw [hv, if_pos h]
  · exact hx2
/-- What is known already stretches nothing. -/
theorem strd_known {K : List (Int × Int)} (hK : Ve.fmd K = true) (he : Ve.cov (Ve.cnt K) (Ve.cnt n.e) = true) (o : Int) : strd K n o = K := by
  have hx : Ve.ofL (str (Ve.cnt K) (Ve.cnt n.s) (Ve.cnt n.e)) = K := by
    have h := (Ve.cov_iff _ _).1 he
    refine Eq.trans (Ve.ofL_ext (fun i hi => ?_)) (Ve.self hK)
    have := h i hi
    unfold str
    (repeat' split) <;> omega
  unfold strd
  rw [hx]
  split <;> rfl
theorem join_known {K : List (Int × Int)} (hK : Ve.fmd K = true) {e : List (Int × Int)} (he : Ve.cov (Ve.cnt K) (Ve.cnt e) = true) : Ve.joinL [K, e] = K := by
  refine Eq.trans (Ve.ofL_ext (fun i hi => ?_)) (Ve.self hK)
  have := (Ve.cov_iff _ _).1 he i hi
  rw [Ve.jn_two]
  split <;> omega
theorem cov_self (f : Nat → Int) : Ve.cov f f = true := (Ve.cov_iff _ _).2 (fun _ _ => Int.le_refl _)
/-- The reach behind a note that was taken. -/
theorem rch_taken (hz : fmd zs = true) (hk : Ve.fmd kn = true) {o : Nat} (ho : o < 256) : rch (mkTo (zof zs kn n) 256) (Ve.joinL [kn, n.e]) (o : Int) = if Ve.cov (Ve.cnt (sho zs kn n o)) (Ve.cnt (Ve.joinL [kn, n.e])) = true then Ve.joinL [kn, n.e] else sho zs kn n o := by
  unfold rch
  rw [at_mk (zof_fmd hz hk n) ho]
  unfold zof
  split <;> rfl
theorem zof_eq (zs : List Zn) (kn : List (Int × Int)) (n : Note) (o : Nat) : zof zs kn n o = if Ve.cov (Ve.cnt (sho zs kn n o)) (Ve.cnt (Ve.joinL [kn, n.e])) = true then none else some (sho zs kn n o) := rfl
/-- A note that is taken twice is taken once. -/
theorem zof_twice (hz : fmd zs = true) (hk : Ve.fmd kn = true) {o : Nat} (ho : o < 256) : zof (mkTo (zof zs kn n) 256) (Ve.joinL [kn, n.e]) n o = zof zs kn n o := by
  have hK : Ve.fmd (Ve.joinL [kn, n.e]) = true := Ve.fmd_joinL _
  have he : Ve.cov (Ve.cnt (Ve.joinL [kn, n.e])) (Ve.cnt n.e) = true := Ve.cov_join_right kn n.e
  have hj := join_known hK he
  have hr := rch_taken (n := n) hz hk ho
  have hs0 : sho zs kn n o = if Sp.inL n.b o = true then rch zs kn (o : Int) else strd (rch zs kn (o : Int)) n (o : Int) := rfl
  rw [zof_eq (mkTo (zof zs kn n) 256), zof_eq zs, hj]
  by_cases hc : Ve.cov (Ve.cnt (sho zs kn n o)) (Ve.cnt (Ve.joinL [kn, n.e])) = true
  · rw [if_pos hc] at hr ⊢
    have h1 : sho (mkTo (zof zs kn n) 256) (Ve.joinL [kn, n.e]) n o = Ve.joinL [kn, n.e] := by
      show (if Sp.inL n.b o = true then rch _ _ (o : Int) else strd (rch _ _ (o : Int)) n (o : Int)) = _
      rw [hr, strd_known hK he]
      split <;> rfl
    rw [h1, if_pos (cov_self _)]
  · rw [if_neg hc] at hr ⊢
    have h1 : sho (mkTo (zof zs kn n) 256) (Ve.joinL [kn, n.e]) n o = sho zs kn n o := by
      show (if Sp.inL n.b o = true then rch _ _ (o : Int) else strd (rch _ _ (o : Int)) n (o : Int)) = _
      rw [hr, hs0]
      split
      · rfl
      · exact strd_twice _ _ _
    rw [h1, if_neg hc]
theorem take_yes (hz : fmd zs = true) (hk : Ve.fmd kn = true) (hn : Nt.fmd n = true) (hf : Ve.cov (Ve.cnt kn) (Ve.cnt n.s) = true) : tkR zs kn n = (mkTo (zof zs kn n) 256, Ve.joinL [kn, n.e], 0) := by
  unfold tkR
  rw [if_pos ⟨hz, hk, hn⟩, if_pos hf]
theorem cov_trans {f g h : Nat → Int} (h1 : Ve.cov f g = true) (h2 : Ve.cov g h = true) : Ve.cov f h = true := (Ve.cov_iff _ _).2 (fun i hi => Int.le_trans ((Ve.cov_iff _ _).1 h2 i hi) ((Ve.cov_iff _ _).1 h1 i hi))
theorem take_twice (hz : fmd zs = true) (hk : Ve.fmd kn = true) (hn : Nt.fmd n = true) (hf : Ve.cov (Ve.cnt kn) (Ve.cnt n.s) = true) : tkR (mkTo (zof zs kn n) 256) (Ve.joinL [kn, n.e]) n = (mkTo (zof zs kn n) 256, Ve.joinL [kn, n.e], 0) := by
  have hK : Ve.fmd (Ve.joinL [kn, n.e]) = true := Ve.fmd_joinL _
  rw [take_yes (fmd_mk (zof_fmd hz hk n)) hK hn (cov_trans (Ve.cov_join_left kn n.e) hf), join_known hK (Ve.cov_join_right kn n.e), mkTo_ext 256 (fun o ho => zof_twice hz hk ho)]
/-- A note that says nothing. -/
def still (K : List (Int × Int)) : Note := ⟨K, K, [], []⟩
theorem still_fmd {K : List (Int × Int)} (hK : Ve.fmd K = true) : Nt.fmd (still K) = true := by
  have h1 : Sp.fmd [] = true := (Sp.fmd_iff []).2 (Sp.good_nil 256)
  have h2 : Nt.wsOk (still K) = true := (Nt.wsOk_iff _).2 (fun j hj => by cases hj)
  show (Ve.fmd K && (Ve.fmd K && (Ve.cov (Ve.cnt K) (Ve.cnt K) && (Sp.fmd [] && Nt.wsOk (still K))))) = true
  rw [hK, cov_self, h1, h2]
  rfl
theorem strd_still {K v : List (Int × Int)} (hv : Ve.fmd v = true) (o : Int) : strd v (still K) o = v := by
  have hx : Ve.ofL (str (Ve.cnt v) (Ve.cnt K) (Ve.cnt K)) = v := by
    refine Eq.trans (Ve.ofL_ext (fun i hi => ?_)) (Ve.self hv)
    unfold str
    (repeat' split) <;> omega
  unfold strd still
  dsimp only
  rw [hx]
  split <;> rfl
theorem take_still (hz : fmd zs = true) (hk : Ve.fmd kn = true) : tkR (mkTo (zof zs kn n) 256) (Ve.joinL [kn, n.e]) (still (Ve.joinL [kn, n.e])) = (mkTo (zof zs kn n) 256, Ve.joinL [kn, n.e], 0) := by
  have hK : Ve.fmd (Ve.joinL [kn, n.e]) = true := Ve.fmd_joinL _
  have hm := fmd_mk (zof_fmd hz hk n)
  have hj : Ve.joinL [Ve.joinL [kn, n.e], (still (Ve.joinL [kn, n.e])).e] = Ve.joinL [kn, n.e] := join_known hK (cov_self _)
  rw [take_yes hm hK (still_fmd hK) (cov_self _), hj, mkTo_ext 256 (fun o ho => ?_)]
  have hs : sho (mkTo (zof zs kn n) 256) (Ve.joinL [kn, n.e]) (still (Ve.joinL [kn, n.e])) o = rch (mkTo (zof zs kn n) 256) (Ve.joinL [kn, n.e]) (o : Int) := by
    unfold sho
    rw [strd_still (rch_fmd hm hK _)]
    split <;> rfl
  show (if Ve.cov (Ve.cnt (sho _ _ (still (Ve.joinL [kn, n.e])) o)) (Ve.cnt (Ve.joinL [Ve.joinL [kn, n.e], (still (Ve.joinL [kn, n.e])).e])) = true then none else some (sho _ _ _ o)) = _
  rw [hs, hj, rch_taken hz hk ho]
  unfold zof
  by_cases hc : Ve.cov (Ve.cnt (sho zs kn n o)) (Ve.cnt (Ve.joinL [kn, n.e])) = true
  · rw [if_pos hc, if_pos hc, if_pos (cov_self _)]
  · rw [if_neg hc, if_neg hc]
end
end Tr
end Go.Proofs.Ytcfkpjbakccgiaa
namespace Go.Proofs.Ytcfkpjbakccgiaa
open Go.RowKit

namespace Tr
theorem has_more {l r : List (Int × Int)} (h : Ve.cov (Ve.cnt r) (Ve.cnt l) = true) {c n : Int} (hh : hasOf l c n = true) : hasOf r c n = true := by
  have h1 := (Ve.cov_iff _ _).1 h
  have h2 : countOf l n ≤ countOf r n := by
    unfold countOf
    split
    · exact h1 _ (by omega)
    · exact Int.le_refl _
  unfold hasOf at hh ⊢
  simp only [Bool.and_eq_true, decide_eq_true_eq] at hh ⊢
  exact ⟨hh.1, by omega⟩
theorem told_has {n : Note} (hn : Nt.fmd n = true) {o : Int} {x : Wr} (h : Nt.at_ n.ws o = (x, true)) : hasOf n.e x.1 x.2.1 = true := by
  have hw : Nt.wsTo n n.ws.length := by
    unfold Nt.fmd at hn
    simp only [Bool.and_eq_true] at hn
    exact (Nt.wsOk_iff n).1 hn.2.2.2.2
  have hm : x ∈ n.ws := by
    unfold Nt.at_ at h
    cases hf : n.ws.find? (fun x => decide (x.2.2.1 = o)) with
    | none => rw [hf] at h; simp at h
    | some y =>
      rw [hf] at h
      simp only [Prod.mk.injEq, and_true] at h
      subst h
      exact List.mem_of_find?_eq_some hf
  obtain ⟨k, hk, rfl⟩ := List.mem_iff_getElem.1 hm
  have h1 := (hw k hk).1
  rw [List.getD_eq_getElem?_getD, List.getElem?_eq_getElem hk] at h1
  exact h1
section
variable {zs : List Zn} {kn : List (Int × Int)} {n : Note}
theorem strd_ge (v : List (Int × Int)) (n : Note) (o : Int) : Ve.cov (Ve.cnt (strd v n o)) (Ve.cnt v) = true := by
  unfold strd
  split
  · exact cov_self _
  · refine (Ve.cov_iff _ _).2 (fun i hi => ?_)
    rw [cnt_str v _ _ i hi]
    unfold str
    (repeat' split) <;> omega
theorem strd_le {v K : List (Int × Int)} (hv : Ve.cov (Ve.cnt K) (Ve.cnt v) = true) (he : Ve.cov (Ve.cnt K) (Ve.cnt n.e) = true) (o : Int) : Ve.cov (Ve.cnt K) (Ve.cnt (strd v n o)) = true := by
  unfold strd
  split
  · exact hv
  · refine (Ve.cov_iff _ _).2 (fun i hi => ?_)
    have h1 := (Ve.cov_iff _ _).1 hv i hi
    have h2 := (Ve.cov_iff _ _).1 he i hi
    rw [cnt_str v _ _ i hi]
    unfold str
    (repeat' split) <;> omega
/-- What is sharp and isn't blurred stays so. -/
theorem sharp_stays (hn : Nt.fmd n = true) (hf : Ve.cov (Ve.cnt kn) (Ve.cnt n.s) = true) {o : Nat} (ho : at_ zs (o : Int) = none) (hb : Sp.inL n.b o = false) : zof zs kn n o = none := by
  have hr : rch zs kn (o : Int) = kn := by unfold rch; rw [ho]; rfl
  have hx : Ve.ofL (str (Ve.cnt kn) (Ve.cnt n.s) (Ve.cnt n.e)) = Ve.joinL [kn, n.e] := by
    refine Ve.ofL_ext (fun i hi => ?_)
    have := (Ve.cov_iff _ _).1 hf i hi
    rw [Ve.jn_two]
    unfold str
    rw [if_pos this]
  have hs : sho zs kn n o = Ve.joinL [kn, n.e] := by
    unfold sho
    rw [if_neg (by rw [hb]; exact Bool.false_ne_true), hr]
    unfold strd
    rw [hx, if_neg]
    rintro ⟨h1, h2⟩
    obtain ⟨⟨x, y⟩, hxy⟩ : ∃ r, Nt.at_ n.ws (o : Int) = r := ⟨_, rfl⟩
    rw [hxy] at h1 h2
    dsimp only at h1 h2
    subst h1
    rw [has_more (Ve.cov_join_right kn n.e) (told_has hn hxy)] at h2
    cases h2
  rw [zof_eq, hs, if_pos (cov_self _)]
/-- No reach falls behind what it was. -/
theorem reach_rises (hz : fmd zs = true) (hk : Ve.fmd kn = true) {o : Nat} (ho : o < 256) (hc : Ve.cov (Ve.cnt kn) (Ve.cnt (rch zs kn (o : Int))) = true) :
    Ve.cov (Ve.cnt (rch (mkTo (zof zs kn n) 256) (Ve.joinL [kn, n.e]) (o : Int))) (Ve.cnt (rch zs kn (o : Int))) = true ∧ Ve.cov (Ve.cnt (Ve.joinL [kn, n.e])) (Ve.cnt (rch (mkTo (zof zs kn n) 256) (Ve.joinL [kn, n.e]) (o : Int))) = true := by
  rw [rch_taken hz hk ho]
  have hK := cov_trans (Ve.cov_join_left kn n.e) hc
  split
  · exact ⟨hK, cov_self _⟩
  · have hs : Ve.cov (Ve.cnt (sho zs kn n o)) (Ve.cnt (rch zs kn (o : Int))) = true ∧ Ve.cov (Ve.cnt (Ve.joinL [kn, n.e])) (Ve.cnt (sho zs kn n o)) = true := by
      unfold sho
      split
      · exact ⟨cov_self _, hK⟩
      · exact ⟨strd_ge _ _ _, strd_le hK (Ve.cov_join_right kn n.e) _⟩
    exact hs

theorem mt_le {ls : List (List (Int × Int))} (i : Nat) : ∀ k j, j ≤ k → Ve.mtTo ls k i ≤ Ve.cnt (ls.getD j []) i
  | 0, j, h => by
    have : j = 0 := by omega
    subst this
    exact Int.le_refl _
  | k + 1, j, h => by
    unfold Ve.mtTo
    by_cases e : j = k + 1
    · subst e
      split <;> omega
    · have := mt_le (ls := ls) i k j (by omega)
      split <;> omega
theorem meet_le {ls : List (List (Int × Int))} {r : List (Int × Int)} (h : r ∈ ls) : Ve.cov (Ve.cnt r) (Ve.cnt (Ve.meetL ls)) = true := by
  have hne : ls ≠ [] := fun e => by rw [e] at h; cases h
  obtain ⟨j, hj⟩ := List.getElem?_of_mem h
  have hlt := (List.getElem?_eq_some_iff.1 hj).1
  have hg : ls.getD j [] = r := by rw [List.getD_eq_getElem?_getD, hj]; rfl
  refine (Ve.cov_iff _ _).2 (fun i hi => ?_)
  unfold Ve.meetL
  rw [if_neg hne, Ve.cnt_ofL _ (Ve.mt_nonneg ls) i hi]
  have := mt_le (ls := ls) i (ls.length - 1) j (by omega)
  rw [hg] at this
  exact this
theorem rchs_mem (zs : List Zn) (kn : List (Int × Int)) {f : Nat → Bool} {o : Nat} (ho : f o = true) : ∀ k, o < k → rch zs kn (o : Int) ∈ rchs zs kn f k
  | 0, h => by omega
  | k + 1, h => by
    by_cases e : o = k
    · subst e
      show _ ∈ (if f o = true then rchs zs kn f o ++ [rch zs kn (o : Int)] else rchs zs kn f o)
      rw [if_pos ho]
      exact List.mem_append.2 (.inr (List.mem_singleton.2 rfl))
    · have := rchs_mem zs kn ho k (by omega)
      show _ ∈ (if f k = true then rchs zs kn f k ++ [rch zs kn (k : Int)] else rchs zs kn f k)
      split
      · exact List.mem_append.2 (.inl this)
      · exact this
theorem since_le (hz : fmd zs = true) (hk : Ve.fmd kn = true) {it : List (Int × Int)} {o : Nat} (ho : o < 256) (hi : Sp.inL it o = true) : Ve.cov (Ve.cnt (rch zs kn (o : Int))) (Ve.cnt (sncR zs kn it)) = true := by
  have hm := rchs_mem zs kn hi 256 ho
  unfold sncR
  rw [if_pos ⟨hz, hk⟩, if_neg (fun e => by rw [List.eq_nil_of_length_eq_zero e] at hm; cases hm)]
  exact meet_le hm
/-- The sum's note. -/
def sumN (zs : List Zn) (kn it bl : List (Int × Int)) : Note := ⟨Ve.meetL [sncR zs kn it, kn], kn, bl, []⟩
theorem sum_fmd (hk : Ve.fmd kn = true) {it bl : List (Int × Int)} (hb : Sp.fmd bl = true) : Nt.fmd (sumN zs kn it bl) = true := by
  have h2 : Nt.wsOk (sumN zs kn it bl) = true := (Nt.wsOk_iff _).2 (fun j hj => by cases hj)
  show (Ve.fmd (Ve.meetL [sncR zs kn it, kn]) && (Ve.fmd kn && (Ve.cov (Ve.cnt kn) (Ve.cnt (Ve.meetL [sncR zs kn it, kn])) && (Sp.fmd bl && Nt.wsOk (sumN zs kn it bl))))) = true
  rw [Ve.fmd_meet2, hk, Ve.cov_meet_right, hb, h2]
  rfl
theorem sum_take (hz : fmd zs = true) (hk : Ve.fmd kn = true) {it bl : List (Int × Int)} (hb : Sp.fmd bl = true) : tkR zs kn (sumN zs kn it bl) = (mkTo (zof zs kn (sumN zs kn it bl)) 256, kn, 0) := by
  rw [take_yes hz hk (sum_fmd hk hb) (Ve.cov_meet_right _ _)]
  have : Ve.joinL [kn, (sumN zs kn it bl).e] = kn := join_known hk (cov_self _)
  rw [this]
theorem sum_sharp (hz : fmd zs = true) (hk : Ve.fmd kn = true) {it bl : List (Int × Int)} {o : Nat} (ho : o < 256) (hi : Sp.inL it o = true) (hb : Sp.inL bl o = false) : zof zs kn (sumN zs kn it bl) o = none := by
  have hj : Ve.joinL [kn, (sumN zs kn it bl).e] = kn := join_known hk (cov_self _)
  have h1 := since_le hz hk ho hi
  have h2 := cov_trans h1 (Ve.cov_meet_left (sncR zs kn it) kn)
  rw [zof_eq, hj, if_pos]
  unfold sho
  rw [if_neg (show ¬ Sp.inL (sumN zs kn it bl).b o = true from by show ¬ Sp.inL bl o = true; rw [hb]; exact Bool.false_ne_true)]
  unfold strd
  rw [if_neg (fun q => by cases q.1)]
  refine (Ve.cov_iff _ _).2 (fun i hi2 => ?_)
  have h3 := (Ve.cov_iff _ _).1 h2 i hi2
  rw [cnt_str _ _ _ i hi2]
  unfold str
  rw [if_pos (show Ve.cnt (sumN zs kn it bl).s i ≤ Ve.cnt (rch zs kn (o : Int)) i from h3)]
  show _ ≤ (if Ve.cnt (rch zs kn (o : Int)) i < Ve.cnt kn i then Ve.cnt kn i else Ve.cnt (rch zs kn (o : Int)) i)
  split <;> omega
end
/-- What a vector's zones blur. -/
theorem blr_in {zs : List Zn} (hz : fmd zs = true) {o : Nat} (ho : o < 256) : Sp.inL (blr zs) o = (at_ zs (o : Int)).isSome := by
  unfold blr
  rw [if_pos hz, Sp.inL_ofL _ o ho]
end Tr
end Go.Proofs.Ytcfkpjbakccgiaa
