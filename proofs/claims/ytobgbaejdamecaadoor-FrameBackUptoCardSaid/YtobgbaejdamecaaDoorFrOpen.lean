/-
  What frame's sizeOf, payload, Open and Whole answer.
-/
import Derived.Test.YtobgbaejdamecaaDoorFrSeal
import Derived.Test.YtobgbaejdamecaaDoorPkDevApp
import Derived.Test.YtobgbaejdamecaaDoorRegion
namespace Go.Proofs.YtobgbaejdamecaaDoor
open Go.RowKit

theorem OneB.head {w : World} {A : Option Addr} {c : Nat} {l : List Int} (h : OneB w A c l) (k : Nat) : OneB w A c (l.take k) := by
  refine ⟨by rw [List.length_take]; have := h.le; omega, h.cap, fun e => ⟨by rw [List.length_take]; have := (h.noA e).1; omega, (h.noA e).2⟩, fun hne => ?_, fun x hx => h.byte x (List.mem_of_mem_take hx)⟩
  have hl : l ≠ [] := fun e => by subst e; simp [bCells] at hne
  obtain ⟨b, off, hA, hc⟩ := h.lies (fun e => hl (bCells_nil.1 e))
  refine ⟨b, off, hA, fun j u hu => hc j u ?_⟩
  unfold bCells at hu ⊢
  rw [List.map_take] at hu
  obtain ⟨hj, -⟩ := List.getElem?_eq_some_iff.1 hu
  rw [List.length_take] at hj
  rwa [List.getElem?_take_of_lt (by omega)] at hu
theorem OneB.rest {w : World} {c : Nat} {l : List Int} {ad : Addr} (h : OneB w (some ad) c l) {a : Nat} (ha : a ≤ l.length) : OneB w (some (ad.add a)) (c - a) (l.drop a) := by
  refine ⟨by rw [List.length_drop]; have := h.le; omega, by have := h.cap; omega, (fun h => by cases h), fun hne => ?_, fun x hx => h.byte x (List.mem_of_mem_drop hx)⟩
  have hl : l ≠ [] := fun e => by subst e; simp [bCells] at hne
  obtain ⟨b, off, hA, hc⟩ := h.at hl
  injection hA with hA
  subst hA
  refine ⟨b, off + a, by simp [Addr.add], fun j u hu => ?_⟩
  have hj : j < (l.drop a).length := by
    have := (List.getElem?_eq_some_iff.1 hu).1
    rwa [bCells_length] at this
  rw [bCells_get _ j hj] at hu
  cases hu
  rw [List.length_drop] at hj
  rw [Nat.add_assoc, hc (a + j) (by omega), List.getD_eq_getElem?_getD, List.getD_eq_getElem?_getD, List.getElem?_drop]

namespace Fr
/-- The frame's size, if it is all there. -/
def szn (l : List Int) : Int := if err0 l = 0 then ((8 + num4 l : Nat) : Int) else 0
/-- Is a frame's sum right? -/
def good (f : List Int) : Prop := sum (f.take 4 ++ f.drop 8) = num4 (f.drop 4)
end Fr

set_option maxRecDepth 100000 in
set_option maxHeartbeats 3200000 in
theorem dsize_any (A : Option Addr) (c : Nat) (l : List Int) (w : World) (h : OneB w A c l) :
    Calls Tryd.prog 27 #[.slice A l.length c] w (Says (.tuple #[.int .i64 (Fr.szn l), .int .i64 (Fr.err0 l)]) w) := by
  have hl := h.len
  unfold Fr.szn
  by_cases h8 : l.length < 8
  · have e0 : Fr.err0 l = 5 := by unfold Fr.err0; rw [if_pos h8]
    rw [e0, if_neg (by decide)]
    have hd : decide ((l.length : Int) < 8) = true := decide_eq_true (by omega)
    clear h e0 h8
    go_enter Tryd.func27, Tryd.ntmps27
    go_wp2
    go_ret2
    exact ⟨rfl, Below.refl _ _⟩
  · have hd : decide ((l.length : Int) < 8) = false := decide_eq_false (by omega)
    have hlt := Fr.num4_lt h.byte
    have N1 := fun wx (hx : OneB wx A c l) => flen_any A c l wx hx (by omega)
    have e0 : Fr.err0 l = if 1048576 < Fr.num4 l then 4 else if l.length < 8 + Fr.num4 l then 5 else 0 := by unfold Fr.err0; rw [if_neg h8]
    rw [e0]
    obtain ⟨n, hn⟩ : ∃ n, Fr.num4 l = n := ⟨_, rfl⟩
    rw [hn] at hlt N1 ⊢
    have N1 := Lib.hid (N1 w h)
    clear h e0 hn
    by_cases h1 : 1048576 < n
    · rw [if_pos h1, if_neg (by decide)]
      have hd1 : decide ((1048576 : Int) < (n : Int)) = true := decide_eq_true (by omega)
      go_enter Tryd.func27, Tryd.ntmps27
      go_wp2_with fail
      refine N1.out.mono ?_
      rintro e w1 ⟨rfl, b1⟩
      go_wp2
      go_ret2
      exact ⟨rfl, b1⟩
    · rw [if_neg h1]
      have hd1 : decide ((1048576 : Int) < (n : Int)) = false := decide_eq_false (by omega)
      by_cases h2 : l.length < 8 + n
      · rw [if_pos h2, if_neg (by decide)]
        have hd2 : decide ((l.length : Int) - 8 < (n : Int)) = true := decide_eq_true (by omega)
        go_enter Tryd.func27, Tryd.ntmps27
        go_wp2_with fail
        refine N1.out.mono ?_
        rintro e w1 ⟨rfl, b1⟩
        go_wp2
        go_ret2
        exact ⟨rfl, b1⟩
      · rw [if_neg h2, if_pos rfl]
        have hd2 : decide ((l.length : Int) - 8 < (n : Int)) = false := decide_eq_false (by omega)
        go_enter Tryd.func27, Tryd.ntmps27
        go_wp2_with fail
        refine N1.out.mono ?_
        rintro e w1 ⟨rfl, b1⟩
        go_wp2
        go_ret2
        exact ⟨by first | rfl | (congr 3; omega), b1⟩

theorem fsum2_any (g : Nat) {A B : Option Addr} {c d n m : Nat} (l r : List Int) (w : World) (hB : Blk w g 22 #[.slice A n c, .slice B m d]) (hn : l.length = n) (h1 : OneB w A c l) (hm : r.length = m) (h2 : OneB w B d r) (hH : Halves w) :
    Calls Tryd.prog 23 #[.slice (some ⟨g, 0, none⟩) 2 2] w (Says (.int .u32 ((Fr.sum (l ++ r) : Nat) : Int)) w) := by
  subst hn hm
  have h := fsum_any g 2 (by omega) [(A, c), (B, d)] [l, r] w rfl rfl hB (fun k hk => by
    have hk2 : k = 0 ∨ k = 1 := by simp at hk; omega
    rcases hk2 with rfl | rfl
    · exact h1
    · exact h2) hH
  rwa [show [l, r].flatten = l ++ r from by simp] at h
theorem flen2_any (A : Option Addr) (c n : Nat) (l : List Int) (w : World) (h : OneB w A c l) (hn : l.length = n) (h4 : 4 ≤ n) : Calls Tryd.prog 32 #[.slice A n c] w (Says (.int .u32 ((Fr.num4 l : Nat) : Int)) w) := by
  subst hn
  exact flen_any A c l w h h4
theorem cloneB2_any (A : Option Addr) (c n : Nat) (l : List Int) (w : World) (hl : n ≤ 140737488355328) (h : OneB w A c l) (hn : l.length = n) : Calls Tryd.prog 33 #[.slice A n c] w (GivesB l w) := by
  subst hn
  exact cloneB_any A c l w hl h

/-- A frame's payload is answered, or the error. -/
def PayB (l : List Int) (w : World) (e : Ending) (w' : World) : Prop := GivesBE (if Fr.sum (l.take 4 ++ l.drop 8) = Fr.num4 (l.drop 4) then l.drop 8 else []) (if Fr.sum (l.take 4 ++ l.drop 8) = Fr.num4 (l.drop 4) then 0 else 6) w e w'
theorem pay_yes {l : List Int} {w : World} {e : Ending} {w' : World} (hs : Fr.sum (l.take 4 ++ l.drop 8) = Fr.num4 (l.drop 4)) (h : GivesBE (l.drop 8) 0 w e w') : PayB l w e w' := by
  unfold PayB
  rw [if_pos hs, if_pos hs]
  exact h
theorem pay_no {l : List Int} {w : World} {e : Ending} {w' : World} (hs : ¬ Fr.sum (l.take 4 ++ l.drop 8) = Fr.num4 (l.drop 4)) (h : GivesBE [] 6 w e w') : PayB l w e w' := by
  unfold PayB
  rw [if_neg hs, if_neg hs]
  exact h

set_option maxRecDepth 100000 in
set_option maxHeartbeats 6400000 in
theorem dpay_any (A : Option Addr) (c : Nat) (l : List Int) (w : World) (h : OneB w A c l) (h8 : 8 ≤ l.length) (hl : l.length ≤ 140737488355328) (hH : Halves w) :
    Calls Tryd.prog 28 #[.slice A l.length c] w (PayB l w) := by
  obtain ⟨b, off, rfl, -⟩ := h.at (by intro e; rw [e] at h8; simp at h8)
  have hle := h.le
  have hcap := h.cap
  unfold maxLen at hcap
  have H4 := Lib.hid (h.head 4); have HH := Lib.hid hH
  have HLT := Lib.hid (show (l.take 4).length = 4 by rw [List.length_take]; omega)
  have HLD := Lib.hid (show (l.drop 8).length = l.length - 8 by rw [List.length_drop])
  have HL4 := Lib.hid (show ((l.drop 4).take 4).length = 4 by rw [List.length_take, List.length_drop]; omega)
  have h48 := (h.rest (a := 4) (by omega)).head 4
  have hnm : Fr.num4 ((l.drop 4).take 4) = Fr.num4 (l.drop 4) := Fr.num4_take (by omega)
  obtain ⟨sm, hsm⟩ : ∃ sm, Fr.sum (l.take 4 ++ l.drop 8) = sm := ⟨_, rfl⟩
  obtain ⟨nm, hn2⟩ : ∃ nm, Fr.num4 (l.drop 4) = nm := ⟨_, rfl⟩
  rw [hn2] at hnm
  have HNN := Lib.hid hn2
  have HSM := Lib.hid hsm; have HNM := Lib.hid hnm
  by_cases hc : c = 8
  · have hL : l.length ≤ 8 := by omega
    subst hc
    have HLD := Lib.hid (show (l.drop 8).length = 0 by rw [List.length_drop]; omega)
    have HP := Lib.hid (show OneB w (some ⟨b, off, none⟩) 0 (l.drop 8) from by
      rw [List.drop_of_length_le hL]
      exact ⟨Nat.le_refl _, Nat.zero_le _, (fun h => by cases h), fun h => absurd rfl h, fun x hx => by cases hx⟩)
    have H48 := Lib.hid (show OneB w (some ⟨b, off + 4, none⟩) 4 ((l.drop 4).take 4) from h48)
    clear h hH h48 hnm hsm hn2
    go_enter Tryd.func28, Tryd.ntmps28
    go_wp2_with fail
    refine wp_region_facts 8 (by kernel_rfl) (by kernel_rfl) (fun v => { tmps := #[.slice (some ⟨b, off, none⟩) l.length 8, undef, .slice none 0 0, .int .i64 0, .slice (some ⟨b, off, none⟩) 0 0, .slice (some ⟨b, off, none⟩) l.length 8, .slice (some ⟨b, off, none⟩) 0 0, v 0, v 1, v 2, v 3, v 4, v 5, v 6, v 7, undef, undef, undef], defers := [] }) (fun _ => undef)
      (fun i z wx => match i with | 0 => z = .slice (some ⟨b, off, none⟩) l.length 8 | 1 => z = .slice (some ⟨b, off, none⟩) 4 8 | 2 => z = .slice (some ⟨b, off, none⟩) 0 0 | 3 => ∃ g, z = .slice (some ⟨g, 0, none⟩) 2 2 ∧ Blk wx g 22 #[.slice (some ⟨b, off, none⟩) 4 8, .slice (some ⟨b, off, none⟩) 0 0] | 4 => z = .int .u32 (sm : Int) | 5 => z = .slice (some ⟨b, off, none⟩) l.length 8 | 6 => z = .slice (some ⟨b, off + 4, none⟩) 4 4 | 7 => z = .int .u32 (nm : Int) | _ => True)
      (fun wa wb => Below wa.heap.size wa wb) (fun h1 h2 => below_on h1 h2) (fun _ => Below.refl _ _) (Below.refl _ _).drew ?stab1 ?step1 ?done1
    case stab1 =>
      intro i x wa wb h1 h2
      match i, h1 with
      | 0, h1 => exact h1
      | 1, h1 => exact h1
      | 2, h1 => exact h1
      | 3, ⟨g, e1, e2⟩ => exact ⟨g, e1, e2.later h2⟩
      | 4, h1 => exact h1
      | 5, h1 => exact h1
      | 6, h1 => exact h1
      | 7, h1 => exact h1
      | k + 8, _ => trivial
    case step1 =>
      intro i hi v w' hb hd
      match i, hi with
      | 0, _ =>
        refine wpOp_one rfl ?_
        clear hd hb
        go_wp2
        first | exact ⟨_, (by simp [upd]; done), Below.refl _ _, rfl⟩ | exact ⟨(by simp [upd]; done), Below.refl _ _, rfl⟩ | exact ⟨(by simp [upd]; done), Below.refl _ _⟩
      | 1, _ =>
        have h0 : v 0 = _ := hd 0 (List.elem_iff.1 (by kernel_rfl))
        refine wpOp_one rfl ?_
        clear hd hb
        rw [h0]
        go_wp2
        first | exact ⟨_, (by simp [upd, h0]; done), Below.refl _ _, rfl⟩ | exact ⟨(by simp [upd, h0]; done), Below.refl _ _, rfl⟩ | exact ⟨(by simp [upd, h0]; done), Below.refl _ _⟩
      | 2, _ =>
        refine wpOp_one rfl ?_
        clear hd hb
        go_wp2
        first | exact ⟨_, (by simp [upd]; done), Below.refl _ _, rfl⟩ | exact ⟨(by simp [upd]; done), Below.refl _ _, rfl⟩ | exact ⟨(by simp [upd]; done), Below.refl _ _⟩
      | 3, _ =>
        have h1 : v 1 = _ := hd 1 (List.elem_iff.1 (by kernel_rfl))
        have h2 : v 2 = _ := hd 2 (List.elem_iff.1 (by kernel_rfl))
        have KB := Lib.hid (show ∃ g, (Value.slice (some ⟨w'.heap.size, 0, none⟩) 2 2) = .slice (some ⟨g, 0, none⟩) 2 2 ∧ Blk (w'.alloc (.cells #[.slice (some ⟨b, off, none⟩) 4 8, .slice (some ⟨b, off, none⟩) 0 0] 22)) g 22 #[.slice (some ⟨b, off, none⟩) 4 8, .slice (some ⟨b, off, none⟩) 0 0] from ⟨_, rfl, Blk.new w' _ _⟩)
        have BN := Lib.hid (below_new (Below.refl w'.heap.size w') (.cells #[.slice (some ⟨b, off, none⟩) 4 8, .slice (some ⟨b, off, none⟩) 0 0] 22))
        refine wpOp_one rfl ?_
        clear hd hb
        rw [h1, h2]
        go_wp2
        first | exact ⟨_, (by simp [upd, h1, h2]; done), BN.out, KB.out⟩ | exact ⟨(by simp [upd, h1, h2]; done), BN.out, KB.out⟩
      | 4, _ =>
        obtain ⟨g, h3, kb⟩ := hd 3 (List.elem_iff.1 (by kernel_rfl))
        have CS := Lib.hid (fsum2_any g (l.take 4) (l.drop 8) w' kb HLT.out (H4.out.later hb) HLD.out (HP.out.later hb) (HH.out.later hb))
        refine wpOp_one rfl ?_
        clear hd hb kb
        rw [h3]
        rw [HSM.out] at CS
        go_wp2_with fail
        refine CS.out.mono ?_
        rintro e w'' ⟨rfl, bb⟩
        have BB := Lib.hid bb
        clear bb
        go_wp2
        first | exact ⟨_, (by simp [upd, h3]; done), BB.out, rfl⟩ | exact ⟨(by simp [upd, h3]; done), BB.out, rfl⟩ | exact ⟨(by simp [upd, h3]; done), BB.out⟩
      | 5, _ =>
        refine wpOp_one rfl ?_
        clear hd hb
        go_wp2
        first | exact ⟨_, (by simp [upd]; done), Below.refl _ _, rfl⟩ | exact ⟨(by simp [upd]; done), Below.refl _ _, rfl⟩ | exact ⟨(by simp [upd]; done), Below.refl _ _⟩
      | 6, _ =>
        have h5 : v 5 = _ := hd 5 (List.elem_iff.1 (by kernel_rfl))
        refine wpOp_one rfl ?_
        clear hd hb
        rw [h5]
        go_wp2
        first | exact ⟨_, (by simp [upd, h5]; done), Below.refl _ _, rfl⟩ | exact ⟨(by simp [upd, h5]; done), Below.refl _ _, rfl⟩ | exact ⟨(by simp [upd, h5]; done), Below.refl _ _⟩
      | 7, _ =>
        have h6 : v 6 = _ := hd 6 (List.elem_iff.1 (by kernel_rfl))
        have CS := Lib.hid (flen2_any (some ⟨b, off + 4, none⟩) 4 4 ((l.drop 4).take 4) w' (H48.out.later hb) HL4.out (by omega))
        refine wpOp_one rfl ?_
        clear hd hb
        rw [h6]
        rw [HNM.out] at CS
        go_wp2_with fail
        refine CS.out.mono ?_
        rintro e w'' ⟨rfl, bb⟩
        have BB := Lib.hid bb
        clear bb
        go_wp2
        first | exact ⟨_, (by simp [upd, h6]; done), BB.out, rfl⟩ | exact ⟨(by simp [upd, h6]; done), BB.out, rfl⟩ | exact ⟨(by simp [upd, h6]; done), BB.out⟩
    case done1 =>
      intro v w5 hb hall
      have h4 : v 4 = _ := hall 4 (by omega)
      have h7 : v 7 = _ := hall 7 (by omega)
      rw [h4, h7]
      have CC := Lib.hid (cloneB2_any (some ⟨b, off, none⟩) 0 0 (l.drop 8) w5 (by omega) (HP.out.later hb) HLD.out)
      have B5 := Lib.hid hb
      clear hall h4 h7 hb
      by_cases hs : sm = nm
      · have hd : ((sm : Int) != (nm : Int)) = false := by simp [hs]
        have PY := Lib.hid (fun e w' h => pay_yes (l := l) (w := w) (e := e) (w' := w') (HSM.out.trans (hs.trans HNN.out.symm)) h)
        clear hs
        go_wp2_with fail
        refine CC.out.mono ?_
        rintro e w6 ⟨y, rfl, ho, b6⟩
        have HO := Lib.hid (own_base ho (show w.heap.size ≤ w5.heap.size from B5.out.size)); have B6 := Lib.hid (below_on B5.out b6)
        clear ho b6
        go_wp2
        go_ret2
        exact PY.out _ _ ⟨_, rfl, HO.out, B6.out⟩
      · have hd : ((sm : Int) != (nm : Int)) = true := by rw [bne_iff_ne]; omega
        have PN := Lib.hid (fun e w' h => pay_no (l := l) (w := w) (e := e) (w' := w') (fun e2 => hs (HSM.out.symm.trans (e2.trans HNN.out))) h)
        clear hs
        go_wp2
        go_ret2
        exact PN.out _ _ ⟨_, rfl, none_own _ _, B5.out⟩
  · have hc8 : 8 < c := by omega
    have HP := Lib.hid (show OneB w (some ⟨b, off + 8, none⟩) (c - 8) (l.drop 8) from h.rest (a := 8) (by omega))
    have H48 := Lib.hid (show OneB w (some ⟨b, off + 4, none⟩) (c - 4) ((l.drop 4).take 4) from h48)
    clear h hH h48 hnm hsm hn2 hc
    go_enter Tryd.func28, Tryd.ntmps28
    go_wp2_with fail
    refine wp_region_facts 8 (by kernel_rfl) (by kernel_rfl) (fun v => { tmps := #[.slice (some ⟨b, off, none⟩) l.length c, undef, .slice none 0 0, .int .i64 0, .slice (some ⟨b, off + 8, none⟩) (l.length - 8) (c - 8), .slice (some ⟨b, off, none⟩) l.length c, .slice (some ⟨b, off + 8, none⟩) (l.length - 8) (c - 8), v 0, v 1, v 2, v 3, v 4, v 5, v 6, v 7, undef, undef, undef], defers := [] }) (fun _ => undef)
      (fun i z wx => match i with | 0 => z = .slice (some ⟨b, off, none⟩) l.length c | 1 => z = .slice (some ⟨b, off, none⟩) 4 c | 2 => z = .slice (some ⟨b, off + 8, none⟩) (l.length - 8) (c - 8) | 3 => ∃ g, z = .slice (some ⟨g, 0, none⟩) 2 2 ∧ Blk wx g 22 #[.slice (some ⟨b, off, none⟩) 4 c, .slice (some ⟨b, off + 8, none⟩) (l.length - 8) (c - 8)] | 4 => z = .int .u32 (sm : Int) | 5 => z = .slice (some ⟨b, off, none⟩) l.length c | 6 => z = .slice (some ⟨b, off + 4, none⟩) 4 (c - 4) | 7 => z = .int .u32 (nm : Int) | _ => True)
      (fun wa wb => Below wa.heap.size wa wb) (fun h1 h2 => below_on h1 h2) (fun _ => Below.refl _ _) (Below.refl _ _).drew ?stab2 ?step2 ?done2
    case stab2 =>
      intro i x wa wb h1 h2
      match i, h1 with
      | 0, h1 => exact h1
      | 1, h1 => exact h1
      | 2, h1 => exact h1
      | 3, ⟨g, e1, e2⟩ => exact ⟨g, e1, e2.later h2⟩
      | 4, h1 => exact h1
      | 5, h1 => exact h1
      | 6, h1 => exact h1
      | 7, h1 => exact h1
      | k + 8, _ => trivial
    case step2 =>
      intro i hi v w' hb hd
      match i, hi with
      | 0, _ =>
        refine wpOp_one rfl ?_
        clear hd hb
        go_wp2
        first | exact ⟨_, (by simp [upd]; done), Below.refl _ _, rfl⟩ | exact ⟨(by simp [upd]; done), Below.refl _ _, rfl⟩ | exact ⟨(by simp [upd]; done), Below.refl _ _⟩
      | 1, _ =>
        have h0 : v 0 = _ := hd 0 (List.elem_iff.1 (by kernel_rfl))
        refine wpOp_one rfl ?_
        clear hd hb
        rw [h0]
        go_wp2
        first | exact ⟨_, (by simp [upd, h0]; done), Below.refl _ _, rfl⟩ | exact ⟨(by simp [upd, h0]; done), Below.refl _ _, rfl⟩ | exact ⟨(by simp [upd, h0]; done), Below.refl _ _⟩
      | 2, _ =>
        refine wpOp_one rfl ?_
        clear hd hb
        go_wp2
        first | exact ⟨_, (by simp [upd]; done), Below.refl _ _, rfl⟩ | exact ⟨(by simp [upd]; done), Below.refl _ _, rfl⟩ | exact ⟨(by simp [upd]; done), Below.refl _ _⟩
      | 3, _ =>
        have h1 : v 1 = _ := hd 1 (List.elem_iff.1 (by kernel_rfl))
        have h2 : v 2 = _ := hd 2 (List.elem_iff.1 (by kernel_rfl))
        have KB := Lib.hid (show ∃ g, (Value.slice (some ⟨w'.heap.size, 0, none⟩) 2 2) = .slice (some ⟨g, 0, none⟩) 2 2 ∧ Blk (w'.alloc (.cells #[.slice (some ⟨b, off, none⟩) 4 c, .slice (some ⟨b, off + 8, none⟩) (l.length - 8) (c - 8)] 22)) g 22 #[.slice (some ⟨b, off, none⟩) 4 c, .slice (some ⟨b, off + 8, none⟩) (l.length - 8) (c - 8)] from ⟨_, rfl, Blk.new w' _ _⟩)
        have BN := Lib.hid (below_new (Below.refl w'.heap.size w') (.cells #[.slice (some ⟨b, off, none⟩) 4 c, .slice (some ⟨b, off + 8, none⟩) (l.length - 8) (c - 8)] 22))
        refine wpOp_one rfl ?_
        clear hd hb
        rw [h1, h2]
        go_wp2
        first | exact ⟨_, (by simp [upd, h1, h2]; done), BN.out, KB.out⟩ | exact ⟨(by simp [upd, h1, h2]; done), BN.out, KB.out⟩
      | 4, _ =>
        obtain ⟨g, h3, kb⟩ := hd 3 (List.elem_iff.1 (by kernel_rfl))
        have CS := Lib.hid (fsum2_any g (l.take 4) (l.drop 8) w' kb HLT.out (H4.out.later hb) HLD.out (HP.out.later hb) (HH.out.later hb))
        refine wpOp_one rfl ?_
        clear hd hb kb
        rw [h3]
        rw [HSM.out] at CS
        go_wp2_with fail
        refine CS.out.mono ?_
        rintro e w'' ⟨rfl, bb⟩
        have BB := Lib.hid bb
        clear bb
        go_wp2
        first | exact ⟨_, (by simp [upd, h3]; done), BB.out, rfl⟩ | exact ⟨(by simp [upd, h3]; done), BB.out, rfl⟩ | exact ⟨(by simp [upd, h3]; done), BB.out⟩
      | 5, _ =>
        refine wpOp_one rfl ?_
        clear hd hb
        go_wp2
        first | exact ⟨_, (by simp [upd]; done), Below.refl _ _, rfl⟩ | exact ⟨(by simp [upd]; done), Below.refl _ _, rfl⟩ | exact ⟨(by simp [upd]; done), Below.refl _ _⟩
      | 6, _ =>
        have h5 : v 5 = _ := hd 5 (List.elem_iff.1 (by kernel_rfl))
        refine wpOp_one rfl ?_
        clear hd hb
        rw [h5]
        go_wp2
        first | exact ⟨_, (by simp [upd, h5]; done), Below.refl _ _, rfl⟩ | exact ⟨(by simp [upd, h5]; done), Below.refl _ _, rfl⟩ | exact ⟨(by simp [upd, h5]; done), Below.refl _ _⟩
      | 7, _ =>
        have h6 : v 6 = _ := hd 6 (List.elem_iff.1 (by kernel_rfl))
        have CS := Lib.hid (flen2_any (some ⟨b, off + 4, none⟩) (c - 4) 4 ((l.drop 4).take 4) w' (H48.out.later hb) HL4.out (by omega))
        refine wpOp_one rfl ?_
        clear hd hb
        rw [h6]
        rw [HNM.out] at CS
        go_wp2_with fail
        refine CS.out.mono ?_
        rintro e w'' ⟨rfl, bb⟩
        have BB := Lib.hid bb
        clear bb
        go_wp2
        first | exact ⟨_, (by simp [upd, h6]; done), BB.out, rfl⟩ | exact ⟨(by simp [upd, h6]; done), BB.out, rfl⟩ | exact ⟨(by simp [upd, h6]; done), BB.out⟩
    case done2 =>
      intro v w5 hb hall
      have h4 : v 4 = _ := hall 4 (by omega)
      have h7 : v 7 = _ := hall 7 (by omega)
      rw [h4, h7]
      have CC := Lib.hid (cloneB2_any (some ⟨b, off + 8, none⟩) (c - 8) (l.length - 8) (l.drop 8) w5 (by omega) (HP.out.later hb) HLD.out)
      have B5 := Lib.hid hb
      clear hall h4 h7 hb
      by_cases hs : sm = nm
      · have hd : ((sm : Int) != (nm : Int)) = false := by simp [hs]
        have PY := Lib.hid (fun e w' h => pay_yes (l := l) (w := w) (e := e) (w' := w') (HSM.out.trans (hs.trans HNN.out.symm)) h)
        clear hs
        go_wp2_with fail
        refine CC.out.mono ?_
        rintro e w6 ⟨y, rfl, ho, b6⟩
        have HO := Lib.hid (own_base ho (show w.heap.size ≤ w5.heap.size from B5.out.size)); have B6 := Lib.hid (below_on B5.out b6)
        clear ho b6
        go_wp2
        go_ret2
        exact PY.out _ _ ⟨_, rfl, HO.out, B6.out⟩
      · have hd : ((sm : Int) != (nm : Int)) = true := by rw [bne_iff_ne]; omega
        have PN := Lib.hid (fun e w' h => pay_no (l := l) (w := w) (e := e) (w' := w') (fun e2 => hs (HSM.out.symm.trans (e2.trans HNN.out))) h)
        clear hs
        go_wp2
        go_ret2
        exact PN.out _ _ ⟨_, rfl, none_own _ _, B5.out⟩
end Go.Proofs.YtobgbaejdamecaaDoor
