/-
  What frame's sizeOf, payload, Open and Whole answer.
  What frame's Open and Whole, and telltaleref07's, answer.
  What telltaleref07's Open and Whole answer.
  What frame's Cut, and telltaleref07's Cut and Lists, answer.
-/
import Derived.Test.YtkhggofcbdcliaaDoorG16
import Derived.Test.YtkhggofcbdcliaaDoorG06
import Derived.Lib.QuietBelow
namespace Go.Proofs.YtkhggofcbdcliaaDoor
open Go.RowKit

theorem OneB.head {w : World} {A : Option Addr} {c : Nat} {l : List Int} (h : OneB w A c l) (k : Nat) : OneB w A c (l.take k) := by
  refine ⟨by rw [List.length_take]; have := h.le; omega, h.cap, fun e => ⟨by rw [List.length_take]; have := (h.noA e).1; omega, (h.noA e).2⟩, fun hne => ?_, fun x hx => h.byte x (List.mem_of_mem_take hx)⟩
  have hl : l ≠ [] := fun e => by subst e; simp [bCells] at hne
  obtain ⟨b, off, hA, hc⟩ := h.lies (fun e => hl (bCells_nil.1 e))
  refine ⟨b, off, hA, fun j u hu => hc j u ?_⟩
  unfold bCells at hu ⊢
  rw [List.map_take] at hu
  obtain ⟨hj, -⟩ := List.getElem?_eq_some_iff.1 hu
  rw [List.length_take] at hj
  rwa [List.getElem?_take_of_lt (by omega)] at hu
theorem OneB.rest {w : World} {c : Nat} {l : List Int} {ad : Addr} (h : OneB w (some ad) c l) {a : Nat} (ha : a ≤ l.length) : OneB w (some (ad.add a)) (c - a) (l.drop a) := by
  refine ⟨by rw [List.length_drop]; have := h.le; omega, by have := h.cap; omega, (fun h => by cases h), fun hne => ?_, fun x hx => h.byte x (List.mem_of_mem_drop hx)⟩
  have hl : l ≠ [] := fun e => by subst e; simp [bCells] at hne
  obtain ⟨b, off, hA, hc⟩ := h.at hl
  injection hA with hA
  subst hA
  refine ⟨b, off + a, by simp [Addr.add], fun j u hu => ?_⟩
  have hj : j < (l.drop a).length := by
    have := (List.getElem?_eq_some_iff.1 hu).1
    rwa [bCells_length] at this
  rw [bCells_get _ j hj] at hu
  cases hu
  rw [List.length_drop] at hj
  rw [Nat.add_assoc, hc (a + j) (by omega), List.getD_eq_getElem?_getD, List.getD_eq_getElem?_getD, List.getElem?_drop]

namespace Fr
/-- The frame's size, if it is all there. -/
def szn (l : List Int) : Int := if err0 l = 0 then ((8 + num4 l : Nat) : Int) else 0
/-- Is a frame's sum right? -/
def good (f : List Int) : Prop := sum (f.take 4 ++ f.drop 8) = num4 (f.drop 4)
end Fr

set_option maxRecDepth 100000 in
set_option maxHeartbeats 3200000 in
theorem dsize_any (A : Option Addr) (c : Nat) (l : List Int) (w : World) (h : OneB w A c l) :
    Calls Tryd.prog 64 #[.slice A l.length c] w (Says (.tuple #[.int .i64 (Fr.szn l), .int .i64 (Fr.err0 l)]) w) := by
  have hl := h.len
  unfold Fr.szn
  by_cases h8 : l.length < 8
  · have e0 : Fr.err0 l = 5 := by unfold Fr.err0; rw [if_pos h8]
    rw [e0, if_neg (by decide)]
    have hd : decide ((l.length : Int) < 8) = true := decide_eq_true (by omega)
    clear h e0 h8
    go_enter Tryd.func64, Tryd.ntmps64
    go_wp2
    go_ret2
    exact ⟨rfl, Below.refl _ _⟩
  · have hd : decide ((l.length : Int) < 8) = false := decide_eq_false (by omega)
    have hlt := Fr.num4_lt h.byte
    have N1 := fun wx (hx : OneB wx A c l) => flen_any A c l wx hx (by omega)
    have e0 : Fr.err0 l = if 1048576 < Fr.num4 l then 4 else if l.length < 8 + Fr.num4 l then 5 else 0 := by unfold Fr.err0; rw [if_neg h8]
    rw [e0]
    obtain ⟨n, hn⟩ : ∃ n, Fr.num4 l = n := ⟨_, rfl⟩
    rw [hn] at hlt N1 ⊢
    have N1 := Lib.hid (N1 w h)
    clear h e0 hn
    by_cases h1 : 1048576 < n
    · rw [if_pos h1, if_neg (by decide)]
      have hd1 : decide ((1048576 : Int) < (n : Int)) = true := decide_eq_true (by omega)
      go_enter Tryd.func64, Tryd.ntmps64
      go_wp2_with fail
      refine N1.out.mono ?_
      rintro e w1 ⟨rfl, b1⟩
      go_wp2
      go_ret2
      exact ⟨rfl, b1⟩
    · rw [if_neg h1]
      have hd1 : decide ((1048576 : Int) < (n : Int)) = false := decide_eq_false (by omega)
      by_cases h2 : l.length < 8 + n
      · rw [if_pos h2, if_neg (by decide)]
        have hd2 : decide ((l.length : Int) - 8 < (n : Int)) = true := decide_eq_true (by omega)
        go_enter Tryd.func64, Tryd.ntmps64
        go_wp2_with fail
        refine N1.out.mono ?_
        rintro e w1 ⟨rfl, b1⟩
        go_wp2
        go_ret2
        exact ⟨rfl, b1⟩
      · rw [if_neg h2, if_pos rfl]
        have hd2 : decide ((l.length : Int) - 8 < (n : Int)) = false := decide_eq_false (by omega)
        go_enter Tryd.func64, Tryd.ntmps64
        go_wp2_with fail
        refine N1.out.mono ?_
        rintro e w1 ⟨rfl, b1⟩
        go_wp2
        go_ret2
        exact ⟨by first | rfl | (congr 3; omega), b1⟩

theorem fsum2_any (g : Nat) {A B : Option Addr} {c d n m : Nat} (l r : List Int) (w : World) (hB : Blk w g 25 #[.slice A n c, .slice B m d]) (hn : l.length = n) (h1 : OneB w A c l) (hm : r.length = m) (h2 : OneB w B d r) (hH : Halves w) :
    Calls Tryd.prog 47 #[.slice (some ⟨g, 0, none⟩) 2 2] w (Says (.int .u32 ((Fr.sum (l ++ r) : Nat) : Int)) w) := by
  subst hn hm
  have h := fsum_any g 2 (by omega) [(A, c), (B, d)] [l, r] w rfl rfl hB (fun k hk => by
    have hk2 : k = 0 ∨ k = 1 := by simp at hk; omega
    rcases hk2 with rfl | rfl
    · exact h1
    · exact h2) hH
  rwa [show [l, r].flatten = l ++ r from by simp] at h
theorem flen2_any (A : Option Addr) (c n : Nat) (l : List Int) (w : World) (h : OneB w A c l) (hn : l.length = n) (h4 : 4 ≤ n) : Calls Tryd.prog 72 #[.slice A n c] w (Says (.int .u32 ((Fr.num4 l : Nat) : Int)) w) := by
  subst hn
  exact flen_any A c l w h h4
theorem cloneB2_any (A : Option Addr) (c n : Nat) (l : List Int) (w : World) (hl : n ≤ 140737488355328) (h : OneB w A c l) (hn : l.length = n) : Calls Tryd.prog 36 #[.slice A n c] w (GivesB l w) := by
  subst hn
  exact cloneB_any A c l w hl h

/-- A frame's payload is answered, or the error. -/
def PayB (l : List Int) (w : World) (e : Ending) (w' : World) : Prop := GivesBE (if Fr.sum (l.take 4 ++ l.drop 8) = Fr.num4 (l.drop 4) then l.drop 8 else []) (if Fr.sum (l.take 4 ++ l.drop 8) = Fr.num4 (l.drop 4) then 0 else 6) w e w'
theorem pay_yes {l : List Int} {w : World} {e : Ending} {w' : World} (hs : Fr.sum (l.take 4 ++ l.drop 8) = Fr.num4 (l.drop 4)) (h : GivesBE (l.drop 8) 0 w e w') : PayB l w e w' := by
  unfold PayB
  rw [if_pos hs, if_pos hs]
  exact h
theorem pay_no {l : List Int} {w : World} {e : Ending} {w' : World} (hs : ¬ Fr.sum (l.take 4 ++ l.drop 8) = Fr.num4 (l.drop 4)) (h : GivesBE [] 6 w e w') : PayB l w e w' := by
  unfold PayB
  rw [if_neg hs, if_neg hs]
  exact h

set_option maxRecDepth 100000 in
set_option maxHeartbeats 6400000 in
theorem dpay_any (A : Option Addr) (c : Nat) (l : List Int) (w : World) (h : OneB w A c l) (h8 : 8 ≤ l.length) (hl : l.length ≤ 140737488355328) (hH : Halves w) :
    Calls Tryd.prog 65 #[.slice A l.length c] w (PayB l w) := by
  obtain ⟨b, off, rfl, -⟩ := h.at (by intro e; rw [e] at h8; simp at h8)
  have hle := h.le
  have hcap := h.cap
  unfold maxLen at hcap
  have H4 := Lib.hid (h.head 4); have HH := Lib.hid hH
  have HLT := Lib.hid (show (l.take 4).length = 4 by rw [List.length_take]; omega)
  have HLD := Lib.hid (show (l.drop 8).length = l.length - 8 by rw [List.length_drop])
  have HL4 := Lib.hid (show ((l.drop 4).take 4).length = 4 by rw [List.length_take, List.length_drop]; omega)
  have h48 := (h.rest (a := 4) (by omega)).head 4
  have hnm : Fr.num4 ((l.drop 4).take 4) = Fr.num4 (l.drop 4) := Fr.num4_take (by omega)
  obtain ⟨sm, hsm⟩ : ∃ sm, Fr.sum (l.take 4 ++ l.drop 8) = sm := ⟨_, rfl⟩
  obtain ⟨nm, hn2⟩ : ∃ nm, Fr.num4 (l.drop 4) = nm := ⟨_, rfl⟩
  rw [hn2] at hnm
  have HNN := Lib.hid hn2
  have HSM := Lib.hid hsm; have HNM := Lib.hid hnm
  by_cases hc : c = 8
  · have hL : l.length ≤ 8 := by omega
    subst hc
    have HLD := Lib.hid (show (l.drop 8).length = 0 by rw [List.length_drop]; omega)
    have HP := Lib.hid (show OneB w (some ⟨b, off, none⟩) 0 (l.drop 8) from by
      rw [List.drop_of_length_le hL]
      exact ⟨Nat.le_refl _, Nat.zero_le _, (fun h => by cases h), fun h => absurd rfl h, fun x hx => by cases hx⟩)
    have H48 := Lib.hid (show OneB w (some ⟨b, off + 4, none⟩) 4 ((l.drop 4).take 4) from h48)
    clear h hH h48 hnm hsm hn2
    go_enter Tryd.func65, Tryd.ntmps65
    go_wp2_with fail
    refine wp_region_facts 8 (by kernel_rfl) (by kernel_rfl) (fun v => { tmps := #[.slice (some ⟨b, off, none⟩) l.length 8, undef, .slice none 0 0, .int .i64 0, .slice (some ⟨b, off, none⟩) 0 0, .slice (some ⟨b, off, none⟩) l.length 8, .slice (some ⟨b, off, none⟩) 0 0, v 0, v 1, v 2, v 3, v 4, v 5, v 6, v 7, undef, undef, undef], defers := [] }) (fun _ => undef)
      (fun i z wx => match i with | 0 => z = .slice (some ⟨b, off, none⟩) l.length 8 | 1 => z = .slice (some ⟨b, off, none⟩) 4 8 | 2 => z = .slice (some ⟨b, off, none⟩) 0 0 | 3 => ∃ g, z = .slice (some ⟨g, 0, none⟩) 2 2 ∧ Blk wx g 25 #[.slice (some ⟨b, off, none⟩) 4 8, .slice (some ⟨b, off, none⟩) 0 0] | 4 => z = .int .u32 (sm : Int) | 5 => z = .slice (some ⟨b, off, none⟩) l.length 8 | 6 => z = .slice (some ⟨b, off + 4, none⟩) 4 4 | 7 => z = .int .u32 (nm : Int) | _ => True)
      (fun wa wb => Below wa.heap.size wa wb) (fun h1 h2 => below_on h1 h2) (fun _ => Below.refl _ _) (Below.refl _ _).drew ?stab1 ?step1 ?done1
    case stab1 =>
      intro i x wa wb h1 h2
      match i, h1 with
      | 0, h1 => exact h1
      | 1, h1 => exact h1
      | 2, h1 => exact h1
      | 3, ⟨g, e1, e2⟩ => exact ⟨g, e1, e2.later h2⟩
      | 4, h1 => exact h1
      | 5, h1 => exact h1
      | 6, h1 => exact h1
      | 7, h1 => exact h1
      | k + 8, _ => trivial
    case step1 =>
      intro i hi v w' hb hd
      match i, hi with
      | 0, _ =>
        refine wpOp_one rfl ?_
        clear hd hb
        go_wp2
        first | exact ⟨_, (by simp [upd]; done), Below.refl _ _, rfl⟩ | exact ⟨(by simp [upd]; done), Below.refl _ _, rfl⟩ | exact ⟨(by simp [upd]; done), Below.refl _ _⟩
      | 1, _ =>
        have h0 : v 0 = _ := hd 0 (List.elem_iff.1 (by kernel_rfl))
        refine wpOp_one rfl ?_
        clear hd hb
        rw [h0]
        go_wp2
        first | exact ⟨_, (by simp [upd, h0]; done), Below.refl _ _, rfl⟩ | exact ⟨(by simp [upd, h0]; done), Below.refl _ _, rfl⟩ | exact ⟨(by simp [upd, h0]; done), Below.refl _ _⟩
      | 2, _ =>
        refine wpOp_one rfl ?_
        clear hd hb
        go_wp2
        first | exact ⟨_, (by simp [upd]; done), Below.refl _ _, rfl⟩ | exact ⟨(by simp [upd]; done), Below.refl _ _, rfl⟩ | exact ⟨(by simp [upd]; done), Below.refl _ _⟩
      | 3, _ =>
        have h1 : v 1 = _ := hd 1 (List.elem_iff.1 (by kernel_rfl))
        have h2 : v 2 = _ := hd 2 (List.elem_iff.1 (by kernel_rfl))
        have KB := Lib.hid (show ∃ g, (Value.slice (some ⟨w'.heap.size, 0, none⟩) 2 2) = .slice (some ⟨g, 0, none⟩) 2 2 ∧ Blk (w'.alloc (.cells #[.slice (some ⟨b, off, none⟩) 4 8, .slice (some ⟨b, off, none⟩) 0 0] 25)) g 25 #[.slice (some ⟨b, off, none⟩) 4 8, .slice (some ⟨b, off, none⟩) 0 0] from ⟨_, rfl, Blk.new w' _ _⟩)
        have BN := Lib.hid (below_new (Below.refl w'.heap.size w') (.cells #[.slice (some ⟨b, off, none⟩) 4 8, .slice (some ⟨b, off, none⟩) 0 0] 25))
        refine wpOp_one rfl ?_
        clear hd hb
        rw [h1, h2]
        go_wp2
        first | exact ⟨_, (by simp [upd, h1, h2]; done), BN.out, KB.out⟩ | exact ⟨(by simp [upd, h1, h2]; done), BN.out, KB.out⟩
      | 4, _ =>
        obtain ⟨g, h3, kb⟩ := hd 3 (List.elem_iff.1 (by kernel_rfl))
        have CS := Lib.hid (fsum2_any g (l.take 4) (l.drop 8) w' kb HLT.out (H4.out.later hb) HLD.out (HP.out.later hb) (HH.out.later hb))
        refine wpOp_one rfl ?_
        clear hd hb kb
        rw [h3]
        rw [HSM.out] at CS
        go_wp2_with fail
        refine CS.out.mono ?_
        rintro e w'' ⟨rfl, bb⟩
        have BB := Lib.hid bb
        clear bb
        go_wp2
        first | exact ⟨_, (by simp [upd, h3]; done), BB.out, rfl⟩ | exact ⟨(by simp [upd, h3]; done), BB.out, rfl⟩ | exact ⟨(by simp [upd, h3]; done), BB.out⟩
      | 5, _ =>
        refine wpOp_one rfl ?_
        clear hd hb
        go_wp2
        first | exact ⟨_, (by simp [upd]; done), Below.refl _ _, rfl⟩ | exact ⟨(by simp [upd]; done), Below.refl _ _, rfl⟩ | exact ⟨(by simp [upd]; done), Below.refl _ _⟩
      | 6, _ =>
        have h5 : v 5 = _ := hd 5 (List.elem_iff.1 (by kernel_rfl))
        refine wpOp_one rfl ?_
        clear hd hb
        rw [h5]
        go_wp2
        first | exact ⟨_, (by simp [upd, h5]; done), Below.refl _ _, rfl⟩ | exact ⟨(by simp [upd, h5]; done), Below.refl _ _, rfl⟩ | exact ⟨(by simp [upd, h5]; done), Below.refl _ _⟩
      | 7, _ =>
        have h6 : v 6 = _ := hd 6 (List.elem_iff.1 (by kernel_rfl))
        have CS := Lib.hid (flen2_any (some ⟨b, off + 4, none⟩) 4 4 ((l.drop 4).take 4) w' (H48.out.later hb) HL4.out (by omega))
        refine wpOp_one rfl ?_
        clear hd hb
        rw [h6]
        rw [HNM.out] at CS
        go_wp2_with fail
        refine CS.out.mono ?_
        rintro e w'' ⟨rfl, bb⟩
        have BB := Lib.hid bb
        clear bb
        go_wp2
        first | exact ⟨_, (by simp [upd, h6]; done), BB.out, rfl⟩ | exact ⟨(by simp [upd, h6]; done), BB.out, rfl⟩ | exact ⟨(by simp [upd, h6]; done), BB.out⟩
    case done1 =>
      intro v w5 hb hall
      have h4 : v 4 = _ := hall 4 (by omega)
      have h7 : v 7 = _ := hall 7 (by omega)
      rw [h4, h7]
      have CC := Lib.hid (cloneB2_any (some ⟨b, off, none⟩) 0 0 (l.drop 8) w5 (by omega) (HP.out.later hb) HLD.out)
      have B5 := Lib.hid hb
      clear hall h4 h7 hb
      by_cases hs : sm = nm
      · have hd : ((sm : Int) != (nm : Int)) = false := by simp [hs]
        have PY := Lib.hid (fun e w' h => pay_yes (l := l) (w := w) (e := e) (w' := w') (HSM.out.trans (hs.trans HNN.out.symm)) h)
        clear hs
        go_wp2_with fail
        refine CC.out.mono ?_
        rintro e w6 ⟨y, rfl, ho, b6⟩
        have HO := Lib.hid (own_base ho (show w.heap.size ≤ w5.heap.size from B5.out.size)); have B6 := Lib.hid (below_on B5.out b6)
        clear ho b6
        go_wp2
        go_ret2
        exact PY.out _ _ ⟨_, rfl, HO.out, B6.out⟩
      · have hd : ((sm : Int) != (nm : Int)) = true := by rw [bne_iff_ne]; omega
        have PN := Lib.hid (fun e w' h => pay_no (l := l) (w := w) (e := e) (w' := w') (fun e2 => hs (HSM.out.symm.trans (e2.trans HNN.out))) h)
        clear hs
        go_wp2
        go_ret2
        exact PN.out _ _ ⟨_, rfl, none_own _ _, B5.out⟩
  · have hc8 : 8 < c := by omega
    have HP := Lib.hid (show OneB w (some ⟨b, off + 8, none⟩) (c - 8) (l.drop 8) from h.rest (a := 8) (by omega))
    have H48 := Lib.hid (show OneB w (some ⟨b, off + 4, none⟩) (c - 4) ((l.drop 4).take 4) from h48)
    clear h hH h48 hnm hsm hn2 hc
    go_enter Tryd.func65, Tryd.ntmps65
    go_wp2_with fail
    refine wp_region_facts 8 (by kernel_rfl) (by kernel_rfl) (fun v => { tmps := #[.slice (some ⟨b, off, none⟩) l.length c, undef, .slice none 0 0, .int .i64 0, .slice (some ⟨b, off + 8, none⟩) (l.length - 8) (c - 8), .slice (some ⟨b, off, none⟩) l.length c, .slice (some ⟨b, off + 8, none⟩) (l.length - 8) (c - 8), v 0, v 1, v 2, v 3, v 4, v 5, v 6, v 7, undef, undef, undef], defers := [] }) (fun _ => undef)
      (fun i z wx => match i with | 0 => z = .slice (some ⟨b, off, none⟩) l.length c | 1 => z = .slice (some ⟨b, off, none⟩) 4 c | 2 => z = .slice (some ⟨b, off + 8, none⟩) (l.length - 8) (c - 8) | 3 => ∃ g, z = .slice (some ⟨g, 0, none⟩) 2 2 ∧ Blk wx g 25 #[.slice (some ⟨b, off, none⟩) 4 c, .slice (some ⟨b, off + 8, none⟩) (l.length - 8) (c - 8)] | 4 => z = .int .u32 (sm : Int) | 5 => z = .slice (some ⟨b, off, none⟩) l.length c | 6 => z = .slice (some ⟨b, off + 4, none⟩) 4 (c - 4) | 7 => z = .int .u32 (nm : Int) | _ => True)
      (fun wa wb => Below wa.heap.size wa wb) (fun h1 h2 => below_on h1 h2) (fun _ => Below.refl _ _) (Below.refl _ _).drew ?stab2 ?step2 ?done2
    case stab2 =>
      intro i x wa wb h1 h2
      match i, h1 with
      | 0, h1 => exact h1
      | 1, h1 => exact h1
      | 2, h1 => exact h1
      | 3, ⟨g, e1, e2⟩ => exact ⟨g, e1, e2.later h2⟩
      | 4, h1 => exact h1
      | 5, h1 => exact h1
      | 6, h1 => exact h1
      | 7, h1 => exact h1
      | k + 8, _ => trivial
    case step2 =>
      intro i hi v w' hb hd
      match i, hi with
      | 0, _ =>
        refine wpOp_one rfl ?_
        clear hd hb
        go_wp2
        first | exact ⟨_, (by simp [upd]; done), Below.refl _ _, rfl⟩ | exact ⟨(by simp [upd]; done), Below.refl _ _, rfl⟩ | exact ⟨(by simp [upd]; done), Below.refl _ _⟩
      | 1, _ =>
        have h0 : v 0 = _ := hd 0 (List.elem_iff.1 (by kernel_rfl))
        refine wpOp_one rfl ?_
        clear hd hb
        rw [h0]
        go_wp2
        first | exact ⟨_, (by simp [upd, h0]; done), Below.refl _ _, rfl⟩ | exact ⟨(by simp [upd, h0]; done), Below.refl _ _, rfl⟩ | exact ⟨(by simp [upd, h0]; done), Below.refl _ _⟩
      | 2, _ =>
        refine wpOp_one rfl ?_
        clear hd hb
        go_wp2
        first | exact ⟨_, (by simp [upd]; done), Below.refl _ _, rfl⟩ | exact ⟨(by simp [upd]; done), Below.refl _ _, rfl⟩ | exact ⟨(by simp [upd]; done), Below.refl _ _⟩
      | 3, _ =>
        have h1 : v 1 = _ := hd 1 (List.elem_iff.1 (by kernel_rfl))
        have h2 : v 2 = _ := hd 2 (List.elem_iff.1 (by kernel_rfl))
        have KB := Lib.hid (show ∃ g, (Value.slice (some ⟨w'.heap.size, 0, none⟩) 2 2) = .slice (some ⟨g, 0, none⟩) 2 2 ∧ Blk (w'.alloc (.cells #[.slice (some ⟨b, off, none⟩) 4 c, .slice (some ⟨b, off + 8, none⟩) (l.length - 8) (c - 8)] 25)) g 25 #[.slice (some ⟨b, off, none⟩) 4 c, .slice (some ⟨b, off + 8, none⟩) (l.length - 8) (c - 8)] from ⟨_, rfl, Blk.new w' _ _⟩)
        have BN := Lib.hid (below_new (Below.refl w'.heap.size w') (.cells #[.slice (some ⟨b, off, none⟩) 4 c, .slice (some ⟨b, off + 8, none⟩) (l.length - 8) (c - 8)] 25))
        refine wpOp_one rfl ?_
        clear hd hb
        rw [h1, h2]
        go_wp2
        first | exact ⟨_, (by simp [upd, h1, h2]; done), BN.out, KB.out⟩ | exact ⟨(by simp [upd, h1, h2]; done), BN.out, KB.out⟩
      | 4, _ =>
        obtain ⟨g, h3, kb⟩ := hd 3 (List.elem_iff.1 (by kernel_rfl))
        have CS := Lib.hid (fsum2_any g (l.take 4) (l.drop 8) w' kb HLT.out (H4.out.later hb) HLD.out (HP.out.later hb) (HH.out.later hb))
        refine wpOp_one rfl ?_
        clear hd hb kb
        rw [h3]
        rw [HSM.out] at CS
        go_wp2_with fail
        refine CS.out.mono ?_
        rintro e w'' ⟨rfl, bb⟩
        have BB := Lib.hid bb
        clear bb
        go_wp2
        first | exact ⟨_, (by simp [upd, h3]; done), BB.out, rfl⟩ | exact ⟨(by simp [upd, h3]; done), BB.out, rfl⟩ | exact ⟨(by simp [upd, h3]; done), BB.out⟩
      | 5, _ =>
        refine wpOp_one rfl ?_
        clear hd hb
        go_wp2
        first | exact ⟨_, (by simp [upd]; done), Below.refl _ _, rfl⟩ | exact ⟨(by simp [upd]; done), Below.refl _ _, rfl⟩ | exact ⟨(by simp [upd]; done), Below.refl _ _⟩
      | 6, _ =>
        have h5 : v 5 = _ := hd 5 (List.elem_iff.1 (by kernel_rfl))
        refine wpOp_one rfl ?_
        clear hd hb
        rw [h5]
        go_wp2
        first | exact ⟨_, (by simp [upd, h5]; done), Below.refl _ _, rfl⟩ | exact ⟨(by simp [upd, h5]; done), Below.refl _ _, rfl⟩ | exact ⟨(by simp [upd, h5]; done), Below.refl _ _⟩
      | 7, _ =>
        have h6 : v 6 = _ := hd 6 (List.elem_iff.1 (by kernel_rfl))
        have CS := Lib.hid (flen2_any (some ⟨b, off + 4, none⟩) (c - 4) 4 ((l.drop 4).take 4) w' (H48.out.later hb) HL4.out (by omega))
        refine wpOp_one rfl ?_
        clear hd hb
        rw [h6]
        rw [HNM.out] at CS
        go_wp2_with fail
        refine CS.out.mono ?_
        rintro e w'' ⟨rfl, bb⟩
        have BB := Lib.hid bb
        clear bb
        go_wp2
        first | exact ⟨_, (by simp [upd, h6]; done), BB.out, rfl⟩ | exact ⟨(by simp [upd, h6]; done), BB.out, rfl⟩ | exact ⟨(by simp [upd, h6]; done), BB.out⟩
    case done2 =>
      intro v w5 hb hall
      have h4 : v 4 = _ := hall 4 (by omega)
      have h7 : v 7 = _ := hall 7 (by omega)
      rw [h4, h7]
      have CC := Lib.hid (cloneB2_any (some ⟨b, off + 8, none⟩) (c - 8) (l.length - 8) (l.drop 8) w5 (by omega) (HP.out.later hb) HLD.out)
      have B5 := Lib.hid hb
      clear hall h4 h7 hb
      by_cases hs : sm = nm
      · have hd : ((sm : Int) != (nm : Int)) = false := by simp [hs]
        have PY := Lib.hid (fun e w' h => pay_yes (l := l) (w := w) (e := e) (w' := w') (HSM.out.trans (hs.trans HNN.out.symm)) h)
        clear hs
        go_wp2_with fail
        refine CC.out.mono ?_
        rintro e w6 ⟨y, rfl, ho, b6⟩
        have HO := Lib.hid (own_base ho (show w.heap.size ≤ w5.heap.size from B5.out.size)); have B6 := Lib.hid (below_on B5.out b6)
        clear ho b6
        go_wp2
        go_ret2
        exact PY.out _ _ ⟨_, rfl, HO.out, B6.out⟩
      · have hd : ((sm : Int) != (nm : Int)) = true := by rw [bne_iff_ne]; omega
        have PN := Lib.hid (fun e w' h => pay_no (l := l) (w := w) (e := e) (w' := w') (fun e2 => hs (HSM.out.symm.trans (e2.trans HNN.out))) h)
        clear hs
        go_wp2
        go_ret2
        exact PN.out _ _ ⟨_, rfl, none_own _ _, B5.out⟩
end Go.Proofs.YtkhggofcbdcliaaDoor
namespace Go.Proofs.YtkhggofcbdcliaaDoor
open Go.RowKit

/-- A payload, a size and an error are answered, the payload in memory of the call's own. -/
def GivesOp (r : List Int × Int × Int) (w : World) (e : Ending) (w' : World) : Prop :=
  ∃ v, e = .returned (.tuple #[v, .int .i64 r.2.1, .int .i64 r.2.2]) ∧ w'.ownsRow w.heap.size 5 1 v r.1.length (bCells r.1) ∧ Below w.heap.size w w'
theorem Fr.err0_ok {l : List Int} (h : Fr.err0 l = 0) : 8 + Fr.num4 l ≤ l.length ∧ Fr.num4 l ≤ 1048576 := by
  unfold Fr.err0 at h
  split at h
  · cases h
  split at h
  · cases h
  split at h
  · cases h
  omega
theorem Fr.opn_is {l : List Int} (h : Fr.err0 l = 0) : Fr.opn l = if Fr.sum ((l.take (8 + Fr.num4 l)).take 4 ++ (l.take (8 + Fr.num4 l)).drop 8) = Fr.num4 ((l.take (8 + Fr.num4 l)).drop 4) then ((l.take (8 + Fr.num4 l)).drop 8, ((8 + Fr.num4 l : Nat) : Int), 0) else ([], 0, 6) := by
  have h1 : (l.take (8 + Fr.num4 l)).take 4 = l.take 4 := by rw [List.take_take]; congr 1; omega
  have h2 : Fr.num4 ((l.take (8 + Fr.num4 l)).drop 4) = Fr.num4 (l.drop 4) := by
    rw [List.drop_take, Fr.num4_take (by omega)]
  unfold Fr.opn
  rw [if_pos h, h1, h2]
theorem Fr.opn_no {l : List Int} (h : Fr.err0 l ≠ 0) : Fr.opn l = ([], 0, Fr.err0 l) := by unfold Fr.opn; rw [if_neg h]
theorem dpay2_any (A : Option Addr) (c n : Nat) (l : List Int) (w : World) (hn : l.length = n) (h : OneB w A c l) (h8 : 8 ≤ n) (hl : n ≤ 140737488355328) (hH : Halves w) : Calls Tryd.prog 65 #[.slice A n c] w (PayB l w) := by
  subst hn
  exact dpay_any A c l w h h8 hl hH
/-- The two ways of a payload. -/
theorem pay_ways {l : List Int} {w : World} {e : Ending} {w' : World} (h : PayB l w e w') : (Fr.sum (l.take 4 ++ l.drop 8) = Fr.num4 (l.drop 4) ∧ GivesBE (l.drop 8) 0 w e w') ∨ (¬ Fr.sum (l.take 4 ++ l.drop 8) = Fr.num4 (l.drop 4) ∧ GivesBE [] 6 w e w') := by
  unfold PayB at h
  split at h
  · rename_i hs
    exact .inl ⟨hs, h⟩
  · rename_i hs
    exact .inr ⟨hs, h⟩

set_option maxRecDepth 100000 in
set_option maxHeartbeats 3200000 in
theorem dopen_any (A : Option Addr) (c : Nat) (l : List Int) (w : World) (h : OneB w A c l) (hH : Halves w) :
    Calls Tryd.prog 55 #[.slice A l.length c] w (GivesOp (Fr.opn l) w) := by
  have N1 := dsize_any A c l w h
  by_cases he : Fr.err0 l = 0
  · obtain ⟨hn, hm⟩ := Fr.err0_ok he
    have ho := Fr.opn_is he
    unfold Fr.szn at N1
    rw [if_pos he, he] at N1
    have hle := h.le
    have hcap := h.cap
    unfold maxLen at hcap
    obtain ⟨b, off, rfl, -⟩ := h.at (by intro e; rw [e] at hn; simp at hn)
    have hf := h.head (8 + Fr.num4 l)
    have hfl : (l.take (8 + Fr.num4 l)).length = 8 + Fr.num4 l := by rw [List.length_take]; omega
    obtain ⟨f, hfe⟩ : ∃ f, l.take (8 + Fr.num4 l) = f := ⟨_, rfl⟩
    rw [hfe] at hf hfl ho
    obtain ⟨n, hne⟩ : ∃ n, 8 + Fr.num4 l = n := ⟨_, rfl⟩
    rw [hne] at hn hfl ho N1
    rw [ho]
    have N2 := Lib.hid (fun wx (hx : OneB wx (some ⟨b, off, none⟩) c f) (hh : Halves wx) => dpay2_any (some ⟨b, off, none⟩) c n f wx hfl hx (by omega) (by omega) hh)
    have N1 := Lib.hid N1; have HF := Lib.hid hf; have HH := Lib.hid hH
    have h8 : 8 ≤ n := by omega
    have hi0 : (0 : Int) ≤ (n : Int) := by omega
    have hi1 : (n : Int) ≤ (c : Int) := by omega
    obtain ⟨P, hP⟩ : ∃ P, (if Fr.sum (f.take 4 ++ f.drop 8) = Fr.num4 (f.drop 4) then (f.drop 8, ((n : Nat) : Int), (0 : Int)) else ([], 0, 6)) = P := ⟨_, rfl⟩
    rw [hP]
    have HP := Lib.hid hP
    clear h hH he ho hf hfe hne hfl hm hP
    go_enter Tryd.func55, Tryd.ntmps55
    go_wp2_with fail
    refine N1.out.mono ?_
    rintro e w1 ⟨rfl, b1⟩
    go_wp2_with fail
    refine (N2.out w1 (HF.out.later b1) (HH.out.later b1)).mono ?_
    intro e w2 hp
    rcases pay_ways hp with ⟨hs, v, rfl, ho, b2⟩ | ⟨hs, v, rfl, ho, b2⟩
    · have hPe : P = (f.drop 8, ((n : Nat) : Int), 0) := by rw [← HP.out, if_pos hs]
      have HO := Lib.hid (own_base ho (show w.heap.size ≤ w1.heap.size from b1.size)); have BB := Lib.hid (below_on b1 b2)
      have HPE := Lib.hid hPe
      clear hp ho hs hPe b2
      go_wp2
      go_ret3
      rw [HPE.out]
      exact ⟨_, rfl, HO.out, BB.out⟩
    · have hPe : P = ([], 0, 6) := by rw [← HP.out, if_neg hs]
      have BB := Lib.hid (below_on b1 b2)
      have HPE := Lib.hid hPe
      clear hp ho hs hPe b2
      go_wp2
      go_ret3
      rw [HPE.out]
      exact ⟨_, rfl, none_own _ _, BB.out⟩
  · rw [Fr.opn_no he]
    unfold Fr.szn at N1
    rw [if_neg he] at N1
    obtain ⟨er, her⟩ : ∃ er, Fr.err0 l = er := ⟨_, rfl⟩
    rw [her] at N1 he ⊢
    have hd : (er != 0) = true := bne_iff_ne.2 he
    have N1 := Lib.hid N1
    have hll := h.len
    clear h hH he her
    go_enter Tryd.func55, Tryd.ntmps55
    go_wp2_with fail
    refine N1.out.mono ?_
    rintro e w1 ⟨rfl, b1⟩
    go_wp2
    go_ret3
    exact ⟨_, rfl, none_own _ _, b1⟩

end Go.Proofs.YtkhggofcbdcliaaDoor
namespace Go.Proofs.YtkhggofcbdcliaaDoor
open Go.RowKit

theorem bcopy2_any (A : Option Addr) (c n : Nat) (l : List Int) (w : World) (hn : l.length = n) (hl : n ≤ 140737488355328) (h : OneB w A c l) : Calls Tryd.prog 26 #[.slice A n c] w (GivesB l w) := by
  subst hn
  exact bcopy_any A c l w hl h
theorem bsame2_any (A B : Option Addr) (c d n m : Nat) (l r : List Int) (w : World) (hn : l.length = n) (hm : r.length = m) (h1 : OneB w A c l) (h2 : OneB w B d r) : Calls Tryd.prog 25 #[.slice A n c, .slice B m d] w (fun e w' => e = .returned (.bool (decide (l = r))) ∧ Below w.heap.size w w') := by
  subst hn hm
  exact bsame_any A B c d l r w h1 h2

set_option maxRecDepth 100000 in
set_option maxHeartbeats 6400000 in
theorem ropen_any (A : Option Addr) (c : Nat) (l : List Int) (w : World) (h : OneB w A c l) :
    Calls Tryd.prog 56 #[.slice A l.length c] w (GivesOp (Fr.opn l) w) := by
  have hll := h.len
  by_cases h8 : l.length < 8
  · have e0 : Fr.err0 l = 5 := by unfold Fr.err0; rw [if_pos h8]
    rw [Fr.opn_no (by rw [e0]; decide), e0]
    have hd : decide ((l.length : Int) < 8) = true := decide_eq_true (by omega)
    clear h e0 h8
    go_enter Tryd.func56, Tryd.ntmps56
    go_wp2
    go_ret3
    exact ⟨_, rfl, none_own _ _, Below.refl _ _⟩
  have hd8 : decide ((l.length : Int) < 8) = false := decide_eq_false (by omega)
  have hlt := Fr.num4_lt h.byte
  have N1 := Lib.hid (fun wx (hx : OneB wx A c l) => rlen_any A c l wx hx (by omega))
  have HB := Lib.hid h
  have e0 : Fr.err0 l = if 1048576 < Fr.num4 l then 4 else if l.length < 8 + Fr.num4 l then 5 else 0 := by unfold Fr.err0; rw [if_neg h8]
  by_cases h1 : 1048576 < Fr.num4 l
  · rw [if_pos h1] at e0
    rw [Fr.opn_no (by rw [e0]; decide), e0]
    obtain ⟨m, hm⟩ : ∃ m, Fr.num4 l = m := ⟨_, rfl⟩
    rw [hm] at h1 hlt N1
    have hd1 : decide ((1048576 : Int) < (m : Int)) = true := decide_eq_true (by omega)
    clear h e0 h8 hm
    go_enter Tryd.func56, Tryd.ntmps56
    go_wp2_with fail
    refine (N1.out w HB.out).mono ?_
    rintro e w1 ⟨rfl, b1⟩
    go_wp2
    go_ret3
    exact ⟨_, rfl, none_own _ _, b1⟩
  rw [if_neg h1] at e0
  by_cases h2 : l.length < 8 + Fr.num4 l
  · rw [if_pos h2] at e0
    rw [Fr.opn_no (by rw [e0]; decide), e0]
    obtain ⟨m, hm⟩ : ∃ m, Fr.num4 l = m := ⟨_, rfl⟩
    rw [hm] at h1 h2 hlt N1
    have hd1 : decide ((1048576 : Int) < (m : Int)) = false := decide_eq_false (by omega)
    have hd2 : decide ((l.length : Int) - 8 < (m : Int)) = true := decide_eq_true (by omega)
    clear h e0 h8 hm
    go_enter Tryd.func56, Tryd.ntmps56
    go_wp2_with fail
    refine (N1.out w HB.out).mono ?_
    rintro e w1 ⟨rfl, b1⟩
    go_wp2
    go_ret3
    exact ⟨_, rfl, none_own _ _, b1⟩
  rw [if_neg h2] at e0
  have ho := Fr.opn_is e0
  have hle := h.le
  have hcap := h.cap
  unfold maxLen at hcap
  obtain ⟨b, off, rfl, -⟩ := h.at (by intro e; rw [e] at h8; simp at h8)
  have hf := h.head (8 + Fr.num4 l)
  have hfl : (l.take (8 + Fr.num4 l)).length = 8 + Fr.num4 l := by rw [List.length_take]; omega
  have hfn : Fr.num4 (l.take (8 + Fr.num4 l)) = Fr.num4 l := Fr.num4_take (by omega)
  have hiff := Fr.seal_iff hfl hfn hf.byte
  have hdp : (l.take (8 + Fr.num4 l)).drop 8 = (l.drop 8).take (Fr.num4 l) := by rw [List.drop_take]; congr 1; omega
  have hpl : ((l.take (8 + Fr.num4 l)).drop 8).length = Fr.num4 l := by rw [List.length_drop]; omega
  obtain ⟨m, hm⟩ : ∃ m, Fr.num4 l = m := ⟨_, rfl⟩
  rw [hm] at h1 h2 hlt N1 hf hfl hiff hdp hpl ho
  obtain ⟨f, hfe⟩ : ∃ f, l.take (8 + m) = f := ⟨_, rfl⟩
  rw [hfe] at hf hfl hiff hdp hpl ho
  obtain ⟨p, hpe⟩ : ∃ p, f.drop 8 = p := ⟨_, rfl⟩
  rw [hpe] at hiff hdp hpl ho
  have hpb : ∀ x ∈ p, isB x := fun x hx => hf.byte x (List.mem_of_mem_drop (by rw [hpe]; exact hx))
  have hse : Fr.sealed p = (Fr.frm p, 0) := by unfold Fr.sealed; rw [if_pos (by omega)]
  have hd1 : decide ((1048576 : Int) < (m : Int)) = false := decide_eq_false (by omega)
  have hd2 : decide ((l.length : Int) - 8 < (m : Int)) = false := decide_eq_false (by omega)
  obtain ⟨P, hP⟩ : ∃ P, (if Fr.sum (f.take 4 ++ p) = Fr.num4 (f.drop 4) then (p, ((8 + m : Nat) : Int), (0 : Int)) else ([], 0, 6)) = P := ⟨_, rfl⟩
  rw [ho, hP]
  have hi0 : (0 : Int) ≤ 8 + (m : Int) := by omega
  have hi1 : 8 + (m : Int) ≤ (c : Int) := by omega
  have hi2 : (8 : Int) ≤ 8 + (m : Int) := by omega
  have HF := Lib.hid hf; have HFL := Lib.hid hfl; have HIFF := Lib.hid hiff; have HPB := Lib.hid hpb; have HSE := Lib.hid hse; have HPP := Lib.hid hP; have HFB := Lib.hid (Fr.seal_byte hpb); have HPL := Lib.hid hpl
  by_cases hc : c = 8
  · have hm0 : m = 0 := by omega
    subst hc
    subst hm0
    have hp0 : p = [] := List.eq_nil_of_length_eq_zero hpl
    have HP := Lib.hid (show OneB w (some ⟨b, off, none⟩) 0 p from by rw [hp0]; exact ⟨Nat.le_refl _, Nat.zero_le _, (fun h => by cases h), fun h => absurd rfl h, fun x hx => by cases hx⟩)
    have NC := Lib.hid (fun wx (hx : OneB wx (some ⟨b, off, none⟩) 0 p) => bcopy2_any (some ⟨b, off, none⟩) 0 0 p wx HPL.out (by omega) hx)
    clear h e0 ho hf hfl hfn hiff hpl hm hfe hpe hpb hse hP hdp hp0 h8
    go_enter Tryd.func56, Tryd.ntmps56
    go_wp2_with fail
    refine (N1.out w HB.out).mono ?_
    rintro e w1 ⟨rfl, b1⟩
    go_wp2_with fail
    refine (NC.out w1 (HP.out.later b1)).mono ?_
    rintro e w2 ⟨v2, rfl, ho2, b2⟩
    obtain ⟨A2, c2, rfl, hO2⟩ := OneB.of_own ho2 HPB.out
    have NS := Lib.hid (rseal_any A2 c2 p w2 hO2)
    rw [HSE.out] at NS
    have HO2 := Lib.hid ho2
    have bb2 := below_on b1 b2
    clear hO2 ho2
    go_wp2_with fail
    refine NS.out.mono ?_
    rintro e w3 ⟨v3, rfl, ho3, b3⟩
    obtain ⟨A3, c3, rfl, hO3⟩ := OneB.of_own ho3 HFB.out
    have bb3 := below_on bb2 b3
    have NM := bsame2_any A3 (some ⟨b, off, none⟩) c3 8 (Fr.frm p).length 8 (Fr.frm p) f w3 rfl HFL.out hO3 (HF.out.later bb3)
    have HO23 := Lib.hid (own_base (own_later HO2.out b3) (show w.heap.size ≤ w1.heap.size from b1.size))
    by_cases hs : Fr.frm p = f
    · rw [decide_eq_true hs] at NM
      have NM2 := Lib.hid NM
      have hPe : P = (p, ((8 + 0 : Nat) : Int), 0) := by rw [← HPP.out, if_pos (HIFF.out.1 hs)]
      have HPE := Lib.hid hPe
      clear NM hs hPe hO3 ho3
      go_wp2_with fail
      refine NM2.out.mono ?_
      rintro e w4 ⟨rfl, b4⟩
      have HO24 := Lib.hid (own_later HO23.out b4)
      go_wp2
      go_ret3
      rw [HPE.out]
      exact ⟨_, rfl, HO24.out, below_on bb3 b4⟩
    · rw [decide_eq_false hs] at NM
      have NM2 := Lib.hid NM
      have hPe : P = ([], 0, 6) := by rw [← HPP.out, if_neg (fun h => hs (HIFF.out.2 h))]
      have HPE := Lib.hid hPe
      clear NM hs hPe hO3 ho3
      go_wp2_with fail
      refine NM2.out.mono ?_
      rintro e w4 ⟨rfl, b4⟩
      go_wp2
      go_ret3
      rw [HPE.out]
      exact ⟨_, rfl, none_own _ _, below_on bb3 b4⟩
  · have hc8 : 8 < c := by omega
    have HP := Lib.hid (show OneB w (some ⟨b, off + 8, none⟩) (c - 8) p from by rw [hdp]; exact (h.rest (a := 8) (by omega)).head m)
    have NC := Lib.hid (fun wx (hx : OneB wx (some ⟨b, off + 8, none⟩) (c - 8) p) => bcopy2_any (some ⟨b, off + 8, none⟩) (c - 8) m p wx HPL.out (by omega) hx)
    clear h e0 ho hf hfl hfn hiff hpl hm hfe hpe hpb hse hP hdp h8
    go_enter Tryd.func56, Tryd.ntmps56
    go_wp2_with fail
    refine (N1.out w HB.out).mono ?_
    rintro e w1 ⟨rfl, b1⟩
    go_wp2_with fail
    refine (NC.out w1 (HP.out.later b1)).mono ?_
    rintro e w2 ⟨v2, rfl, ho2, b2⟩
    obtain ⟨A2, c2, rfl, hO2⟩ := OneB.of_own ho2 HPB.out
    have NS := Lib.hid (rseal_any A2 c2 p w2 hO2)
    rw [HSE.out] at NS
    have HO2 := Lib.hid ho2
    have bb2 := below_on b1 b2
    clear hO2 ho2
    go_wp2_with fail
    refine NS.out.mono ?_
    rintro e w3 ⟨v3, rfl, ho3, b3⟩
    obtain ⟨A3, c3, rfl, hO3⟩ := OneB.of_own ho3 HFB.out
    have bb3 := below_on bb2 b3
    have NM := bsame2_any A3 (some ⟨b, off, none⟩) c3 c (Fr.frm p).length (8 + m) (Fr.frm p) f w3 rfl HFL.out hO3 (HF.out.later bb3)
    have HO23 := Lib.hid (own_base (own_later HO2.out b3) (show w.heap.size ≤ w1.heap.size from b1.size))
    by_cases hs : Fr.frm p = f
    · rw [decide_eq_true hs] at NM
      have NM2 := Lib.hid NM
      have hPe : P = (p, ((8 + m : Nat) : Int), 0) := by rw [← HPP.out, if_pos (HIFF.out.1 hs)]
      have HPE := Lib.hid hPe
      clear NM hs hPe hO3 ho3
      go_wp2_with fail
      refine NM2.out.mono ?_
      rintro e w4 ⟨rfl, b4⟩
      have HO24 := Lib.hid (own_later HO23.out b4)
      go_wp2
      go_ret3
      rw [HPE.out]
      exact ⟨_, rfl, HO24.out, below_on bb3 b4⟩
    · rw [decide_eq_false hs] at NM
      have NM2 := Lib.hid NM
      have hPe : P = ([], 0, 6) := by rw [← HPP.out, if_neg (fun h => hs (HIFF.out.2 h))]
      have HPE := Lib.hid hPe
      clear NM hs hPe hO3 ho3
      go_wp2_with fail
      refine NM2.out.mono ?_
      rintro e w4 ⟨rfl, b4⟩
      go_wp2
      go_ret3
      rw [HPE.out]
      exact ⟨_, rfl, none_own _ _, below_on bb3 b4⟩

theorem Fr.whl_is (l : List Int) : Fr.whl l = if 8 ≤ l.length ∧ 8 + Fr.num4 l < l.length then ([], 4) else ((Fr.opn l).1, (Fr.opn l).2.2) := by
  unfold Fr.whl
  by_cases he : Fr.err0 l = 0
  · rw [if_pos he]
    by_cases hlt : 8 + Fr.num4 l < l.length
    · rw [if_pos hlt, if_pos ⟨by omega, hlt⟩]
    · rw [if_neg hlt, if_neg (fun h => hlt h.2)]
  · rw [if_neg he, Fr.opn_no he]
    by_cases hlt : 8 ≤ l.length ∧ 8 + Fr.num4 l < l.length
    · have e4 : Fr.err0 l = 4 := by
        unfold Fr.err0 at he ⊢
        rw [if_neg (by omega)] at he ⊢
        by_cases h1 : 1048576 < Fr.num4 l
        · rw [if_pos h1]
        · rw [if_neg h1, if_neg (by omega)] at he
          exact absurd rfl he
      rw [if_pos hlt, e4]
    · rw [if_neg hlt]

end Go.Proofs.YtkhggofcbdcliaaDoor
namespace Go.Proofs.YtkhggofcbdcliaaDoor
open Go.RowKit

theorem infoSl : (Tryd.prog.info? 25).map (fun i => (i.zero, i.size, i.bytes)) = some (some (.slice none 0 0), 1, 24) := by kernel_rfl
theorem Fr.opn_bounds {l : List Int} (h : (Fr.opn l).2.2 = 0) : ∃ n : Nat, (Fr.opn l).2.1 = (n : Int) ∧ 8 ≤ n ∧ n ≤ l.length := by
  obtain ⟨-, -, h3, h4, -⟩ := Fr.opn_ok h
  rw [h3]
  exact ⟨_, rfl, by omega, h4⟩
theorem Fr.opn_byte {l p : List Int} {a : Nat} {k e : Int} (hb : ∀ x ∈ l, isB x) (h : Fr.opn (l.drop a) = (p, k, e)) : ∀ x ∈ p, isB x := by
  intro x hx
  by_cases he : (Fr.opn (l.drop a)).2.2 = 0
  · obtain ⟨-, -, h3, -, -⟩ := Fr.opn_ok he
    rw [h] at h3
    cases h3
    exact hb x (List.mem_of_mem_drop (List.mem_of_mem_take (List.mem_of_mem_drop hx)))
  · have h1 := (Fr.opn_err he).1
    rw [h] at h1
    simp only at h1
    subst h1
    cases hx
theorem dopen2_any (A : Option Addr) (c : Nat) (l : List Int) (w : World) {n : Nat} (hn : l.length = n) (h : OneB w A c l) (hH : Halves w) : Calls Tryd.prog 55 #[.slice A n c] w (GivesOp (Fr.opn l) w) := by
  subst hn
  exact dopen_any A c l w h hH
theorem ropen2_any (A : Option Addr) (c : Nat) (l : List Int) (w : World) {n : Nat} (hn : l.length = n) (h : OneB w A c l) : Calls Tryd.prog 56 #[.slice A n c] w (GivesOp (Fr.opn l) w) := by
  subst hn
  exact ropen_any A c l w h
theorem sliCells_snoc : ∀ (cs : List (Option Addr × Nat)) (ls : List (List Int)) (x : Option Addr × Nat) (p : List Int), cs.length = ls.length → sliCells (cs ++ [x]) (ls ++ [p]) = sliCells cs ls ++ [.slice x.1 p.length x.2]
  | [], [], _, _, _ => rfl
  | [], _ :: _, _, _, h => by simp at h
  | _ :: _, [], _, _, h => by simp at h
  | c :: cs, l :: ls, x, p, h => by
    simp only [List.cons_append, sliCells]
    rw [sliCells_snoc cs ls x p (by simpa using h)]
/-- A list of lists of bytes in memory of the call's own. -/
structure OwnRows (w : World) (base : Nat) (v : Value) (cs : List (Option Addr × Nat)) (ls : List (List Int)) : Prop where
  row : w.ownsRow base 25 1 v ls.length (sliCells cs ls)
  lens : cs.length = ls.length
  each : ∀ k, k < ls.length → w.ownsRow base 5 1 (.slice (cs.getD k (none, 0)).1 (ls.getD k []).length (cs.getD k (none, 0)).2) (ls.getD k []).length (bCells (ls.getD k []))
  byte : ∀ l ∈ ls, ∀ x ∈ l, isB x
theorem OwnRows.nil (w : World) (base : Nat) : OwnRows w base (.slice none 0 0) [] [] := ⟨⟨rfl, .inl ⟨rfl, rfl⟩⟩, rfl, (fun k hk => by cases hk), (fun _ h => by cases h)⟩
theorem OwnRows.later {w w' : World} {base : Nat} {v : Value} {cs : List (Option Addr × Nat)} {ls : List (List Int)} (h : OwnRows w base v cs ls) (hb : Below w.heap.size w w') : OwnRows w' base v cs ls := ⟨own_later h.row hb, h.lens, fun k hk => own_later (h.each k hk) hb, h.byte⟩
theorem OwnRows.snoc {w w2 : World} {base : Nat} {v v2 : Value} {cs : List (Option Addr × Nat)} {ls : List (List Int)} (h : OwnRows w base v cs ls) {X : Option Addr} {cx : Nat} {p : List Int} (ho : w.ownsRow base 5 1 (.slice X p.length cx) p.length (bCells p)) (hp : ∀ x ∈ p, isB x) {ob : Obj} (hg : (w.alloc ob).grownBy w2 v.ownBlock)
    (h2 : w2.ownsRow base 25 1 v2 (ls.length + 1) (sliCells cs ls ++ [.slice X p.length cx])) : OwnRows w2 base v2 (cs ++ [(X, cx)]) (ls ++ [p]) := by
  have keep : ∀ {u : Value} {n : Nat} {xs : List Value}, w.ownsRow base 5 1 u n xs → w2.ownsRow base 5 1 u n xs := fun {u n xs} hu => by
    have hu' := hu.alloc ob
    exact own_stays hu' (fun k hk => hg.block k (own_lt hu' k hk) (own_apart hu' (h.row.alloc ob) (by decide) k hk))
  refine ⟨by rw [sliCells_snoc cs ls (X, cx) p h.lens, List.length_append, List.length_singleton]; exact h2, by simp [h.lens], fun k hk => ?_, fun l hl => ?_⟩
  · rw [List.length_append, List.length_singleton] at hk
    by_cases e : k < ls.length
    · have e1 : (cs ++ [(X, cx)]).getD k (none, 0) = cs.getD k (none, 0) := by rw [List.getD_eq_getElem?_getD, List.getD_eq_getElem?_getD, List.getElem?_append_left (by rw [h.lens]; exact e)]
      have e2 : (ls ++ [p]).getD k [] = ls.getD k [] := by rw [List.getD_eq_getElem?_getD, List.getD_eq_getElem?_getD, List.getElem?_append_left e]
      rw [e1, e2]
      exact keep (h.each k e)
    · have ek : k = ls.length := by omega
      subst ek
      have e1 : (cs ++ [(X, cx)]).getD ls.length (none, 0) = (X, cx) := by rw [List.getD_eq_getElem?_getD, ← h.lens, List.getElem?_concat_length]; rfl
      have e2 : (ls ++ [p]).getD ls.length [] = p := by rw [List.getD_eq_getElem?_getD, List.getElem?_concat_length]; rfl
      rw [e1, e2]
      exact keep ho
  · rcases List.mem_append.1 hl with k | k
    · exact h.byte l k
    · simp at k
      subst k
      exact hp
/-- A list of lists of bytes by value. -/
structure RowB (w : World) (A : Option Addr) (c : Nat) (ls : List (List Int)) : Prop where
  le : ls.length ≤ c
  cap : c ≤ maxLen
  noA : A = none → ls.length = 0 ∧ c = 0
  lies : ls ≠ [] → ∃ b off, A = some ⟨b, off, none⟩ ∧ ∀ k, k < ls.length → ∃ X cx, w.cell? ⟨b, off + k, none⟩ = some (.slice X (ls.getD k []).length cx) ∧ OneB w X cx (ls.getD k [])
theorem RowB.later {w w' : World} {A : Option Addr} {c : Nat} {ls : List (List Int)} (h : RowB w A c ls) (hb : Below w.heap.size w w') : RowB w' A c ls := by
  refine ⟨h.le, h.cap, h.noA, fun hne => ?_⟩
  obtain ⟨b, off, hA, hc⟩ := h.lies hne
  refine ⟨b, off, hA, fun k hk => ?_⟩
  obtain ⟨X, cx, h1, h2⟩ := hc k hk
  exact ⟨X, cx, cell_later hb h1, h2.later hb⟩
theorem RowB.len {w : World} {A : Option Addr} {c : Nat} {ls : List (List Int)} (h : RowB w A c ls) : ls.length ≤ 9223372036854775807 := by
  have h1 := h.le
  have h2 := h.cap
  unfold maxLen at h2
  omega
theorem one_own {w : World} {base : Nat} {X : Option Addr} {cx : Nat} {p : List Int} (h : w.ownsRow base 5 1 (.slice X p.length cx) p.length (bCells p)) (hp : ∀ x ∈ p, isB x) : OneB w X cx p := by
  obtain ⟨A, c, hv, ho⟩ := OneB.of_own h hp
  cases hv
  exact ho
theorem OwnRows.one {w : World} {base : Nat} {v : Value} {cs : List (Option Addr × Nat)} {ls : List (List Int)} (h : OwnRows w base v cs ls) : ∃ A c, v = .slice A ls.length c ∧ RowB w A c ls := by
  obtain ⟨A, c, h1, h2, h3, h4, h5⟩ := own_form h.row
  refine ⟨A, c, h1, ⟨h2, h3, h4, fun hne => ?_⟩⟩
  have hne2 : sliCells cs ls ≠ [] := fun e => by
    have h0 : 0 < ls.length := List.length_pos_iff.2 hne
    have := sliCells_get cs ls 0 (by rw [h.lens]; exact h0) h0
    rw [e] at this
    cases this
  obtain ⟨b, off, hA, hc⟩ := h5 hne2
  refine ⟨b, off, hA, fun k hk => ⟨_, _, hc k _ (sliCells_get cs ls k (by rw [h.lens]; exact hk) hk), ?_⟩⟩
  have hm : ls.getD k [] ∈ ls := by rw [List.getD_eq_getElem?_getD, List.getElem?_eq_getElem hk]; exact List.getElem_mem hk
  exact one_own (h.each k hk) (h.byte _ hm)
/-- What Cut answers. -/
def CutB (l : List Int) (w : World) (e : Ending) (w' : World) : Prop :=
  ∃ v cs acc at_ k, e = .returned (.tuple #[v, .int .i64 ((at_ : Nat) : Int)]) ∧ OwnRows w' w.heap.size v cs acc ∧ Fr.it l k = (at_, acc) ∧ Fr.Stop l k ∧ Below w.heap.size w w'
theorem lists_ext {l r : List (List Int)} (h : l.length = r.length) (hk : ∀ k, k < l.length → l.getD k [] = r.getD k []) : l = r := by
  apply List.ext_getElem h
  intro i h1 h2
  have := hk i h1
  rw [List.getD_eq_getElem?_getD, List.getD_eq_getElem?_getD, List.getElem?_eq_getElem h1, List.getElem?_eq_getElem h2] at this
  simpa using this

set_option maxRecDepth 100000 in
set_option maxHeartbeats 3200000 in
theorem rlists_any (A B : Option Addr) (c1 c2 : Nat) (l r : List (List Int)) (w : World) (h1 : RowB w A c1 l) (h2 : RowB w B c2 r) :
    Calls Tryd.prog 21 #[.slice A l.length c1, .slice B r.length c2] w (Says (.bool (decide (l = r))) w) := by
  have hl := h1.len
  have H1 := Lib.hid h1
  have H2 := Lib.hid h2
  clear h1 h2
  by_cases hlen : l.length = r.length
  · have hd0 : ((l.length : Int) != (r.length : Int)) = false := by rw [bne_eq_false_iff_eq]; omega
    have HLEN := Lib.hid hlen
    have hr1 : r.length ≤ l.length := by omega
    have hr2 : l.length ≤ r.length := by omega
    clear hlen
    go_enter Tryd.func21, Tryd.ntmps21
    go_wp2_with fail
    go_loopw [5] (fun s5 wr => ∃ k : Nat, k ≤ l.length ∧ s5 = .int .i64 (k : Int) ∧ (∀ j, j < k → l.getD j [] = r.getD j []) ∧ Below w.heap.size w wr) (fun s5 _ => l.length - (intOf s5).toNat)
    case atStart => exact ⟨0, Nat.zero_le _, rfl, fun j hj => by omega, Below.refl _ _⟩
    case round =>
      obtain ⟨k, hk, rfl, heq, hbw⟩ := hrel
      have HEQ := Lib.hid heq
      clear heq
      by_cases hlt : k < l.length
      · have hne : l ≠ [] := fun e => by subst e; simp at hlt
        have hne2 : r ≠ [] := fun e => by have := HLEN.out; subst e; simp at this; exact hne this
        obtain ⟨b, off, hA, hcA⟩ := (H1.out.later hbw).lies hne
        obtain ⟨b', off', hB, hcB⟩ := (H2.out.later hbw).lies hne2
        obtain ⟨X, cx, e0, hX⟩ := hcA k hlt
        obtain ⟨Y, cy, f0, hY⟩ := hcB k (by omega)
        subst hA hB
        obtain ⟨x, hx⟩ : ∃ x, l.getD k [] = x := ⟨_, rfl⟩
        obtain ⟨y, hy⟩ : ∃ y, r.getD k [] = y := ⟨_, rfl⟩
        rw [hx] at e0 hX
        rw [hy] at f0 hY
        have hi0 : (0 : Int) ≤ (k : Int) := by omega
        have hi1 : (k : Int) < (l.length : Int) := by omega
        have hi2 : (k : Int) < (r.length : Int) := by omega
        have k0 := fun d os => cell_regrown (d := d) (os := os) e0
        have j0 := fun d os => cell_regrown (d := d) (os := os) f0
        have CN := Lib.hid (fun d os => Calls.regrown_of (bsame_any X Y cx cy x y (Sort.grow (redrawn wr d) os) (hX.later (below_regrown wr d os)) (hY.later (below_regrown wr d os))))
        have HX := Lib.hid hx
        have HY := Lib.hid hy
        obtain ⟨sm, hsm⟩ : ∃ sm, decide (x = y) = sm := ⟨_, rfl⟩
        rw [hsm] at CN
        have HSM := Lib.hid hsm
        clear hx hy hcA hcB e0 f0 hX hY hsm hne hne2
        go_wp2_with fail
        refine wp_region_quiet_below (by kernel_rfl) (by kernel_rfl) ?_
        repeat (first | go_big_quiet_step (exact CN.out _ _) | quiet_step (exact CN.out _ _))
        refine wpQuiet_nil ?_
        intro _ hw'
        obtain ⟨⟨dq, osq⟩, hw''⟩ := hw'
        subst hw''
        have bq := below_regrown wr dq osq
        cases sm with
        | true =>
          have HXY := Lib.hid (of_decide_eq_true HSM.out)
          go_wp2_with fail
          go_roundw
          case rel =>
            refine ⟨k + 1, by omega, by first | rfl | go_num | (congr 1; omega), ?_, below_on hbw bq⟩
            intro j hj
            by_cases e : j = k
            · subst e; rw [HX.out, HY.out, HXY.out]
            · exact HEQ.out j (by omega)
          case measure => simp [intOf]; omega
        | false =>
          have hno : decide (l = r) = false := decide_eq_false (fun e => by
            have h2 : x = y := by rw [← HX.out, ← HY.out, e]
            exact of_decide_eq_false HSM.out h2)
          have HNO := Lib.hid hno
          clear hno
          go_wp2
          go_ret
          exact ⟨by rw [HNO.out]; rfl, below_on hbw bq⟩
      · have hyes : decide (l = r) = true := decide_eq_true (lists_ext HLEN.out (fun j hj => HEQ.out j (by omega)))
        have HY := Lib.hid hyes
        clear hyes
        go_wp2
        go_ret
        exact ⟨by rw [HY.out]; rfl, hbw⟩
  · have hd0 : ((l.length : Int) != (r.length : Int)) = true := by rw [bne_iff_ne]; omega
    have HNO := Lib.hid (show decide (l = r) = false from decide_eq_false (fun e => hlen (by rw [e])))
    go_enter Tryd.func21, Tryd.ntmps21
    go_wp2
    go_ret
    exact ⟨by rw [HNO.out]; rfl, Below.refl _ _⟩

set_option maxRecDepth 100000 in
set_option maxHeartbeats 12800000 in
theorem dcut_any (A : Option Addr) (c : Nat) (l : List Int) (w : World) (hl : l.length ≤ 33554432) (h : OneB w A c l) (hH : Halves w) :
    Calls Tryd.prog 37 #[.slice A l.length c] w (CutB l w) := by
  obtain ⟨i0, hi, hz0, hz1, hz2⟩ := info_parts infoSl
  have hle := h.le
  have hcap := h.cap
  unfold maxLen at hcap
  have HB := Lib.hid h; have HH := Lib.hid hH
  clear h hH
  go_enter Tryd.func37, Tryd.ntmps37
  go_wp2_with fail
  go_loopw [2, 3, 4, 5, 6] (fun s2 s3 _ _ _ wr => ∃ (k at_ : Nat) (acc : List (List Int)) (cs : List (Option Addr × Nat)), s3 = .int .i64 (at_ : Int) ∧ at_ ≤ l.length ∧ acc.length * 8 ≤ at_ ∧ OwnRows wr w.heap.size s2 cs acc ∧ Fr.it l k = (at_, acc) ∧ Below w.heap.size w wr) (fun _ s3 _ _ _ _ => l.length - (intOf s3).toNat)
  case atStart => exact ⟨0, 0, [], [], rfl, Nat.zero_le _, Nat.zero_le _, OwnRows.nil _ _, rfl, Below.refl _ _⟩
  case round =>
    obtain ⟨k, at_, acc, cs, rfl, hat, hac, hown, hit, hbw⟩ := hrel
    have HOW := Lib.hid hown; have HIT := Lib.hid hit; have HBW := Lib.hid hbw
    clear hown hit hbw
    cases A with
    | none =>
      obtain ⟨hl0, hc0⟩ := HB.out.noA rfl
      obtain rfl : l = [] := List.eq_nil_of_length_eq_zero hl0
      subst hc0
      obtain rfl : at_ = 0 := by simpa using hat
      clear hl0
      obtain ⟨r, hr⟩ : ∃ r, Fr.opn (([] : List Int).drop 0) = r := ⟨_, rfl⟩
      have CO := Lib.hid (show Calls Tryd.prog 55 #[.slice none 0 0] wr (GivesOp r wr) from by rw [← hr]; exact dopen2_any none 0 ([] : List Int) wr (rfl) (OneB.nil wr) (HH.out.later HBW.out))
      have HR := Lib.hid hr
      have hbb := fun h => Fr.opn_bounds (l := ([] : List Int).drop 0) h
      rw [hr] at hbb
      have hbd : r.2.2 = 0 → ∃ n : Nat, r.2.1 = (n : Int) ∧ 8 ≤ n ∧ 0 + n ≤ ([] : List Int).length := fun h => by
        obtain ⟨n, h1, h2, h3⟩ := hbb h
        rw [List.length_drop] at h3
        exact ⟨n, h1, h2, by omega⟩
      clear hr hbb
      by_cases he : r.2.2 = 0
      · obtain ⟨n, hn, hn8, hnl⟩ := hbd he
        exfalso
        first | omega | (simp at hnl; omega)
      · have hd : (r.2.2 != 0) = true := bne_iff_ne.2 he
        have hst : Fr.Stop ([] : List Int) k := by
          unfold Fr.Stop
          rw [HIT.out]
          dsimp only
          rw [HR.out]
          exact he
        obtain ⟨p, k1, er⟩ := r
        simp only at hd
        have HST := Lib.hid hst
        clear he hst hbd
        go_wp2_with fail
        refine CO.out.mono ?_
        rintro e w1 ⟨v, rfl, ho, b1⟩
        have FIN := Lib.hid (fun (x : Value) (hx : OwnRows wr w.heap.size x cs acc) => (show CutB ([] : List Int) w (.returned (.tuple #[x, .int .i64 ((0 : Nat) : Int)])) w1 from ⟨_, cs, acc, 0, k, rfl, hx.later b1, HIT.out, HST.out, below_on HBW.out b1⟩))
        clear ho b1
        go_wp2
        go_ret2
        exact FIN.out _ HOW.out
    | some ad =>
      by_cases hca : c = at_
      · have hla : l.length ≤ at_ := by omega
        have hdr : l.drop at_ = [] := List.drop_of_length_le hla
        have HDR := Lib.hid hdr
        subst hca
        clear hdr
        obtain ⟨r, hr⟩ : ∃ r, Fr.opn (l.drop c) = r := ⟨_, rfl⟩
        have CO := Lib.hid (show Calls Tryd.prog 55 #[.slice (some ad) 0 0] wr (GivesOp r wr) from by rw [← hr]; exact (by rw [HDR.out]; exact dopen2_any (some ad) 0 ([] : List Int) wr (rfl) ⟨Nat.le_refl _, Nat.zero_le _, (fun h => by cases h), fun h => absurd rfl h, fun x hx => by cases hx⟩ (HH.out.later HBW.out)))
        have HR := Lib.hid hr
        have hbb := fun h => Fr.opn_bounds (l := l.drop c) h
        rw [hr] at hbb
        have hbd : r.2.2 = 0 → ∃ n : Nat, r.2.1 = (n : Int) ∧ 8 ≤ n ∧ c + n ≤ l.length := fun h => by
          obtain ⟨n, h1, h2, h3⟩ := hbb h
          rw [List.length_drop] at h3
          exact ⟨n, h1, h2, by omega⟩
        clear hr hbb
        by_cases he : r.2.2 = 0
        · obtain ⟨n, hn, hn8, hnl⟩ := hbd he
          exfalso
          first | omega | (simp at hnl; omega)
        · have hd : (r.2.2 != 0) = true := bne_iff_ne.2 he
          have hst : Fr.Stop l k := by
            unfold Fr.Stop
            rw [HIT.out]
            dsimp only
            rw [HR.out]
            exact he
          obtain ⟨p, k1, er⟩ := r
          simp only at hd
          have HST := Lib.hid hst
          clear he hst hbd
          go_wp2_with fail
          refine CO.out.mono ?_
          rintro e w1 ⟨v, rfl, ho, b1⟩
          have FIN := Lib.hid (fun (x : Value) (hx : OwnRows wr w.heap.size x cs acc) => (show CutB l w (.returned (.tuple #[x, .int .i64 ((c : Nat) : Int)])) w1 from ⟨_, cs, acc, c, k, rfl, hx.later b1, HIT.out, HST.out, below_on HBW.out b1⟩))
          clear ho b1
          go_wp2
          go_ret2
          exact FIN.out _ HOW.out
      · have hlt : at_ < c := by omega
        clear hca
        obtain ⟨r, hr⟩ : ∃ r, Fr.opn (l.drop at_) = r := ⟨_, rfl⟩
        have CO := Lib.hid (show Calls Tryd.prog 55 #[.slice (some (ad.add at_)) (l.length - at_) (c - at_)] wr (GivesOp r wr) from by rw [← hr]; exact dopen2_any (some (ad.add at_)) (c - at_) (l.drop at_) wr (by rw [List.length_drop]) ((HB.out.later HBW.out).rest hat) (HH.out.later HBW.out))
        have HR := Lib.hid hr
        have hbb := fun h => Fr.opn_bounds (l := l.drop at_) h
        rw [hr] at hbb
        have hbd : r.2.2 = 0 → ∃ n : Nat, r.2.1 = (n : Int) ∧ 8 ≤ n ∧ at_ + n ≤ l.length := fun h => by
          obtain ⟨n, h1, h2, h3⟩ := hbb h
          rw [List.length_drop] at h3
          exact ⟨n, h1, h2, by omega⟩
        clear hr hbb
        by_cases he : r.2.2 = 0
        · obtain ⟨n, hn, hn8, hnl⟩ := hbd he
          obtain ⟨p, k1, er⟩ := r
          simp only at he hn
          subst he hn
          have HNL := Lib.hid hnl
          have hsz0 := HBW.out.size
          have hal2 : acc.length + 1 ≤ 4194305 := by omega
          clear hbd
          go_wp2_with fail
          refine CO.out.mono ?_
          rintro e w1 ⟨v, rfl, ho, b1⟩
          have hopb : ∀ x ∈ p, isB x := Fr.opn_byte HB.out.byte HR.out
          have ho' : w1.ownsRow w.heap.size 5 1 v p.length (bCells p) := own_base ho (show w.heap.size ≤ wr.heap.size from hsz0)
          obtain ⟨X, cx, hv, -⟩ := own_form ho'
          rw [hv] at ho'
          subst hv
          have hrows := HOW.out.later b1
          have hb1 := below_on HBW.out b1
          have hsz1 := hb1.size
          have HO := Lib.hid ho'; have HRW := Lib.hid hrows; have HB1 := Lib.hid hb1; have HPB := Lib.hid hopb
          clear ho ho' hrows hopb b1 hb1
          go_wp2_with (at_builtin; refine wpList_append_lies _ rfl _ _ 35 rfl w.heap.size 25 i0 (.slice none 0 0) 1 24 Tryd.underlying35 hi hz0 hz1 hz2 rfl (by decide) _ acc.length (sliCells cs acc) rfl (HRW.out.row.alloc _) (some ⟨w1.heap.size, 0, none⟩) 1 1 (fun h => by cases h) [.slice X p.length cx] rfl rfl (fun _ => ⟨w1.heap.size, 0, rfl, fun j u hu => by rw [Nat.zero_add]; exact (Blk.new w1 25 #[.slice X p.length cx]).cell (by simpa using hu)⟩) (by intro u hu; simp at hu; subst hu; rfl) (by unfold maxLen; omega) (by omega) (by simp; omega) ?_)
          intro v2 w2 ho2 hg2 _
          have bn := below_new HB1.out (.cells #[.slice X p.length cx] 25)
          have b2 := bn.grown hg2 bn.size (fun k' hk' => own_ge (HRW.out.row.alloc (.cells #[.slice X p.length cx] 25)) k' hk')
          have rows2 := HRW.out.snoc HO.out HPB.out hg2 ho2
          have hstp : Fr.it l (k + 1) = (at_ + n, acc ++ [p]) := by
            show Fr.stp l (Fr.it l k) = _
            rw [HIT.out]
            unfold Fr.stp
            dsimp only
            rw [HR.out, if_pos rfl]
            rfl
          have hfin : (acc ++ [p]).length * 8 ≤ at_ + n := by
            rw [List.length_append, List.length_singleton]
            omega
          have R2 := Lib.hid rows2; have B2 := Lib.hid b2; have HS := Lib.hid hstp; have HFI := Lib.hid hfin
          clear ho2 hg2 b2 rows2 hstp bn hfin
          go_wp2_with fail
          go_roundw
          case rel => exact ⟨k + 1, at_ + n, acc ++ [p], cs ++ [(X, cx)], by first | rfl | (congr 1; omega), HNL.out, HFI.out, R2.out, HS.out, B2.out⟩
          case measure => simp [intOf]; omega
        · have hd : (r.2.2 != 0) = true := bne_iff_ne.2 he
          have hst : Fr.Stop l k := by
            unfold Fr.Stop
            rw [HIT.out]
            dsimp only
            rw [HR.out]
            exact he
          obtain ⟨p, k1, er⟩ := r
          simp only at hd
          have HST := Lib.hid hst
          clear he hst hbd
          go_wp2_with fail
          refine CO.out.mono ?_
          rintro e w1 ⟨v, rfl, ho, b1⟩
          have FIN := Lib.hid (fun (x : Value) (hx : OwnRows wr w.heap.size x cs acc) => (show CutB l w (.returned (.tuple #[x, .int .i64 ((at_ : Nat) : Int)])) w1 from ⟨_, cs, acc, at_, k, rfl, hx.later b1, HIT.out, HST.out, below_on HBW.out b1⟩))
          clear ho b1
          go_wp2
          go_ret2
          exact FIN.out _ HOW.out

set_option maxRecDepth 100000 in
set_option maxHeartbeats 12800000 in
theorem rcut_any (A : Option Addr) (c : Nat) (l : List Int) (w : World) (hl : l.length ≤ 33554432) (h : OneB w A c l) :
    Calls Tryd.prog 38 #[.slice A l.length c] w (CutB l w) := by
  obtain ⟨i0, hi, hz0, hz1, hz2⟩ := info_parts infoSl
  have hle := h.le
  have hcap := h.cap
  unfold maxLen at hcap
  have HB := Lib.hid h
  clear h
  go_enter Tryd.func38, Tryd.ntmps38
  go_wp2_with fail
  go_loopw [4, 5, 6, 7, 8] (fun s4 s5 _ _ _ wr => ∃ (k at_ : Nat) (acc : List (List Int)) (cs : List (Option Addr × Nat)), s5 = .int .i64 (at_ : Int) ∧ at_ ≤ l.length ∧ acc.length * 8 ≤ at_ ∧ OwnRows wr w.heap.size s4 cs acc ∧ Fr.it l k = (at_, acc) ∧ Below w.heap.size w wr) (fun _ s5 _ _ _ _ => l.length - (intOf s5).toNat)
  case atStart => exact ⟨0, 0, [], [], rfl, Nat.zero_le _, Nat.zero_le _, OwnRows.nil _ _, rfl, Below.refl _ _⟩
  case round =>
    obtain ⟨k, at_, acc, cs, rfl, hat, hac, hown, hit, hbw⟩ := hrel
    have HOW := Lib.hid hown; have HIT := Lib.hid hit; have HBW := Lib.hid hbw
    clear hown hit hbw
    cases A with
    | none =>
      obtain ⟨hl0, hc0⟩ := HB.out.noA rfl
      obtain rfl : l = [] := List.eq_nil_of_length_eq_zero hl0
      subst hc0
      obtain rfl : at_ = 0 := by simpa using hat
      clear hl0
      obtain ⟨r, hr⟩ : ∃ r, Fr.opn (([] : List Int).drop 0) = r := ⟨_, rfl⟩
      have CO := Lib.hid (show Calls Tryd.prog 56 #[.slice none 0 0] wr (GivesOp r wr) from by rw [← hr]; exact ropen2_any none 0 ([] : List Int) wr (rfl) (OneB.nil wr))
      have HR := Lib.hid hr
      have hbb := fun h => Fr.opn_bounds (l := ([] : List Int).drop 0) h
      rw [hr] at hbb
      have hbd : r.2.2 = 0 → ∃ n : Nat, r.2.1 = (n : Int) ∧ 8 ≤ n ∧ 0 + n ≤ ([] : List Int).length := fun h => by
        obtain ⟨n, h1, h2, h3⟩ := hbb h
        rw [List.length_drop] at h3
        exact ⟨n, h1, h2, by omega⟩
      clear hr hbb
      by_cases he : r.2.2 = 0
      · obtain ⟨n, hn, hn8, hnl⟩ := hbd he
        exfalso
        first | omega | (simp at hnl; omega)
      · have hd : (r.2.2 != 0) = true := bne_iff_ne.2 he
        have hst : Fr.Stop ([] : List Int) k := by
          unfold Fr.Stop
          rw [HIT.out]
          dsimp only
          rw [HR.out]
          exact he
        obtain ⟨p, k1, er⟩ := r
        simp only at hd
        have HST := Lib.hid hst
        clear he hst hbd
        go_wp2_with fail
        refine CO.out.mono ?_
        rintro e w1 ⟨v, rfl, ho, b1⟩
        have FIN := Lib.hid (fun (x : Value) (hx : OwnRows wr w.heap.size x cs acc) => (show CutB ([] : List Int) w (.returned (.tuple #[x, .int .i64 ((0 : Nat) : Int)])) w1 from ⟨_, cs, acc, 0, k, rfl, hx.later b1, HIT.out, HST.out, below_on HBW.out b1⟩))
        clear ho b1
        go_wp2
        go_ret2
        exact FIN.out _ HOW.out
    | some ad =>
      by_cases hca : c = at_
      · have hla : l.length ≤ at_ := by omega
        have hdr : l.drop at_ = [] := List.drop_of_length_le hla
        have HDR := Lib.hid hdr
        subst hca
        clear hdr
        obtain ⟨r, hr⟩ : ∃ r, Fr.opn (l.drop c) = r := ⟨_, rfl⟩
        have CO := Lib.hid (show Calls Tryd.prog 56 #[.slice (some ad) 0 0] wr (GivesOp r wr) from by rw [← hr]; exact (by rw [HDR.out]; exact ropen2_any (some ad) 0 ([] : List Int) wr (rfl) ⟨Nat.le_refl _, Nat.zero_le _, (fun h => by cases h), fun h => absurd rfl h, fun x hx => by cases hx⟩))
        have HR := Lib.hid hr
        have hbb := fun h => Fr.opn_bounds (l := l.drop c) h
        rw [hr] at hbb
        have hbd : r.2.2 = 0 → ∃ n : Nat, r.2.1 = (n : Int) ∧ 8 ≤ n ∧ c + n ≤ l.length := fun h => by
          obtain ⟨n, h1, h2, h3⟩ := hbb h
          rw [List.length_drop] at h3
          exact ⟨n, h1, h2, by omega⟩
        clear hr hbb
        by_cases he : r.2.2 = 0
        · obtain ⟨n, hn, hn8, hnl⟩ := hbd he
          exfalso
          first | omega | (simp at hnl; omega)
        · have hd : (r.2.2 != 0) = true := bne_iff_ne.2 he
          have hst : Fr.Stop l k := by
            unfold Fr.Stop
            rw [HIT.out]
            dsimp only
            rw [HR.out]
            exact he
          obtain ⟨p, k1, er⟩ := r
          simp only at hd
          have HST := Lib.hid hst
          clear he hst hbd
          go_wp2_with fail
          refine CO.out.mono ?_
          rintro e w1 ⟨v, rfl, ho, b1⟩
          have FIN := Lib.hid (fun (x : Value) (hx : OwnRows wr w.heap.size x cs acc) => (show CutB l w (.returned (.tuple #[x, .int .i64 ((c : Nat) : Int)])) w1 from ⟨_, cs, acc, c, k, rfl, hx.later b1, HIT.out, HST.out, below_on HBW.out b1⟩))
          clear ho b1
          go_wp2
          go_ret2
          exact FIN.out _ HOW.out
      · have hlt : at_ < c := by omega
        clear hca
        obtain ⟨r, hr⟩ : ∃ r, Fr.opn (l.drop at_) = r := ⟨_, rfl⟩
        have CO := Lib.hid (show Calls Tryd.prog 56 #[.slice (some (ad.add at_)) (l.length - at_) (c - at_)] wr (GivesOp r wr) from by rw [← hr]; exact ropen2_any (some (ad.add at_)) (c - at_) (l.drop at_) wr (by rw [List.length_drop]) ((HB.out.later HBW.out).rest hat))
        have HR := Lib.hid hr
        have hbb := fun h => Fr.opn_bounds (l := l.drop at_) h
        rw [hr] at hbb
        have hbd : r.2.2 = 0 → ∃ n : Nat, r.2.1 = (n : Int) ∧ 8 ≤ n ∧ at_ + n ≤ l.length := fun h => by
          obtain ⟨n, h1, h2, h3⟩ := hbb h
          rw [List.length_drop] at h3
          exact ⟨n, h1, h2, by omega⟩
        clear hr hbb
        by_cases he : r.2.2 = 0
        · obtain ⟨n, hn, hn8, hnl⟩ := hbd he
          obtain ⟨p, k1, er⟩ := r
          simp only at he hn
          subst he hn
          have HNL := Lib.hid hnl
          have hsz0 := HBW.out.size
          have hal2 : acc.length + 1 ≤ 4194305 := by omega
          clear hbd
          go_wp2_with fail
          refine CO.out.mono ?_
          rintro e w1 ⟨v, rfl, ho, b1⟩
          have hopb : ∀ x ∈ p, isB x := Fr.opn_byte HB.out.byte HR.out
          have ho' : w1.ownsRow w.heap.size 5 1 v p.length (bCells p) := own_base ho (show w.heap.size ≤ wr.heap.size from hsz0)
          obtain ⟨X, cx, hv, -⟩ := own_form ho'
          rw [hv] at ho'
          subst hv
          have hrows := HOW.out.later b1
          have hb1 := below_on HBW.out b1
          have hsz1 := hb1.size
          have HO := Lib.hid ho'; have HRW := Lib.hid hrows; have HB1 := Lib.hid hb1; have HPB := Lib.hid hopb
          clear ho ho' hrows hopb b1 hb1
          go_wp2_with (at_builtin; refine wpList_append_lies _ rfl _ _ 35 rfl w.heap.size 25 i0 (.slice none 0 0) 1 24 Tryd.underlying35 hi hz0 hz1 hz2 rfl (by decide) _ acc.length (sliCells cs acc) rfl (HRW.out.row.alloc _) (some ⟨w1.heap.size, 0, none⟩) 1 1 (fun h => by cases h) [.slice X p.length cx] rfl rfl (fun _ => ⟨w1.heap.size, 0, rfl, fun j u hu => by rw [Nat.zero_add]; exact (Blk.new w1 25 #[.slice X p.length cx]).cell (by simpa using hu)⟩) (by intro u hu; simp at hu; subst hu; rfl) (by unfold maxLen; omega) (by omega) (by simp; omega) ?_)
          intro v2 w2 ho2 hg2 _
          have bn := below_new HB1.out (.cells #[.slice X p.length cx] 25)
          have b2 := bn.grown hg2 bn.size (fun k' hk' => own_ge (HRW.out.row.alloc (.cells #[.slice X p.length cx] 25)) k' hk')
          have rows2 := HRW.out.snoc HO.out HPB.out hg2 ho2
          have hstp : Fr.it l (k + 1) = (at_ + n, acc ++ [p]) := by
            show Fr.stp l (Fr.it l k) = _
            rw [HIT.out]
            unfold Fr.stp
            dsimp only
            rw [HR.out, if_pos rfl]
            rfl
          have hfin : (acc ++ [p]).length * 8 ≤ at_ + n := by
            rw [List.length_append, List.length_singleton]
            omega
          have R2 := Lib.hid rows2; have B2 := Lib.hid b2; have HS := Lib.hid hstp; have HFI := Lib.hid hfin
          clear ho2 hg2 b2 rows2 hstp bn hfin
          go_wp2_with fail
          go_roundw
          case rel => exact ⟨k + 1, at_ + n, acc ++ [p], cs ++ [(X, cx)], by first | rfl | (congr 1; omega), HNL.out, HFI.out, R2.out, HS.out, B2.out⟩
          case measure => simp [intOf]; omega
        · have hd : (r.2.2 != 0) = true := bne_iff_ne.2 he
          have hst : Fr.Stop l k := by
            unfold Fr.Stop
            rw [HIT.out]
            dsimp only
            rw [HR.out]
            exact he
          obtain ⟨p, k1, er⟩ := r
          simp only at hd
          have HST := Lib.hid hst
          clear he hst hbd
          go_wp2_with fail
          refine CO.out.mono ?_
          rintro e w1 ⟨v, rfl, ho, b1⟩
          have FIN := Lib.hid (fun (x : Value) (hx : OwnRows wr w.heap.size x cs acc) => (show CutB l w (.returned (.tuple #[x, .int .i64 ((at_ : Nat) : Int)])) w1 from ⟨_, cs, acc, at_, k, rfl, hx.later b1, HIT.out, HST.out, below_on HBW.out b1⟩))
          clear ho b1
          go_wp2
          go_ret2
          exact FIN.out _ HOW.out

end Go.Proofs.YtkhggofcbdcliaaDoor
