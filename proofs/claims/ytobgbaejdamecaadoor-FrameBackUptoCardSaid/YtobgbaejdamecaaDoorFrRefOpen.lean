/-
  What telltaleref07's Open and Whole answer.
-/
import Derived.Test.YtobgbaejdamecaaDoorFrTop
namespace Go.Proofs.YtobgbaejdamecaaDoor
open Go.RowKit

theorem bcopy2_any (A : Option Addr) (c n : Nat) (l : List Int) (w : World) (hn : l.length = n) (hl : n ≤ 140737488355328) (h : OneB w A c l) : Calls Tryd.prog 10 #[.slice A n c] w (GivesB l w) := by
  subst hn
  exact bcopy_any A c l w hl h
theorem bsame2_any (A B : Option Addr) (c d n m : Nat) (l r : List Int) (w : World) (hn : l.length = n) (hm : r.length = m) (h1 : OneB w A c l) (h2 : OneB w B d r) : Calls Tryd.prog 15 #[.slice A n c, .slice B m d] w (fun e w' => e = .returned (.bool (decide (l = r))) ∧ Below w.heap.size w w') := by
  subst hn hm
  exact bsame_any A B c d l r w h1 h2

set_option maxRecDepth 100000 in
set_option maxHeartbeats 6400000 in
theorem ropen_any (A : Option Addr) (c : Nat) (l : List Int) (w : World) (h : OneB w A c l) :
    Calls Tryd.prog 17 #[.slice A l.length c] w (GivesO (Fr.opn l) w) := by
  have hll := h.len
  by_cases h8 : l.length < 8
  · have e0 : Fr.err0 l = 5 := by unfold Fr.err0; rw [if_pos h8]
    rw [Fr.opn_no (by rw [e0]; decide), e0]
    have hd : decide ((l.length : Int) < 8) = true := decide_eq_true (by omega)
    clear h e0 h8
    go_enter Tryd.func17, Tryd.ntmps17
    go_wp2
    go_ret3
    exact ⟨_, rfl, none_own _ _, Below.refl _ _⟩
  have hd8 : decide ((l.length : Int) < 8) = false := decide_eq_false (by omega)
  have hlt := Fr.num4_lt h.byte
  have N1 := Lib.hid (fun wx (hx : OneB wx A c l) => rlen_any A c l wx hx (by omega))
  have HB := Lib.hid h
  have e0 : Fr.err0 l = if 1048576 < Fr.num4 l then 4 else if l.length < 8 + Fr.num4 l then 5 else 0 := by unfold Fr.err0; rw [if_neg h8]
  by_cases h1 : 1048576 < Fr.num4 l
  · rw [if_pos h1] at e0
    rw [Fr.opn_no (by rw [e0]; decide), e0]
    obtain ⟨m, hm⟩ : ∃ m, Fr.num4 l = m := ⟨_, rfl⟩
    rw [hm] at h1 hlt N1
    have hd1 : decide ((1048576 : Int) < (m : Int)) = true := decide_eq_true (by omega)
    clear h e0 h8 hm
    go_enter Tryd.func17, Tryd.ntmps17
    go_wp2_with fail
    refine (N1.out w HB.out).mono ?_
    rintro e w1 ⟨rfl, b1⟩
    go_wp2
    go_ret3
    exact ⟨_, rfl, none_own _ _, b1⟩
  rw [if_neg h1] at e0
  by_cases h2 : l.length < 8 + Fr.num4 l
  · rw [if_pos h2] at e0
    rw [Fr.opn_no (by rw [e0]; decide), e0]
    obtain ⟨m, hm⟩ : ∃ m, Fr.num4 l = m := ⟨_, rfl⟩
    rw [hm] at h1 h2 hlt N1
    have hd1 : decide ((1048576 : Int) < (m : Int)) = false := decide_eq_false (by omega)
    have hd2 : decide ((l.length : Int) - 8 < (m : Int)) = true := decide_eq_true (by omega)
    clear h e0 h8 hm
    go_enter Tryd.func17, Tryd.ntmps17
    go_wp2_with fail
    refine (N1.out w HB.out).mono ?_
    rintro e w1 ⟨rfl, b1⟩
    go_wp2
    go_ret3
    exact ⟨_, rfl, none_own _ _, b1⟩
  rw [if_neg h2] at e0
  have ho := Fr.opn_is e0
  have hle := h.le
  have hcap := h.cap
  unfold maxLen at hcap
  obtain ⟨b, off, rfl, -⟩ := h.at (by intro e; rw [e] at h8; simp at h8)
  have hf := h.head (8 + Fr.num4 l)
  have hfl : (l.take (8 + Fr.num4 l)).length = 8 + Fr.num4 l := by rw [List.length_take]; omega
  have hfn : Fr.num4 (l.take (8 + Fr.num4 l)) = Fr.num4 l := Fr.num4_take (by omega)
  have hiff := Fr.seal_iff hfl hfn hf.byte
  have hdp : (l.take (8 + Fr.num4 l)).drop 8 = (l.drop 8).take (Fr.num4 l) := by rw [List.drop_take]; congr 1; omega
  have hpl : ((l.take (8 + Fr.num4 l)).drop 8).length = Fr.num4 l := by rw [List.length_drop]; omega
  obtain ⟨m, hm⟩ : ∃ m, Fr.num4 l = m := ⟨_, rfl⟩
  rw [hm] at h1 h2 hlt N1 hf hfl hiff hdp hpl ho
  obtain ⟨f, hfe⟩ : ∃ f, l.take (8 + m) = f := ⟨_, rfl⟩
  rw [hfe] at hf hfl hiff hdp hpl ho
  obtain ⟨p, hpe⟩ : ∃ p, f.drop 8 = p := ⟨_, rfl⟩
  rw [hpe] at hiff hdp hpl ho
  have hpb : ∀ x ∈ p, isB x := fun x hx => hf.byte x (List.mem_of_mem_drop (by rw [hpe]; exact hx))
  have hse : Fr.sealed p = (Fr.frm p, 0) := by unfold Fr.sealed; rw [if_pos (by omega)]
  have hd1 : decide ((1048576 : Int) < (m : Int)) = false := decide_eq_false (by omega)
  have hd2 : decide ((l.length : Int) - 8 < (m : Int)) = false := decide_eq_false (by omega)
  obtain ⟨P, hP⟩ : ∃ P, (if Fr.sum (f.take 4 ++ p) = Fr.num4 (f.drop 4) then (p, ((8 + m : Nat) : Int), (0 : Int)) else ([], 0, 6)) = P := ⟨_, rfl⟩
  rw [ho, hP]
  have hi0 : (0 : Int) ≤ 8 + (m : Int) := by omega
  have hi1 : 8 + (m : Int) ≤ (c : Int) := by omega
  have hi2 : (8 : Int) ≤ 8 + (m : Int) := by omega
  have HF := Lib.hid hf; have HFL := Lib.hid hfl; have HIFF := Lib.hid hiff; have HPB := Lib.hid hpb; have HSE := Lib.hid hse; have HPP := Lib.hid hP; have HFB := Lib.hid (Fr.seal_byte hpb); have HPL := Lib.hid hpl
  by_cases hc : c = 8
  · have hm0 : m = 0 := by omega
    subst hc
    subst hm0
    have hp0 : p = [] := List.eq_nil_of_length_eq_zero hpl
    have HP := Lib.hid (show OneB w (some ⟨b, off, none⟩) 0 p from by rw [hp0]; exact ⟨Nat.le_refl _, Nat.zero_le _, (fun h => by cases h), fun h => absurd rfl h, fun x hx => by cases hx⟩)
    have NC := Lib.hid (fun wx (hx : OneB wx (some ⟨b, off, none⟩) 0 p) => bcopy2_any (some ⟨b, off, none⟩) 0 0 p wx HPL.out (by omega) hx)
    clear h e0 ho hf hfl hfn hiff hpl hm hfe hpe hpb hse hP hdp hp0 h8
    go_enter Tryd.func17, Tryd.ntmps17
    go_wp2_with fail
    refine (N1.out w HB.out).mono ?_
    rintro e w1 ⟨rfl, b1⟩
    go_wp2_with fail
    refine (NC.out w1 (HP.out.later b1)).mono ?_
    rintro e w2 ⟨v2, rfl, ho2, b2⟩
    obtain ⟨A2, c2, rfl, hO2⟩ := OneB.of_own ho2 HPB.out
    have NS := Lib.hid (rseal_any A2 c2 p w2 hO2)
    rw [HSE.out] at NS
    have HO2 := Lib.hid ho2
    have bb2 := below_on b1 b2
    clear hO2 ho2
    go_wp2_with fail
    refine NS.out.mono ?_
    rintro e w3 ⟨v3, rfl, ho3, b3⟩
    obtain ⟨A3, c3, rfl, hO3⟩ := OneB.of_own ho3 HFB.out
    have bb3 := below_on bb2 b3
    have NM := bsame2_any A3 (some ⟨b, off, none⟩) c3 8 (Fr.frm p).length 8 (Fr.frm p) f w3 rfl HFL.out hO3 (HF.out.later bb3)
    have HO23 := Lib.hid (own_base (own_later HO2.out b3) (show w.heap.size ≤ w1.heap.size from b1.size))
    by_cases hs : Fr.frm p = f
    · rw [decide_eq_true hs] at NM
      have NM2 := Lib.hid NM
      have hPe : P = (p, ((8 + 0 : Nat) : Int), 0) := by rw [← HPP.out, if_pos (HIFF.out.1 hs)]
      have HPE := Lib.hid hPe
      clear NM hs hPe hO3 ho3
      go_wp2_with fail
      refine NM2.out.mono ?_
      rintro e w4 ⟨rfl, b4⟩
      have HO24 := Lib.hid (own_later HO23.out b4)
      go_wp2
      go_ret3
      rw [HPE.out]
      exact ⟨_, rfl, HO24.out, below_on bb3 b4⟩
    · rw [decide_eq_false hs] at NM
      have NM2 := Lib.hid NM
      have hPe : P = ([], 0, 6) := by rw [← HPP.out, if_neg (fun h => hs (HIFF.out.2 h))]
      have HPE := Lib.hid hPe
      clear NM hs hPe hO3 ho3
      go_wp2_with fail
      refine NM2.out.mono ?_
      rintro e w4 ⟨rfl, b4⟩
      go_wp2
      go_ret3
      rw [HPE.out]
      exact ⟨_, rfl, none_own _ _, below_on bb3 b4⟩
  · have hc8 : 8 < c := by omega
    have HP := Lib.hid (show OneB w (some ⟨b, off + 8, none⟩) (c - 8) p from by rw [hdp]; exact (h.rest (a := 8) (by omega)).head m)
    have NC := Lib.hid (fun wx (hx : OneB wx (some ⟨b, off + 8, none⟩) (c - 8) p) => bcopy2_any (some ⟨b, off + 8, none⟩) (c - 8) m p wx HPL.out (by omega) hx)
    clear h e0 ho hf hfl hfn hiff hpl hm hfe hpe hpb hse hP hdp h8
    go_enter Tryd.func17, Tryd.ntmps17
    go_wp2_with fail
    refine (N1.out w HB.out).mono ?_
    rintro e w1 ⟨rfl, b1⟩
    go_wp2_with fail
    refine (NC.out w1 (HP.out.later b1)).mono ?_
    rintro e w2 ⟨v2, rfl, ho2, b2⟩
    obtain ⟨A2, c2, rfl, hO2⟩ := OneB.of_own ho2 HPB.out
    have NS := Lib.hid (rseal_any A2 c2 p w2 hO2)
    rw [HSE.out] at NS
    have HO2 := Lib.hid ho2
    have bb2 := below_on b1 b2
    clear hO2 ho2
    go_wp2_with fail
    refine NS.out.mono ?_
    rintro e w3 ⟨v3, rfl, ho3, b3⟩
    obtain ⟨A3, c3, rfl, hO3⟩ := OneB.of_own ho3 HFB.out
    have bb3 := below_on bb2 b3
    have NM := bsame2_any A3 (some ⟨b, off, none⟩) c3 c (Fr.frm p).length (8 + m) (Fr.frm p) f w3 rfl HFL.out hO3 (HF.out.later bb3)
    have HO23 := Lib.hid (own_base (own_later HO2.out b3) (show w.heap.size ≤ w1.heap.size from b1.size))
    by_cases hs : Fr.frm p = f
    · rw [decide_eq_true hs] at NM
      have NM2 := Lib.hid NM
      have hPe : P = (p, ((8 + m : Nat) : Int), 0) := by rw [← HPP.out, if_pos (HIFF.out.1 hs)]
      have HPE := Lib.hid hPe
      clear NM hs hPe hO3 ho3
      go_wp2_with fail
      refine NM2.out.mono ?_
      rintro e w4 ⟨rfl, b4⟩
      have HO24 := Lib.hid (own_later HO23.out b4)
      go_wp2
      go_ret3
      rw [HPE.out]
      exact ⟨_, rfl, HO24.out, below_on bb3 b4⟩
    · rw [decide_eq_false hs] at NM
      have NM2 := Lib.hid NM
      have hPe : P = ([], 0, 6) := by rw [← HPP.out, if_neg (fun h => hs (HIFF.out.2 h))]
      have HPE := Lib.hid hPe
      clear NM hs hPe hO3 ho3
      go_wp2_with fail
      refine NM2.out.mono ?_
      rintro e w4 ⟨rfl, b4⟩
      go_wp2
      go_ret3
      rw [HPE.out]
      exact ⟨_, rfl, none_own _ _, below_on bb3 b4⟩

theorem Fr.whl_is (l : List Int) : Fr.whl l = if 8 ≤ l.length ∧ 8 + Fr.num4 l < l.length then ([], 4) else ((Fr.opn l).1, (Fr.opn l).2.2) := by
  unfold Fr.whl
  by_cases he : Fr.err0 l = 0
  · rw [if_pos he]
    by_cases hlt : 8 + Fr.num4 l < l.length
    · rw [if_pos hlt, if_pos ⟨by omega, hlt⟩]
    · rw [if_neg hlt, if_neg (fun h => hlt h.2)]
  · rw [if_neg he, Fr.opn_no he]
    by_cases hlt : 8 ≤ l.length ∧ 8 + Fr.num4 l < l.length
    · have e4 : Fr.err0 l = 4 := by
        unfold Fr.err0 at he ⊢
        rw [if_neg (by omega)] at he ⊢
        by_cases h1 : 1048576 < Fr.num4 l
        · rw [if_pos h1]
        · rw [if_neg h1, if_neg (by omega)] at he
          exact absurd rfl he
      rw [if_pos hlt, e4]
    · rw [if_neg hlt]

set_option maxRecDepth 100000 in
set_option maxHeartbeats 3200000 in
theorem rwhole_any (A : Option Addr) (c : Nat) (l : List Int) (w : World) (h : OneB w A c l) :
    Calls Tryd.prog 19 #[.slice A l.length c] w (GivesBE (Fr.whl l).1 (Fr.whl l).2 w) := by
  have hll := h.len
  rw [Fr.whl_is]
  have NO := Lib.hid (fun wx (hx : OneB wx A c l) => ropen_any A c l wx hx)
  have HB := Lib.hid h
  by_cases h8 : 8 ≤ l.length
  · have hd8 : decide ((8 : Int) ≤ (l.length : Int)) = true := decide_eq_true (by omega)
    have hlt := Fr.num4_lt h.byte
    have N1 := fun wx (hx : OneB wx A c l) => rlen_any A c l wx hx (by omega)
    obtain ⟨m, hm⟩ : ∃ m, Fr.num4 l = m := ⟨_, rfl⟩
    rw [hm] at hlt N1 ⊢
    have N1 := Lib.hid N1
    by_cases h2 : 8 + m < l.length
    · rw [if_pos ⟨h8, h2⟩]
      have hd2 : decide ((m : Int) < (l.length : Int) - 8) = true := decide_eq_true (by omega)
      clear h hm
      go_enter Tryd.func19, Tryd.ntmps19
      go_wp2_with fail
      refine (N1.out w HB.out).mono ?_
      rintro e w1 ⟨rfl, b1⟩
      go_wp2
      go_ret2
      exact ⟨_, rfl, none_own _ _, b1⟩
    · rw [if_neg (fun h => h2 h.2)]
      have hd2 : decide ((m : Int) < (l.length : Int) - 8) = false := decide_eq_false (by omega)
      obtain ⟨P, hP⟩ : ∃ P, Fr.opn l = P := ⟨_, rfl⟩
      rw [hP] at NO ⊢
      clear h hm hP
      go_enter Tryd.func19, Tryd.ntmps19
      go_wp2_with fail
      refine (N1.out w HB.out).mono ?_
      rintro e w1 ⟨rfl, b1⟩
      go_wp2_with fail
      refine (NO.out w1 (HB.out.later b1)).mono ?_
      rintro e w2 ⟨v, rfl, ho, b2⟩
      have HO := Lib.hid (own_base ho (show w.heap.size ≤ w1.heap.size from b1.size)); have BB := Lib.hid (below_on b1 b2)
      clear ho b2
      go_wp2
      go_ret2
      exact ⟨_, rfl, HO.out, BB.out⟩
  · rw [if_neg (fun h => h8 h.1)]
    have hd8 : decide ((8 : Int) ≤ (l.length : Int)) = false := decide_eq_false (by omega)
    obtain ⟨P, hP⟩ : ∃ P, Fr.opn l = P := ⟨_, rfl⟩
    rw [hP] at NO ⊢
    clear h hP
    go_enter Tryd.func19, Tryd.ntmps19
    go_wp2_with fail
    refine (NO.out w HB.out).mono ?_
    rintro e w2 ⟨v, rfl, ho, b2⟩
    have HO := Lib.hid ho
    clear ho
    go_wp2
    go_ret2
    exact ⟨_, rfl, HO.out, b2⟩
end Go.Proofs.YtobgbaejdamecaaDoor
