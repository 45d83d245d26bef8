/-
  What frame's Open and Whole, and telltaleref07's, answer.
-/
import Derived.Test.YtobgbaejdamecaaDoorFrOpen
namespace Go.Proofs.YtobgbaejdamecaaDoor
open Go.RowKit

/-- A payload, a size and an error are answered, the payload in memory of the call's own. -/
def GivesO (r : List Int × Int × Int) (w : World) (e : Ending) (w' : World) : Prop :=
  ∃ v, e = .returned (.tuple #[v, .int .i64 r.2.1, .int .i64 r.2.2]) ∧ w'.ownsRow w.heap.size 5 1 v r.1.length (bCells r.1) ∧ Below w.heap.size w w'
theorem Fr.err0_ok {l : List Int} (h : Fr.err0 l = 0) : 8 + Fr.num4 l ≤ l.length ∧ Fr.num4 l ≤ 1048576 := by
  unfold Fr.err0 at h
  split at h
  · cases h
  split at h
  · cases h
  split at h
  · cases h
  omega
theorem Fr.opn_is {l : List Int} (h : Fr.err0 l = 0) : Fr.opn l = if Fr.sum ((l.take (8 + Fr.num4 l)).take 4 ++ (l.take (8 + Fr.num4 l)).drop 8) = Fr.num4 ((l.take (8 + Fr.num4 l)).drop 4) then ((l.take (8 + Fr.num4 l)).drop 8, ((8 + Fr.num4 l : Nat) : Int), 0) else ([], 0, 6) := by
  have h1 : (l.take (8 + Fr.num4 l)).take 4 = l.take 4 := by rw [List.take_take]; congr 1; omega
  have h2 : Fr.num4 ((l.take (8 + Fr.num4 l)).drop 4) = Fr.num4 (l.drop 4) := by
    rw [List.drop_take, Fr.num4_take (by omega)]
  unfold Fr.opn
  rw [if_pos h, h1, h2]
theorem Fr.opn_no {l : List Int} (h : Fr.err0 l ≠ 0) : Fr.opn l = ([], 0, Fr.err0 l) := by unfold Fr.opn; rw [if_neg h]
theorem dpay2_any (A : Option Addr) (c n : Nat) (l : List Int) (w : World) (hn : l.length = n) (h : OneB w A c l) (h8 : 8 ≤ n) (hl : n ≤ 140737488355328) (hH : Halves w) : Calls Tryd.prog 28 #[.slice A n c] w (PayB l w) := by
  subst hn
  exact dpay_any A c l w h h8 hl hH
/-- The two ways of a payload. -/
theorem pay_ways {l : List Int} {w : World} {e : Ending} {w' : World} (h : PayB l w e w') : (Fr.sum (l.take 4 ++ l.drop 8) = Fr.num4 (l.drop 4) ∧ GivesBE (l.drop 8) 0 w e w') ∨ (¬ Fr.sum (l.take 4 ++ l.drop 8) = Fr.num4 (l.drop 4) ∧ GivesBE [] 6 w e w') := by
  unfold PayB at h
  split at h
  · rename_i hs
    exact .inl ⟨hs, h⟩
  · rename_i hs
    exact .inr ⟨hs, h⟩

set_option maxRecDepth 100000 in
set_option maxHeartbeats 3200000 in
theorem dopen_any (A : Option Addr) (c : Nat) (l : List Int) (w : World) (h : OneB w A c l) (hH : Halves w) :
    Calls Tryd.prog 16 #[.slice A l.length c] w (GivesO (Fr.opn l) w) := by
  have N1 := dsize_any A c l w h
  by_cases he : Fr.err0 l = 0
  · obtain ⟨hn, hm⟩ := Fr.err0_ok he
    have ho := Fr.opn_is he
    unfold Fr.szn at N1
    rw [if_pos he, he] at N1
    have hle := h.le
    have hcap := h.cap
    unfold maxLen at hcap
    obtain ⟨b, off, rfl, -⟩ := h.at (by intro e; rw [e] at hn; simp at hn)
    have hf := h.head (8 + Fr.num4 l)
    have hfl : (l.take (8 + Fr.num4 l)).length = 8 + Fr.num4 l := by rw [List.length_take]; omega
    obtain ⟨f, hfe⟩ : ∃ f, l.take (8 + Fr.num4 l) = f := ⟨_, rfl⟩
    rw [hfe] at hf hfl ho
    obtain ⟨n, hne⟩ : ∃ n, 8 + Fr.num4 l = n := ⟨_, rfl⟩
    rw [hne] at hn hfl ho N1
    rw [ho]
    have N2 := Lib.hid (fun wx (hx : OneB wx (some ⟨b, off, none⟩) c f) (hh : Halves wx) => dpay2_any (some ⟨b, off, none⟩) c n f wx hfl hx (by omega) (by omega) hh)
    have N1 := Lib.hid N1; have HF := Lib.hid hf; have HH := Lib.hid hH
    have h8 : 8 ≤ n := by omega
    have hi0 : (0 : Int) ≤ (n : Int) := by omega
    have hi1 : (n : Int) ≤ (c : Int) := by omega
    obtain ⟨P, hP⟩ : ∃ P, (if Fr.sum (f.take 4 ++ f.drop 8) = Fr.num4 (f.drop 4) then (f.drop 8, ((n : Nat) : Int), (0 : Int)) else ([], 0, 6)) = P := ⟨_, rfl⟩
    rw [hP]
    have HP := Lib.hid hP
    clear h hH he ho hf hfe hne hfl hm hP
    go_enter Tryd.func16, Tryd.ntmps16
    go_wp2_with fail
    refine N1.out.mono ?_
    rintro e w1 ⟨rfl, b1⟩
    go_wp2_with fail
    refine (N2.out w1 (HF.out.later b1) (HH.out.later b1)).mono ?_
    intro e w2 hp
    rcases pay_ways hp with ⟨hs, v, rfl, ho, b2⟩ | ⟨hs, v, rfl, ho, b2⟩
    · have hPe : P = (f.drop 8, ((n : Nat) : Int), 0) := by rw [← HP.out, if_pos hs]
      have HO := Lib.hid (own_base ho (show w.heap.size ≤ w1.heap.size from b1.size)); have BB := Lib.hid (below_on b1 b2)
      have HPE := Lib.hid hPe
      clear hp ho hs hPe b2
      go_wp2
      go_ret3
      rw [HPE.out]
      exact ⟨_, rfl, HO.out, BB.out⟩
    · have hPe : P = ([], 0, 6) := by rw [← HP.out, if_neg hs]
      have BB := Lib.hid (below_on b1 b2)
      have HPE := Lib.hid hPe
      clear hp ho hs hPe b2
      go_wp2
      go_ret3
      rw [HPE.out]
      exact ⟨_, rfl, none_own _ _, BB.out⟩
  · rw [Fr.opn_no he]
    unfold Fr.szn at N1
    rw [if_neg he] at N1
    obtain ⟨er, her⟩ : ∃ er, Fr.err0 l = er := ⟨_, rfl⟩
    rw [her] at N1 he ⊢
    have hd : (er != 0) = true := bne_iff_ne.2 he
    have N1 := Lib.hid N1
    have hll := h.len
    clear h hH he her
    go_enter Tryd.func16, Tryd.ntmps16
    go_wp2_with fail
    refine N1.out.mono ?_
    rintro e w1 ⟨rfl, b1⟩
    go_wp2
    go_ret3
    exact ⟨_, rfl, none_own _ _, b1⟩

set_option maxRecDepth 100000 in
set_option maxHeartbeats 3200000 in
theorem dwhole_any (A : Option Addr) (c : Nat) (l : List Int) (w : World) (h : OneB w A c l) (hl : l.length ≤ 140737488355328) (hH : Halves w) :
    Calls Tryd.prog 18 #[.slice A l.length c] w (GivesBE (Fr.whl l).1 (Fr.whl l).2 w) := by
  have N1 := dsize_any A c l w h
  by_cases he : Fr.err0 l = 0
  · obtain ⟨hn, hm⟩ := Fr.err0_ok he
    have ho := Fr.opn_is he
    unfold Fr.szn at N1
    rw [if_pos he, he] at N1
    have N2 := fun wx (hx : OneB wx A c l) (hh : Halves wx) => dpay_any A c l wx hx (by omega) hl hh
    by_cases hlt : 8 + Fr.num4 l < l.length
    · have hw : Fr.whl l = ([], 4) := by unfold Fr.whl; rw [if_pos he, if_pos hlt]
      rw [hw]
      obtain ⟨n, hne⟩ : ∃ n, 8 + Fr.num4 l = n := ⟨_, rfl⟩
      rw [hne] at hlt N1
      have hd : decide ((n : Int) < (l.length : Int)) = true := decide_eq_true (by omega)
      have N1 := Lib.hid N1
      clear h hH he hm ho hn hw N2 hne
      go_enter Tryd.func18, Tryd.ntmps18
      go_wp2_with fail
      refine N1.out.mono ?_
      rintro e w1 ⟨rfl, b1⟩
      go_wp2
      go_ret2
      exact ⟨_, rfl, none_own _ _, b1⟩
    · have hnl : 8 + Fr.num4 l = l.length := by omega
      rw [hnl, List.take_of_length_le (Nat.le_refl _)] at ho
      have hw : Fr.whl l = ((Fr.opn l).1, (Fr.opn l).2.2) := by unfold Fr.whl; rw [if_pos he, if_neg hlt]
      rw [hw, ho]
      rw [hnl] at N1
      have hd : decide ((l.length : Int) < (l.length : Int)) = false := decide_eq_false (by omega)
      obtain ⟨P, hP⟩ : ∃ P, (if Fr.sum (l.take 4 ++ l.drop 8) = Fr.num4 (l.drop 4) then (l.drop 8, ((l.length : Nat) : Int), (0 : Int)) else ([], 0, 6)) = P := ⟨_, rfl⟩
      rw [hP]
      have N1 := Lib.hid N1; have N2 := Lib.hid N2; have HP := Lib.hid hP; have HB := Lib.hid h; have HH := Lib.hid hH
      clear h hH he hm ho hn hw hP hnl hlt
      go_enter Tryd.func18, Tryd.ntmps18
      go_wp2_with fail
      refine N1.out.mono ?_
      rintro e w1 ⟨rfl, b1⟩
      go_wp2_with fail
      refine (N2.out w1 (HB.out.later b1) (HH.out.later b1)).mono ?_
      intro e w2 hp
      rcases pay_ways hp with ⟨hs, v, rfl, ho, b2⟩ | ⟨hs, v, rfl, ho, b2⟩
      · have hPe : P = (l.drop 8, ((l.length : Nat) : Int), 0) := by rw [← HP.out, if_pos hs]
        have HO := Lib.hid (own_base ho (show w.heap.size ≤ w1.heap.size from b1.size)); have BB := Lib.hid (below_on b1 b2)
        have HPE := Lib.hid hPe
        clear hp ho hs hPe b2
        go_wp2
        go_ret2
        rw [HPE.out]
        exact ⟨_, rfl, HO.out, BB.out⟩
      · have hPe : P = ([], 0, 6) := by rw [← HP.out, if_neg hs]
        have HO := Lib.hid (own_base ho (show w.heap.size ≤ w1.heap.size from b1.size)); have BB := Lib.hid (below_on b1 b2)
        have HPE := Lib.hid hPe
        clear hp ho hs hPe b2
        go_wp2
        go_ret2
        rw [HPE.out]
        exact ⟨_, rfl, HO.out, BB.out⟩
  · have hw : Fr.whl l = ([], Fr.err0 l) := by unfold Fr.whl; rw [if_neg he]
    rw [hw]
    unfold Fr.szn at N1
    rw [if_neg he] at N1
    obtain ⟨er, her⟩ : ∃ er, Fr.err0 l = er := ⟨_, rfl⟩
    rw [her] at N1 he ⊢
    have hd : (er != 0) = true := bne_iff_ne.2 he
    have N1 := Lib.hid N1
    have hll := h.len
    clear h hH he her hw
    go_enter Tryd.func18, Tryd.ntmps18
    go_wp2_with fail
    refine N1.out.mono ?_
    rintro e w1 ⟨rfl, b1⟩
    go_wp2
    go_ret2
    exact ⟨_, rfl, none_own _ _, b1⟩
end Go.Proofs.YtobgbaejdamecaaDoor
