/-
  Plain mathematics of version vectors, part 2: the counts of a vector made of counts, joins and meets of two and of one, what covers what. Nothing of the program is imported.
-/
import Derived.Test.YtmccednfaemiaaaMany
namespace Go.Proofs.Ytmccednfaemiaaa
namespace Ve

theorem ofTo_mem (f : Nat → Int) : ∀ k (s : Int × Int), s ∈ ofTo f k → ∃ n : Nat, n < k ∧ s = (f n, (n : Int)) ∧ 0 < f n
  | 0, s, h => by simp [ofTo] at h
  | k + 1, s, h => by
    unfold ofTo at h
    rw [List.mem_append] at h
    rcases h with h | h
    · obtain ⟨n, hn, hs⟩ := ofTo_mem f k s h
      exact ⟨n, by omega, hs⟩
    · split at h
      · rename_i hp
        rw [List.mem_singleton] at h
        exact ⟨k, by omega, h, hp⟩
      · simp at h
theorem cnt_append (l r : List (Int × Int)) (n : Nat) : cnt (l ++ r) n = if (∃ s ∈ l, St.rgt s.1 s.2 = true ∧ s.2 = (n : Int)) then cnt l n else cnt r n := by
  induction l with
  | nil => simp
  | cons s l ih =>
    rw [List.cons_append]
    by_cases h : St.rgt s.1 s.2 = true ∧ s.2 = (n : Int)
    · rw [if_pos ⟨s, List.mem_cons_self .., h⟩]
      unfold cnt
      rw [if_pos h, if_pos h]
    · have e1 : cnt (s :: (l ++ r)) n = cnt (l ++ r) n := by rw [cnt, if_neg h]
      have e2 : cnt (s :: l) n = cnt l n := by rw [cnt, if_neg h]
      rw [e1, e2, ih]
      by_cases hx : ∃ s ∈ l, St.rgt s.1 s.2 = true ∧ s.2 = (n : Int)
      · obtain ⟨t, ht, hp⟩ := hx
        rw [if_pos ⟨t, ht, hp⟩, if_pos ⟨t, List.mem_cons_of_mem _ ht, hp⟩]
      · rw [if_neg hx, if_neg (fun ⟨t, ht, hp⟩ => by
          rcases List.mem_cons.1 ht with rfl | ht
          · exact h hp
          · exact hx ⟨t, ht, hp⟩)]
theorem rgt_of (c : Int) (n : Nat) (hc : 0 < c) (hn : n < 64) : St.rgt c (n : Int) = true := by
  unfold St.rgt
  exact decide_eq_true ⟨by omega, by omega, by omega⟩
theorem cnt_ofTo (f : Nat → Int) (hf : ∀ n, 0 ≤ f n) : ∀ k, k ≤ 64 → ∀ n, cnt (ofTo f k) n = if n < k then f n else 0
  | 0, _, n => by simp [ofTo, cnt]
  | k + 1, hk, n => by
    have ih := cnt_ofTo f hf k (by omega) n
    unfold ofTo
    rw [cnt_append, ih]
    by_cases hx : ∃ s ∈ ofTo f k, St.rgt s.1 s.2 = true ∧ s.2 = (n : Int)
    · rw [if_pos hx]
      obtain ⟨s, hs, _, h2⟩ := hx
      obtain ⟨m, hm, rfl, _⟩ := ofTo_mem f k s hs
      have : m = n := by simp at h2; omega
      subst this
      rw [if_pos hm, if_pos (by omega)]
    · rw [if_neg hx]
      by_cases hn : n < k
      · have h0 : cnt (ofTo f k) n = 0 := by
          have := cnt_append (ofTo f k) [] n
          rw [if_neg hx, List.append_nil] at this
          rw [this]; rfl
        rw [ih, if_pos hn] at h0
        rw [if_pos (show n < k + 1 by omega), h0]
        split
        · unfold cnt
          rw [if_neg (fun h => by have := h.2; simp at this; omega)]
          rfl
        · rfl
      · by_cases e : n = k
        · subst e
          rw [if_pos (show n < n + 1 by omega)]
          split
          · rename_i hp
            unfold cnt
            rw [if_pos ⟨rgt_of _ _ hp (by omega), rfl⟩]
          · rename_i hp
            have := hf n
            unfold cnt
            omega
        · rw [if_neg (show ¬ n < k + 1 by omega)]
          split
          · unfold cnt
            rw [if_neg (fun h => by have := h.2; simp at this; omega)]
            rfl
          · rfl
theorem cnt_ofL (f : Nat → Int) (hf : ∀ n, 0 ≤ f n) (n : Nat) (hn : n < 64) : cnt (ofL f) n = f n := by
  unfold ofL
  rw [cnt_ofTo f hf 64 (Nat.le_refl _) n, if_pos hn]

/-- The vector of a vector's counts is that vector. -/
theorem ofL_cnt_ofL (f : Nat → Int) (hf : ∀ n, 0 ≤ f n) : ofL (cnt (ofL f)) = ofL f := ofL_ext (fun i hi => cnt_ofL f hf i hi)

theorem cov_ext {f f' g g' : Nat → Int} (h1 : ∀ n, n < 64 → f n = f' n) (h2 : ∀ n, n < 64 → g n = g' n) : cov f g = cov f' g' := by
  have : cov f g = true ↔ cov f' g' = true := by
    rw [cov_iff, cov_iff]
    exact ⟨fun h n hn => by rw [← h1 n hn, ← h2 n hn]; exact h n hn, fun h n hn => by rw [h1 n hn, h2 n hn]; exact h n hn⟩
  cases hx : cov f g <;> cases hy : cov f' g' <;> simp [hx, hy] at this ⊢

theorem jn_two (l r : List (Int × Int)) (n : Nat) : jn [l, r] n = if cnt l n < cnt r n then cnt r n else cnt l n := by
  have h0 : jnTo [l, r] 1 n = cnt l n := by
    have := cnt_nonneg l n
    show (if (0 : Int) < cnt l n then cnt l n else 0) = cnt l n
    split <;> omega
  show (if jnTo [l, r] 1 n < cnt r n then cnt r n else jnTo [l, r] 1 n) = _
  rw [h0]
theorem mt_two (l r : List (Int × Int)) (n : Nat) : mt [l, r] n = if cnt r n < cnt l n then cnt r n else cnt l n := rfl
theorem jn_nonneg (ls : List (List (Int × Int))) (n : Nat) : 0 ≤ jn ls n := jnTo_nonneg ls _ n
theorem mt_nonneg (ls : List (List (Int × Int))) (n : Nat) : 0 ≤ mt ls n := mtTo_nonneg ls _ n

/-- Is it a vector, up to place k? -/
def fmTo (l : List (Int × Int)) (k : Nat) : Prop := ∀ j, j < k → St.rgt (l.getD j (0, 0)).1 (l.getD j (0, 0)).2 = true ∧ (0 < j → (l.getD (j - 1) (0, 0)).2 < (l.getD j (0, 0)).2)
def fmd (l : List (Int × Int)) : Bool := decide (∀ j : Fin l.length, St.rgt (l.getD j.val (0, 0)).1 (l.getD j.val (0, 0)).2 = true ∧ (0 < j.val → (l.getD (j.val - 1) (0, 0)).2 < (l.getD j.val (0, 0)).2))
theorem fmd_iff (l : List (Int × Int)) : fmd l = true ↔ fmTo l l.length := by
  unfold fmd fmTo
  rw [decide_eq_true_iff]
  exact ⟨fun h j hj => h ⟨j, hj⟩, fun h j => h j.val j.isLt⟩
theorem fmd_no {l : List (Int × Int)} (k : Nat) (hk : k < l.length) (h : ¬ (St.rgt (l.getD k (0, 0)).1 (l.getD k (0, 0)).2 = true ∧ (0 < k → (l.getD (k - 1) (0, 0)).2 < (l.getD k (0, 0)).2))) : fmd l = false := by
  cases hc : fmd l with
  | false => rfl
  | true => exact absurd ((fmd_iff l).1 hc k hk) h

theorem getD_left (l r : List (Int × Int)) (j : Nat) (h : j < l.length) : (l ++ r).getD j (0, 0) = l.getD j (0, 0) := by
  rw [List.getD_eq_getElem?_getD, List.getD_eq_getElem?_getD, List.getElem?_append_left h]
theorem getD_last (l : List (Int × Int)) (s : Int × Int) : (l ++ [s]).getD l.length (0, 0) = s := by
  rw [List.getD_eq_getElem?_getD, List.getElem?_append_right (Nat.le_refl _), Nat.sub_self]
  rfl
theorem getD_mem (l : List (Int × Int)) (j : Nat) (h : j < l.length) : l.getD j (0, 0) ∈ l := by
  rw [List.getD_eq_getElem?_getD, List.getElem?_eq_getElem h]
  exact List.getElem_mem h
theorem fmTo_ofTo (f : Nat → Int) : ∀ k, k ≤ 64 → fmTo (ofTo f k) (ofTo f k).length
  | 0, _ => fun j hj => by simp [ofTo] at hj
  | k + 1, hk => by
    have ih := fmTo_ofTo f k (by omega)
    intro j hj
    unfold ofTo at hj ⊢
    by_cases hp : 0 < f k
    · rw [if_pos hp] at hj ⊢
      by_cases h : j < (ofTo f k).length
      · obtain ⟨h1, h2⟩ := ih j h
        rw [getD_left _ _ _ h]
        refine ⟨h1, fun h0 => ?_⟩
        rw [getD_left _ _ _ (by omega)]
        exact h2 h0
      · have e : j = (ofTo f k).length := by simp at hj; omega
        subst e
        rw [getD_last]
        refine ⟨rgt_of _ _ hp (by omega), fun h0 => ?_⟩
        rw [getD_left _ _ _ (by omega)]
        obtain ⟨n, hn, hs, _⟩ := ofTo_mem f k _ (getD_mem (ofTo f k) ((ofTo f k).length - 1) (by omega))
        rw [hs]
        show (n : Int) < (k : Int)
        omega
    · rw [if_neg hp, List.append_nil] at hj ⊢
      exact ih j hj
theorem fmd_ofL (f : Nat → Int) : fmd (ofL f) = true := (fmd_iff _).2 (fmTo_ofTo f 64 (Nat.le_refl _))

/-- The lattice's laws. -/
theorem cov_jn_left (l r : List (Int × Int)) : cov (jn [l, r]) (cnt l) = true := (cov_iff _ _).2 (fun n _ => by rw [jn_two]; split <;> omega)
theorem cov_jn_right (l r : List (Int × Int)) : cov (jn [l, r]) (cnt r) = true := (cov_iff _ _).2 (fun n _ => by rw [jn_two]; split <;> omega)
theorem cov_mt_left (l r : List (Int × Int)) : cov (cnt l) (mt [l, r]) = true := (cov_iff _ _).2 (fun n _ => by rw [mt_two]; split <;> omega)
theorem cov_mt_right (l r : List (Int × Int)) : cov (cnt r) (mt [l, r]) = true := (cov_iff _ _).2 (fun n _ => by rw [mt_two]; split <;> omega)
theorem cov_least (l r : List (Int × Int)) (f : Nat → Int) (h1 : cov f (cnt l) = true) (h2 : cov f (cnt r) = true) : cov f (jn [l, r]) = true := (cov_iff _ _).2 (fun n hn => by
  have a := (cov_iff _ _).1 h1 n hn
  have b := (cov_iff _ _).1 h2 n hn
  rw [jn_two]
  split <;> omega)
theorem cov_greatest (l r : List (Int × Int)) (f : Nat → Int) (h1 : cov (cnt l) f = true) (h2 : cov (cnt r) f = true) : cov (mt [l, r]) f = true := (cov_iff _ _).2 (fun n hn => by
  have a := (cov_iff _ _).1 h1 n hn
  have b := (cov_iff _ _).1 h2 n hn
  rw [mt_two]
  split <;> omega)
theorem jn_comm (l r : List (Int × Int)) : jn [l, r] = jn [r, l] := by
  funext n
  rw [jn_two, jn_two]
  split <;> split <;> omega
theorem mt_comm (l r : List (Int × Int)) : mt [l, r] = mt [r, l] := by
  funext n
  rw [mt_two, mt_two]
  split <;> split <;> omega
theorem joinL_comm (l r : List (Int × Int)) : joinL [l, r] = joinL [r, l] := by unfold joinL; rw [jn_comm]
theorem meetL_two (l r : List (Int × Int)) : meetL [l, r] = ofL (mt [l, r]) := by unfold meetL; rw [if_neg (by simp)]
theorem meetL_comm (l r : List (Int × Int)) : meetL [l, r] = meetL [r, l] := by rw [meetL_two, meetL_two, mt_comm]
theorem cnt_joinL (ls : List (List (Int × Int))) (n : Nat) (hn : n < 64) : cnt (joinL ls) n = jn ls n := cnt_ofL _ (jn_nonneg ls) n hn
theorem cnt_meet2 (l r : List (Int × Int)) (n : Nat) (hn : n < 64) : cnt (meetL [l, r]) n = mt [l, r] n := by
  rw [meetL_two]
  exact cnt_ofL _ (mt_nonneg [l, r]) n hn
theorem max_assoc (x y z : Int) : (if (if x < y then y else x) < z then z else (if x < y then y else x)) = (if x < (if y < z then z else y) then (if y < z then z else y) else x) := by
  by_cases h1 : x < y
  · rw [if_pos h1]
    by_cases h2 : y < z
    · rw [if_pos h2, if_pos (by omega)]
    · rw [if_neg h2, if_pos h1]
  · rw [if_neg h1]
    by_cases h2 : y < z
    · rw [if_pos h2]
    · rw [if_neg h2, if_neg h1, if_neg (by omega)]
theorem stand_assoc (a b c : List (Int × Int)) : stand (cnt (joinL [joinL [a, b], c])) (cnt (joinL [a, joinL [b, c]])) = 0 := by
  have h : ∀ n, n < 64 → cnt (joinL [joinL [a, b], c]) n = cnt (joinL [a, joinL [b, c]]) n := fun n hn => by
    rw [cnt_joinL _ n hn, cnt_joinL _ n hn, jn_two, jn_two, cnt_joinL _ n hn, cnt_joinL _ n hn, jn_two, jn_two]
    exact max_assoc _ _ _
  have h1 : cov (cnt (joinL [joinL [a, b], c])) (cnt (joinL [a, joinL [b, c]])) = true := (cov_iff _ _).2 (fun n hn => by rw [h n hn]; omega)
  have h2 : cov (cnt (joinL [a, joinL [b, c]])) (cnt (joinL [joinL [a, b], c])) = true := (cov_iff _ _).2 (fun n hn => by rw [h n hn]; omega)
  unfold stand
  rw [if_pos h1, if_pos h2]
/-- The join of a list and nothing is the vector of that list's counts. -/
theorem joinL_none (l : List (Int × Int)) : joinL [l, []] = ofL (cnt l) := ofL_ext (fun n _ => by
  rw [jn_two]
  have := cnt_nonneg l n
  show (if cnt l n < 0 then 0 else cnt l n) = cnt l n
  split <;> omega)
/-- The join of one list is the vector of that list's counts. -/
theorem joinL_one (l : List (Int × Int)) : joinL [l] = ofL (cnt l) := ofL_ext (fun n _ => by
  have := cnt_nonneg l n
  show (if (0 : Int) < cnt l n then cnt l n else 0) = cnt l n
  split <;> omega)
theorem cov_join_left (l r : List (Int × Int)) : cov (cnt (joinL [l, r])) (cnt l) = true := by rw [cov_ext (fun n hn => cnt_joinL [l, r] n hn) (fun n _ => rfl)]; exact cov_jn_left l r
theorem cov_join_right (l r : List (Int × Int)) : cov (cnt (joinL [l, r])) (cnt r) = true := by rw [cov_ext (fun n hn => cnt_joinL [l, r] n hn) (fun n _ => rfl)]; exact cov_jn_right l r
theorem cov_meet_left (l r : List (Int × Int)) : cov (cnt l) (cnt (meetL [l, r])) = true := by rw [cov_ext (fun n _ => rfl) (fun n hn => cnt_meet2 l r n hn)]; exact cov_mt_left l r
theorem cov_meet_right (l r : List (Int × Int)) : cov (cnt r) (cnt (meetL [l, r])) = true := by rw [cov_ext (fun n _ => rfl) (fun n hn => cnt_meet2 l r n hn)]; exact cov_mt_right l r
theorem cov_join_least (l r : List (Int × Int)) (f : Nat → Int) (h1 : cov f (cnt l) = true) (h2 : cov f (cnt r) = true) : cov f (cnt (joinL [l, r])) = true := by rw [cov_ext (fun n _ => rfl) (fun n hn => cnt_joinL [l, r] n hn)]; exact cov_least l r f h1 h2
theorem cov_meet_greatest (l r : List (Int × Int)) (f : Nat → Int) (h1 : cov (cnt l) f = true) (h2 : cov (cnt r) f = true) : cov (cnt (meetL [l, r])) f = true := by rw [cov_ext (fun n hn => cnt_meet2 l r n hn) (fun n _ => rfl)]; exact cov_greatest l r f h1 h2
theorem fmd_joinL (ls : List (List (Int × Int))) : fmd (joinL ls) = true := fmd_ofL _
theorem fmd_meet2 (l r : List (Int × Int)) : fmd (meetL [l, r]) = true := by rw [meetL_two]; exact fmd_ofL _

end Ve
end Go.Proofs.Ytmccednfaemiaaa
