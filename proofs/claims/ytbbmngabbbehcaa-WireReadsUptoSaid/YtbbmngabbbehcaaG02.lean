/-
  Plain mathematics of version vectors, part 2: the counts of a vector made of counts, joins and meets of two and of one, what covers what. Nothing of the program is imported.
  Rows of the call's own through later calls, and a row of rows. Nothing of the program is imported.
  Plain mathematics of bytes: lists of bytes in memory, as texts, and numbers laid in groups of seven bits. Nothing of the program is imported.
  What telltaleref05's Copy, Same and Bytes answer.
-/
import Derived.Test.YtbbmngabbbehcaaG01
import Derived.Laws.BytesArg
import Derived.Laws.StructEq
import Derived.MapKept
import Derived.Test.YtbbmngabbbehcaaProg
import Derived.Tactics
import Derived.Tactics2
import Derived.WalkKit
import Derived.WalkSpells
import Derived.OwnWalk
import Derived.Deep.QuietTactic
import Derived.BigQuiet
import Derived.Deep.RegionHeld3
import Derived.KernelRfl
import Derived.Lib.Hide
import Derived.Laws.Rows
import Derived.Laws.Tables
import Derived.Laws.CopyOwn
import Derived.Laws.ResultCell
import Derived.Deep.DeepCutAuto
import Derived.RegionTactic
import Derived.BigRegion
namespace Go.Proofs.Ytbbmngabbbehcaa
namespace Ve

theorem ofTo_mem (f : Nat → Int) : ∀ k (s : Int × Int), s ∈ ofTo f k → ∃ n : Nat, n < k ∧ s = (f n, (n : Int)) ∧ 0 < f n
  | 0, s, h => by simp [ofTo] at h
  | k + 1, s, h => by
    unfold ofTo at h
    rw [List.mem_append] at h
    rcases h with h | h
    · obtain ⟨n, hn, hs⟩ := ofTo_mem f k s h
      exact ⟨n, by omega, hs⟩
    · split at h
      · rename_i hp
        rw [List.mem_singleton] at h
        exact ⟨k, by omega, h, hp⟩
      · simp at h
theorem cnt_append (l r : List (Int × Int)) (n : Nat) : cnt (l ++ r) n = if (∃ s ∈ l, St.rgt s.1 s.2 = true ∧ s.2 = (n : Int)) then cnt l n else cnt r n := by
  induction l with
  | nil => simp
  | cons s l ih =>
    rw [List.cons_append]
    by_cases h : St.rgt s.1 s.2 = true ∧ s.2 = (n : Int)
    · rw [if_pos ⟨s, List.mem_cons_self .., h⟩]
      unfold cnt
      rw [if_pos h, if_pos h]
    · have e1 : cnt (s :: (l ++ r)) n = cnt (l ++ r) n := by rw [cnt, if_neg h]
      have e2 : cnt (s :: l) n = cnt l n := by rw [cnt, if_neg h]
      rw [e1, e2, ih]
      by_cases hx : ∃ s ∈ l, St.rgt s.1 s.2 = true ∧ s.2 = (n : Int)
      · obtain ⟨t, ht, hp⟩ := hx
        rw [if_pos ⟨t, ht, hp⟩, if_pos ⟨t, List.mem_cons_of_mem _ ht, hp⟩]
      · rw [if_neg hx, if_neg (fun ⟨t, ht, hp⟩ => by
          rcases List.mem_cons.1 ht with rfl | ht
          · exact h hp
          · exact hx ⟨t, ht, hp⟩)]
theorem rgt_of (c : Int) (n : Nat) (hc : 0 < c) (hn : n < 64) : St.rgt c (n : Int) = true := by
  unfold St.rgt
  exact decide_eq_true ⟨by omega, by omega, by omega⟩
theorem cnt_ofTo (f : Nat → Int) (hf : ∀ n, 0 ≤ f n) : ∀ k, k ≤ 64 → ∀ n, cnt (ofTo f k) n = if n < k then f n else 0
  | 0, _, n => by simp [ofTo, cnt]
  | k + 1, hk, n => by
    have ih := cnt_ofTo f hf k (by omega) n
    unfold ofTo
    rw [cnt_append, ih]
    by_cases hx : ∃ s ∈ ofTo f k, St.rgt s.1 s.2 = true ∧ s.2 = (n : Int)
    · rw [if_pos hx]
      obtain ⟨s, hs, _, h2⟩ := hx
      obtain ⟨m, hm, rfl, _⟩ := ofTo_mem f k s hs
      have : m = n := by simp at h2; omega
      subst this
      rw [if_pos hm, if_pos (by omega)]
    · rw [if_neg hx]
      by_cases hn : n < k
      · have h0 : cnt (ofTo f k) n = 0 := by
          have := cnt_append (ofTo f k) [] n
          rw [if_neg hx, List.append_nil] at this
          rw [this]; rfl
        rw [ih, if_pos hn] at h0
        rw [if_pos (show n < k + 1 by omega), h0]
        split
        · unfold cnt
          rw [if_neg (fun h => by have := h.2; simp at this; omega)]
          rfl
        · rfl
      · by_cases e : n = k
        · subst e
          rw [if_pos (show n < n + 1 by omega)]
          split
          · rename_i hp
            unfold cnt
            rw [if_pos ⟨rgt_of _ _ hp (by omega), rfl⟩]
          · rename_i hp
            have := hf n
            unfold cnt
            omega
        · rw [if_neg (show ¬ n < k + 1 by omega)]
          split
          · unfold cnt
            rw [if_neg (fun h => by have := h.2; simp at this; omega)]
            rfl
          · rfl
theorem cnt_ofL (f : Nat → Int) (hf : ∀ n, 0 ≤ f n) (n : Nat) (hn : n < 64) : cnt (ofL f) n = f n := by
  unfold ofL
  rw [cnt_ofTo f hf 64 (Nat.le_refl _) n, if_pos hn]

/-- The vector of a vector's counts is that vector. -/
theorem ofL_cnt_ofL (f : Nat → Int) (hf : ∀ n, 0 ≤ f n) : ofL (cnt (ofL f)) = ofL f := ofL_ext (fun i hi => cnt_ofL f hf i hi)

theorem cov_ext {f f' g g' : Nat → Int} (h1 : ∀ n, n < 64 → f n = f' n) (h2 : ∀ n, n < 64 → g n = g' n) : cov f g = cov f' g' := by
  have : cov f g = true ↔ cov f' g' = true := by
    rw [cov_iff, cov_iff]
    exact ⟨fun h n hn => by rw [← h1 n hn, ← h2 n hn]; exact h n hn, fun h n hn => by rw [h1 n hn, h2 n hn]; exact h n hn⟩
  cases hx : cov f g <;> cases hy : cov f' g' <;> simp [hx, hy] at this ⊢

theorem jn_two (l r : List (Int × Int)) (n : Nat) : jn [l, r] n = if cnt l n < cnt r n then cnt r n else cnt l n := by
  have h0 : jnTo [l, r] 1 n = cnt l n := by
    have := cnt_nonneg l n
    show (if (0 : Int) < cnt l n then cnt l n else 0) = cnt l n
    split <;> omega
  show (if jnTo [l, r] 1 n < cnt r n then cnt r n else jnTo [l, r] 1 n) = _
  rw [h0]
theorem mt_two (l r : List (Int × Int)) (n : Nat) : mt [l, r] n = if cnt r n < cnt l n then cnt r n else cnt l n := rfl
theorem jn_nonneg (ls : List (List (Int × Int))) (n : Nat) : 0 ≤ jn ls n := jnTo_nonneg ls _ n
theorem mt_nonneg (ls : List (List (Int × Int))) (n : Nat) : 0 ≤ mt ls n := mtTo_nonneg ls _ n

/-- Is it a vector, up to place k? -/
def fmTo (l : List (Int × Int)) (k : Nat) : Prop := ∀ j, j < k → St.rgt (l.getD j (0, 0)).1 (l.getD j (0, 0)).2 = true ∧ (0 < j → (l.getD (j - 1) (0, 0)).2 < (l.getD j (0, 0)).2)
def fmd (l : List (Int × Int)) : Bool := decide (∀ j : Fin l.length, St.rgt (l.getD j.val (0, 0)).1 (l.getD j.val (0, 0)).2 = true ∧ (0 < j.val → (l.getD (j.val - 1) (0, 0)).2 < (l.getD j.val (0, 0)).2))
theorem fmd_iff (l : List (Int × Int)) : fmd l = true ↔ fmTo l l.length := by
  unfold fmd fmTo
  rw [decide_eq_true_iff]
  exact ⟨fun h j hj => h ⟨j, hj⟩, fun h j => h j.val j.isLt⟩
theorem fmd_no {l : List (Int × Int)} (k : Nat) (hk : k < l.length) (h : ¬ (St.rgt (l.getD k (0, 0)).1 (l.getD k (0, 0)).2 = true ∧ (0 < k → (l.getD (k - 1) (0, 0)).2 < (l.getD k (0, 0)).2))) : fmd l = false := by
  cases hc : fmd l with
  | false => rfl
  | true => exact absurd ((fmd_iff l).1 hc k hk) h

theorem getD_left (l r : List (Int × Int)) (j : Nat) (h : j < l.length) : (l ++ r).getD j (0, 0) = l.getD j (0, 0) := by
  rw [List.getD_eq_getElem?_getD, List.getD_eq_getElem?_getD, List.getElem?_append_left h]
theorem getD_last (l : List (Int × Int)) (s : Int × Int) : (l ++ [s]).getD l.length (0, 0) = s := by
  rw [List.getD_eq_getElem?_getD, List.getElem?_append_right (Nat.le_refl _), Nat.sub_self]
  rfl
theorem getD_mem (l : List (Int × Int)) (j : Nat) (h : j < l.length) : l.getD j (0, 0) ∈ l := by
  rw [List.getD_eq_getElem?_getD, List.getElem?_eq_getElem h]
  exact List.getElem_mem h
theorem fmTo_ofTo (f : Nat → Int) : ∀ k, k ≤ 64 → fmTo (ofTo f k) (ofTo f k).length
  | 0, _ => fun j hj => by simp [ofTo] at hj
  | k + 1, hk => by
    have ih := fmTo_ofTo f k (by omega)
    intro j hj
    unfold ofTo at hj ⊢
    by_cases hp : 0 < f k
    · rw [if_pos hp] at hj ⊢
      by_cases h : j < (ofTo f k).length
      · obtain ⟨h1, h2⟩ := ih j h
        rw [getD_left _ _ _ h]
        refine ⟨h1, fun h0 => ?_⟩
        rw [getD_left _ _ _ (by omega)]
        exact h2 h0
      · have e : j = (ofTo f k).length := by simp at hj; omega
        subst e
        rw [getD_last]
        refine ⟨rgt_of _ _ hp (by omega), fun h0 => ?_⟩
        rw [getD_left _ _ _ (by omega)]
        obtain ⟨n, hn, hs, _⟩ := ofTo_mem f k _ (getD_mem (ofTo f k) ((ofTo f k).length - 1) (by omega))
        rw [hs]
        show (n : Int) < (k : Int)
        omega
    · rw [if_neg hp, List.append_nil] at hj ⊢
      exact ih j hj
theorem fmd_ofL (f : Nat → Int) : fmd (ofL f) = true := (fmd_iff _).2 (fmTo_ofTo f 64 (Nat.le_refl _))

/-- The lattice's laws. -/
theorem cov_jn_left (l r : List (Int × Int)) : cov (jn [l, r]) (cnt l) = true := (cov_iff _ _).2 (fun n _ => by rw [jn_two]; split <;> omega)
theorem cov_jn_right (l r : List (Int × Int)) : cov (jn [l, r]) (cnt r) = true := (cov_iff _ _).2 (fun n _ => by rw [jn_two]; split <;> omega)
theorem cov_mt_left (l r : List (Int × Int)) : cov (cnt l) (mt [l, r]) = true := (cov_iff _ _).2 (fun n _ => by rw [mt_two]; split <;> omega)
theorem cov_mt_right (l r : List (Int × Int)) : cov (cnt r) (mt [l, r]) = true := (cov_iff _ _).2 (fun n _ => by rw [mt_two]; split <;> omega)
theorem cov_least (l r : List (Int × Int)) (f : Nat → Int) (h1 : cov f (cnt l) = true) (h2 : cov f (cnt r) = true) : cov f (jn [l, r]) = true := (cov_iff _ _).2 (fun n hn => by
  have a := (cov_iff _ _).1 h1 n hn
  have b := (cov_iff _ _).1 h2 n hn
  rw [jn_two]
  split <;> omega)
theorem cov_greatest (l r : List (Int × Int)) (f : Nat → Int) (h1 : cov (cnt l) f = true) (h2 : cov (cnt r) f = true) : cov (mt [l, r]) f = true := (cov_iff _ _).2 (fun n hn => by
  have a := (cov_iff _ _).1 h1 n hn
  have b := (cov_iff _ _).1 h2 n hn
  rw [mt_two]
  split <;> omega)
theorem jn_comm (l r : List (Int × Int)) : jn [l, r] = jn [r, l] := by
  funext n
  rw [jn_two, jn_two]
  split <;> split <;> omega
theorem mt_comm (l r : List (Int × Int)) : mt [l, r] = mt [r, l] := by
  funext n
  rw [mt_two, mt_two]
  split <;> split <;> omega
theorem joinL_comm (l r : List (Int × Int)) : joinL [l, r] = joinL [r, l] := by unfold joinL; rw [jn_comm]
theorem meetL_two (l r : List (Int × Int)) : meetL [l, r] = ofL (mt [l, r]) := by unfold meetL; rw [if_neg (by simp)]
theorem meetL_comm (l r : List (Int × Int)) : meetL [l, r] = meetL [r, l] := by rw [meetL_two, meetL_two, mt_comm]
theorem cnt_joinL (ls : List (List (Int × Int))) (n : Nat) (hn : n < 64) : cnt (joinL ls) n = jn ls n := cnt_ofL _ (jn_nonneg ls) n hn
theorem cnt_meet2 (l r : List (Int × Int)) (n : Nat) (hn : n < 64) : cnt (meetL [l, r]) n = mt [l, r] n := by
  rw [meetL_two]
  exact cnt_ofL _ (mt_nonneg [l, r]) n hn
theorem max_assoc (x y z : Int) : (if (if x < y then y else x) < z then z else (if x < y then y else x)) = (if x < (if y < z then z else y) then (if y < z then z else y) else x) := by
  by_cases h1 : x < y
  · rw [if_pos h1]
    by_cases h2 : y < z
    · rw [if_pos h2, if_pos (by omega)]
    · rw [if_neg h2, if_pos h1]
  · rw [if_neg h1]
    by_cases h2 : y < z
    · rw [if_pos h2]
    · rw [if_neg h2, if_neg h1, if_neg (by omega)]
theorem stand_assoc (a b c : List (Int × Int)) : stand (cnt (joinL [joinL [a, b], c])) (cnt (joinL [a, joinL [b, c]])) = 0 := by
  have h : ∀ n, n < 64 → cnt (joinL [joinL [a, b], c]) n = cnt (joinL [a, joinL [b, c]]) n := fun n hn => by
    rw [cnt_joinL _ n hn, cnt_joinL _ n hn, jn_two, jn_two, cnt_joinL _ n hn, cnt_joinL _ n hn, jn_two, jn_two]
    exact max_assoc _ _ _
  have h1 : cov (cnt (joinL [joinL [a, b], c])) (cnt (joinL [a, joinL [b, c]])) = true := (cov_iff _ _).2 (fun n hn => by rw [h n hn]; omega)
  have h2 : cov (cnt (joinL [a, joinL [b, c]])) (cnt (joinL [joinL [a, b], c])) = true := (cov_iff _ _).2 (fun n hn => by rw [h n hn]; omega)
  unfold stand
  rw [if_pos h1, if_pos h2]
/-- The join of a list and nothing is the vector of that list's counts. -/
theorem joinL_none (l : List (Int × Int)) : joinL [l, []] = ofL (cnt l) := ofL_ext (fun n _ => by
  rw [jn_two]
  have := cnt_nonneg l n
  show (if cnt l n < 0 then 0 else cnt l n) = cnt l n
  split <;> omega)
/-- The join of one list is the vector of that list's counts. -/
theorem joinL_one (l : List (Int × Int)) : joinL [l] = ofL (cnt l) := ofL_ext (fun n _ => by
  have := cnt_nonneg l n
  show (if (0 : Int) < cnt l n then cnt l n else 0) = cnt l n
  split <;> omega)
theorem cov_join_left (l r : List (Int × Int)) : cov (cnt (joinL [l, r])) (cnt l) = true := by rw [cov_ext (fun n hn => cnt_joinL [l, r] n hn) (fun n _ => rfl)]; exact cov_jn_left l r
theorem cov_join_right (l r : List (Int × Int)) : cov (cnt (joinL [l, r])) (cnt r) = true := by rw [cov_ext (fun n hn => cnt_joinL [l, r] n hn) (fun n _ => rfl)]; exact cov_jn_right l r
theorem cov_meet_left (l r : List (Int × Int)) : cov (cnt l) (cnt (meetL [l, r])) = true := by rw [cov_ext (fun n _ => rfl) (fun n hn => cnt_meet2 l r n hn)]; exact cov_mt_left l r
theorem cov_meet_right (l r : List (Int × Int)) : cov (cnt r) (cnt (meetL [l, r])) = true := by rw [cov_ext (fun n _ => rfl) (fun n hn => cnt_meet2 l r n hn)]; exact cov_mt_right l r
theorem cov_join_least (l r : List (Int × Int)) (f : Nat → Int) (h1 : cov f (cnt l) = true) (h2 : cov f (cnt r) = true) : cov f (cnt (joinL [l, r])) = true := by rw [cov_ext (fun n _ => rfl) (fun n hn => cnt_joinL [l, r] n hn)]; exact cov_least l r f h1 h2
theorem cov_meet_greatest (l r : List (Int × Int)) (f : Nat → Int) (h1 : cov (cnt l) f = true) (h2 : cov (cnt r) f = true) : cov (cnt (meetL [l, r])) f = true := by rw [cov_ext (fun n hn => cnt_meet2 l r n hn) (fun n _ => rfl)]; exact cov_greatest l r f h1 h2
theorem fmd_joinL (ls : List (List (Int × Int))) : fmd (joinL ls) = true := fmd_ofL _
theorem fmd_meet2 (l r : List (Int × Int)) : fmd (meetL [l, r]) = true := by rw [meetL_two]; exact fmd_ofL _

end Ve
end Go.Proofs.Ytbbmngabbbehcaa
namespace Go.Proofs.Ytbbmngabbbehcaa
open Go.RowKit

section
variable {w w' : World} {base size n : Nat} {e : TypeId} {v : Value} {xs : List Value}
theorem own_lt (h : w.ownsRow base e size v n xs) : ∀ k, v.ownBlock = some k → k < w.heap.size := by
  intro k hk
  rcases h.2 with ⟨rfl, _⟩ | ⟨g, cap, cur, rfl, _, hh, _⟩
  · simp [Value.ownBlock] at hk
  · simp [Value.ownBlock] at hk
    subst hk
    exact (Array.getElem?_eq_some_iff.1 hh).1
theorem own_stays (h : w.ownsRow base e size v n xs) (hs : ∀ k, v.ownBlock = some k → w'.heap[k]? = w.heap[k]?) : w'.ownsRow base e size v n xs := by
  obtain ⟨h0, h1⟩ := h
  refine ⟨h0, ?_⟩
  rcases h1 with h1 | ⟨g, cap, cur, hv, hg, hh, r⟩
  · exact .inl h1
  · refine .inr ⟨g, cap, cur, hv, hg, ?_, r⟩
    rw [hs g (by rw [hv]; rfl)]
    exact hh
theorem own_later (h : w.ownsRow base e size v n xs) (hb : Below w.heap.size w w') : w'.ownsRow base e size v n xs :=
  own_stays h (fun k hk => hb.block k (own_lt h k hk))
/-- Rows of different kinds lie in different blocks. -/
theorem own_apart {base' size' n' : Nat} {e' : TypeId} {v' : Value} {xs' : List Value} (h : w.ownsRow base e size v n xs) (h' : w.ownsRow base' e' size' v' n' xs') (hne : e ≠ e') : ∀ k, v.ownBlock = some k → some k ≠ v'.ownBlock := by
  intro k hk hk'
  rcases h.2 with ⟨rfl, _⟩ | ⟨g, cap, cur, rfl, _, hh, _⟩
  · simp [Value.ownBlock] at hk
  · rcases h'.2 with ⟨rfl, _⟩ | ⟨g', cap', cur', rfl, _, hh', _⟩
    · simp [Value.ownBlock] at hk'
    · simp [Value.ownBlock] at hk hk'
      subst hk
      subst hk'
      rw [hh] at hh'
      simp at hh'
      exact hne hh'.2
end

/-- The cells of a row of lists. -/
def rowCells : List (Option Addr × Nat) → List (List (Int × Int)) → List Value
  | [], _ => []
  | _ :: _, [] => []
  | x :: cs, l :: ls => .slice x.1 l.length x.2 :: rowCells cs ls
theorem rowCells_snoc : ∀ (cs : List (Option Addr × Nat)) (x : Option Addr × Nat) (ls : List (List (Int × Int))) (_ : cs.length < ls.length), rowCells (cs ++ [x]) ls = rowCells cs ls ++ [.slice x.1 (ls.getD cs.length []).length x.2]
  | [], x, [], h => by simp at h
  | [], x, l :: ls, _ => by simp [rowCells]
  | c :: cs, x, [], h => by simp at h
  | c :: cs, x, l :: ls, h => by
    have := rowCells_snoc cs x ls (by simpa using h)
    simp [rowCells, this]
theorem rowCells_get : ∀ (cs : List (Option Addr × Nat)) (ls : List (List (Int × Int))) (k : Nat), k < cs.length → k < ls.length → (rowCells cs ls)[k]? = some (.slice (cs.getD k (none, 0)).1 (ls.getD k []).length (cs.getD k (none, 0)).2)
  | [], _, k, h, _ => by simp at h
  | c :: cs, [], k, _, h => by simp at h
  | c :: cs, l :: ls, 0, _, _ => by simp [rowCells]
  | c :: cs, l :: ls, k + 1, h, h' => by
    have := rowCells_get cs ls k (by simpa using h) (by simpa using h')
    simpa [rowCells] using this
end Go.Proofs.Ytbbmngabbbehcaa
namespace Go.Proofs.Ytbbmngabbbehcaa
open Go.RowKit

/-- A byte's number. -/
def isB (x : Int) : Prop := 0 ≤ x ∧ x < 256
def bCells (l : List Int) : List Value := l.map (Value.int .u8)
theorem bCells_length (l : List Int) : (bCells l).length = l.length := List.length_map _
theorem bCells_one (l : List Int) : ∀ u ∈ bCells l, u.oneCell' = true := by
  intro u hu
  obtain ⟨x, _, rfl⟩ := List.mem_map.1 hu
  rfl
theorem bCells_append (l r : List Int) : bCells (l ++ r) = bCells l ++ bCells r := List.map_append
theorem bCells_get (l : List Int) (k : Nat) (hk : k < l.length) : (bCells l)[k]? = some (.int .u8 (l.getD k 0)) := by
  unfold bCells
  rw [List.getElem?_map, List.getElem?_eq_getElem hk, List.getD_eq_getElem?_getD, List.getElem?_eq_getElem hk]
  rfl
theorem bCells_nil {l : List Int} : bCells l = [] ↔ l = [] := by unfold bCells; exact List.map_eq_nil_iff

/-- A list of bytes by value. -/
structure OneB (w : World) (A : Option Addr) (c : Nat) (l : List Int) : Prop where
  le : l.length ≤ c
  cap : c ≤ maxLen
  noA : A = none → l.length = 0 ∧ c = 0
  lies : Lies w A (bCells l)
  byte : ∀ x ∈ l, isB x
section
variable {w w' : World} {A : Option Addr} {c : Nat} {l : List Int}
theorem OneB.later (h : OneB w A c l) (hb : Below w.heap.size w w') : OneB w' A c l := ⟨h.le, h.cap, h.noA, h.lies.later hb, h.byte⟩
theorem OneB.len (h : OneB w A c l) : l.length ≤ 9223372036854775807 := by
  have h1 := h.le
  have h2 := h.cap
  unfold maxLen at h2
  omega
theorem OneB.of_own {base : Nat} {e : TypeId} {v : Value} (h : w.ownsRow base e 1 v l.length (bCells l)) (hb : ∀ x ∈ l, isB x) : ∃ A c, v = .slice A l.length c ∧ OneB w A c l := by
  obtain ⟨A, c, h1, h2, h3, h4, h5⟩ := own_form h
  exact ⟨A, c, h1, ⟨h2, h3, h4, h5, hb⟩⟩
/-- The cells of one of them. -/
theorem OneB.at (h : OneB w A c l) (hne : l ≠ []) : ∃ b off, A = some ⟨b, off, none⟩ ∧ ∀ k, k < l.length → w.cell? ⟨b, off + k, none⟩ = some (.int .u8 (l.getD k 0)) := by
  obtain ⟨b, off, hA, hc⟩ := h.lies (fun e => hne (bCells_nil.1 e))
  exact ⟨b, off, hA, fun k hk => hc _ _ (bCells_get l k hk)⟩

/-- As a text. -/
theorem OneB.text {P : Program} (h : OneB w A c l) {src e dst : TypeId} (hs : P.underlying src = some (.slice e)) (he : P.underlying e = some (.int .u8)) (hd : P.underlying dst = some .string) :
    (convert src dst (.slice A l.length c)).run P w = .ok (.string (strOfNums l)) w := by
  by_cases hne : l = []
  · subst hne
    cases A with
    | none =>
      rw [run_convert_bytes_nil w src e hs he _ _ dst hd]
      rfl
    | some a =>
      rw [run_convert_bytes_string w src dst e _ _ _ hs he hd, run_bytesToString w a ([] : List Int).length c [] (by first | rfl | (simp [loadCells]; rfl))]
      rfl
  · obtain ⟨b, off, rfl, hc⟩ := h.at hne
    exact run_convert_bytes_arg w src e hs he b off l.length c l rfl hc dst hd
end
theorem str_inj {l r : List Int} (hl : ∀ x ∈ l, isB x) (hr : ∀ x ∈ r, isB x) (h : strOfNums l = strOfNums r) : l = r := by
  have h1 : (l.map fun n => UInt8.ofNat n.toNat) = r.map fun n => UInt8.ofNat n.toNat := by
    have := congrArg (fun s : ByteArray => s.data.toList) h
    simpa [strOfNums_data] using this
  have back : ∀ m : List Int, (∀ x ∈ m, isB x) → (m.map fun n => UInt8.ofNat n.toNat).map (fun u : UInt8 => (u.toNat : Int)) = m := fun m hm => by
    rw [List.map_map]
    refine (List.map_congr_left fun x hx => ?_).trans (List.map_id m)
    have hb := hm x hx
    show ((UInt8.ofNat x.toNat).toNat : Int) = x
    rw [UInt8.toNat_ofNat']
    unfold isB at hb
    omega
  rw [← back l hl, ← back r hr, h1]
theorem str_eq {l r : List Int} (hl : ∀ x ∈ l, isB x) (hr : ∀ x ∈ r, isB x) : ((strOfNums l).toList == (strOfNums r).toList) = decide (l = r) := by
  rw [← beq_toListBytes, Bool.eq_iff_iff, decide_eq_true_eq]
  exact ⟨fun h => str_inj hl hr ((MapKept.bytes_beq _ _).1 h), fun h => by rw [h]; exact (MapKept.bytes_beq _ _).2 rfl⟩

namespace Pk
/-- A number's bytes: groups of seven bits, the lowest first. -/
def nb : Nat → Nat → List Int
  | 0, n => [(n : Int)]
  | f + 1, n => if n < 128 then [(n : Int)] else ((n % 128 + 128 : Nat) : Int) :: nb f (n / 128)
def bytesOf (n : Nat) : List Int := nb 9 n
theorem nb_byte : ∀ f n, n < 128 ^ (f + 1) → ∀ x ∈ nb f n, isB x
  | 0, n, h, x, hx => by
    simp [nb] at hx
    subst hx
    unfold isB
    simp at h
    omega
  | f + 1, n, h, x, hx => by
    unfold nb at hx
    split at hx
    · simp at hx
      subst hx
      unfold isB
      omega
    · rcases List.mem_cons.1 hx with rfl | hx
      · unfold isB
        omega
      · refine nb_byte f (n / 128) ?_ x hx
        rw [Nat.div_lt_iff_lt_mul (by omega)]
        rw [Nat.pow_succ] at h
        exact h
theorem nb_len : ∀ f n, 1 ≤ (nb f n).length ∧ (nb f n).length ≤ f + 1
  | 0, n => by simp [nb]
  | f + 1, n => by
    have h := nb_len f (n / 128)
    unfold nb
    split
    · simp
    · simp
      omega
/-- What bytes are worth, the lowest first. -/
def val : List Int → Int
  | [] => 0
  | b :: r => val r * 128 + b % 128
theorem val_nb : ∀ f n, n < 128 ^ (f + 1) → val (nb f n) = (n : Int)
  | 0, n, h => by
    simp at h
    show (0 : Int) * 128 + (n : Int) % 128 = n
    omega
  | f + 1, n, h => by
    unfold nb
    split
    · show (0 : Int) * 128 + (n : Int) % 128 = n
      omega
    · have hd : n / 128 < 128 ^ (f + 1) := by
        rw [Nat.div_lt_iff_lt_mul (by omega)]
        rw [Nat.pow_succ] at h
        exact h
      show val (nb f (n / 128)) * 128 + ((n % 128 + 128 : Nat) : Int) % 128 = n
      rw [val_nb f (n / 128) hd]
      omega
/-- How many of the first k bytes have the bit 128, up to the first one without it. -/
def lead : Nat → List Int → Nat
  | 0, _ => 0
  | _, [] => 0
  | k + 1, b :: r => if 128 ≤ b then lead k r + 1 else 0
/-- The number that bytes begin with, how many bytes it has, the error's number. -/
def num (l : List Int) : Int × Int × Int :=
  if lead 9 l = 9 then (0, 0, 4)
  else if lead 9 l = l.length then (0, 0, 5)
  else if l.getD (lead 9 l) 0 = 0 ∧ 0 < lead 9 l then (0, 0, 4)
  else (val (l.take (lead 9 l + 1)), (lead 9 l : Int) + 1, 0)
theorem lead_le : ∀ k l, lead k l ≤ k ∧ lead k l ≤ l.length
  | 0, l => ⟨Nat.le_refl _, Nat.zero_le _⟩
  | k + 1, [] => ⟨Nat.zero_le _, Nat.le_refl _⟩
  | k + 1, b :: r => by
    have h := lead_le k r
    unfold lead
    split
    · simp
      omega
    · simp
theorem lead_high : ∀ k l j, j < lead k l → 128 ≤ l.getD j 0
  | 0, l, j, h => by simp [lead] at h
  | k + 1, [], j, h => by simp [lead] at h
  | k + 1, b :: r, j, h => by
    unfold lead at h
    split at h
    · rename_i hb
      cases j with
      | zero => exact hb
      | succ m => exact lead_high k r m (by omega)
    · omega
theorem lead_low : ∀ k l, lead k l < k → lead k l < l.length → l.getD (lead k l) 0 < 128
  | 0, l, h, _ => by omega
  | k + 1, [], _, h2 => by simp [lead] at h2
  | k + 1, b :: r, h, h2 => by
    unfold lead at h h2 ⊢
    split at h
    · rename_i hb
      rw [if_pos hb] at h2 ⊢
      have := lead_low k r (by omega) (by simpa using h2)
      simpa using this
    · rename_i hb
      rw [if_neg hb]
      show b < 128
      omega
/-- Up to here, all have the bit; so the first one without it is not ahead of here. -/
theorem lead_at (k : Nat) (l : List Int) (i : Nat) (hi : i ≤ k) (hl : i ≤ l.length) (h : ∀ j, j < i → 128 ≤ l.getD j 0) : i ≤ lead k l := by
  rcases Nat.lt_or_ge (lead k l) i with hlt | hge
  · have h1 := lead_low k l (by omega) (by omega)
    have h2 := h _ hlt
    omega
  · exact hge
end Pk

end Go.Proofs.Ytbbmngabbbehcaa
namespace Go.Proofs.Ytbbmngabbbehcaa
open Go.RowKit

theorem infoBy : (Try.prog.info? 5).map (fun i => (i.zero, i.size, i.bytes)) = some (some (.int .u8 0), 1, 1) := by kernel_rfl

/-- A list of bytes is answered, in memory of the call's own; what was there before is as it was. -/
def GivesB (l : List Int) (w : World) (e : Ending) (w' : World) : Prop :=
  ∃ v, e = .returned v ∧ w'.ownsRow w.heap.size 5 1 v l.length (bCells l) ∧ Below w.heap.size w w'

set_option maxHeartbeats 800000 in
theorem bcopy_any (A : Option Addr) (c1 : Nat) (l : List Int) (w : World) (hl : l.length ≤ 140737488355328) (h1 : OneB w A c1 l) :
    Calls Try.prog 42 #[.slice A l.length c1] w (GivesB l w) := by
  obtain ⟨i0, hi, hz0, hz1, hz2⟩ := info_parts infoBy
  have hown : (w.alloc (.cells #[] 5)).ownsRow w.heap.size 5 1 (.slice (some ⟨w.heap.size, 0, none⟩) 0 0) 0 [] :=
    ⟨rfl, .inr ⟨w.heap.size, 0, #[], rfl, Nat.le_refl _, heap_alloc_new w _, Nat.le_refl _, Nat.zero_le _, rfl, rfl⟩⟩
  have HA := Lib.hid h1.noA
  go_enter Try.func42, Try.ntmps42
  go_wp2_with (at_builtin; refine wpList_append_lies _ rfl _ _ 23 rfl w.heap.size 5 i0 (.int .u8 0) 1 1 Try.underlying23 hi hz0 hz1 hz2 rfl (by decide) _ 0 [] rfl hown A l.length c1 HA.out (bCells l) rfl (by rw [bCells_length, Nat.mul_one]) (h1.lies.alloc _) (bCells_one l) ?c3 ?c4 ?c5 ?_)
  case c3 => unfold maxLen; omega
  case c4 => omega
  case c5 => simp
  intro v' w1 hown1 hg1 _
  have hbw : Below w.heap.size w w1 := (below_new (Below.refl _ _) (.cells #[] 5)).grown hg1 (by simp) (by intro k hk; simp [Value.ownBlock] at hk; omega)
  try simp only [Nat.zero_add, List.nil_append] at hown1
  have HO := Lib.hid hown1
  clear hown hown1 hg1
  go_wp2
  go_ret
  exact ⟨_, rfl, HO.out, hbw⟩

set_option maxHeartbeats 800000 in
theorem bsame_any (A B : Option Addr) (c1 c2 : Nat) (l r : List Int) (w : World) (h1 : OneB w A c1 l) (h2 : OneB w B c2 r) :
    Calls Try.prog 39 #[.slice A l.length c1, .slice B r.length c2] w fun e w' => e = .returned (.bool (decide (l = r))) ∧ Below w.heap.size w w' := by
  have k1 := h1.text (P := Try.prog) Try.underlying23 Try.underlying5 Try.underlying9
  have k2 := h2.text (P := Try.prog) Try.underlying23 Try.underlying5 Try.underlying9
  have ke := str_eq h1.byte h2.byte
  obtain ⟨q, hq⟩ : ∃ q, decide (l = r) = q := ⟨_, rfl⟩
  rw [hq] at ke ⊢
  obtain ⟨s, hs⟩ : ∃ s, strOfNums l = s := ⟨_, rfl⟩
  obtain ⟨t, ht⟩ : ∃ t, strOfNums r = t := ⟨_, rfl⟩
  rw [hs] at k1 ke
  rw [ht] at k2 ke
  clear h1 h2 hq hs ht
  go_enter Try.func39, Try.ntmps39
  go_wp2
  go_ret
  exact ⟨by first | rfl | (rw [← ke]; rfl), Below.refl _ _⟩

set_option maxRecDepth 100000 in
set_option maxHeartbeats 1600000 in
theorem bytes_any (n : Nat) (w : World) (hn : n ≤ 9223372036854775807) : Calls Try.prog 47 #[.int .i64 (n : Int)] w (GivesB (Pk.bytesOf n) w) := by
  obtain ⟨i0, hi, hz0, hz1, hz2⟩ := info_parts infoBy
  have hpw : n < 128 ^ (9 + 1) := Nat.lt_of_le_of_lt hn (by decide)
  go_enter Try.func47, Try.ntmps47
  go_wp2_with fail
  go_loopw [0, 3] (fun s0 s3 wr => ∃ (f m : Nat) (pre : List Int), s0 = .int .i64 (m : Int) ∧ wr.ownsRow w.heap.size 5 1 s3 pre.length (bCells pre) ∧ pre ++ Pk.nb f m = Pk.bytesOf n ∧ m < 128 ^ (f + 1) ∧ m ≤ n ∧ pre.length + f = 9 ∧ Below w.heap.size w wr) (fun s0 _ _ => (intOf s0).toNat)
  case atStart => exact ⟨9, n, [], rfl, ⟨rfl, .inl ⟨rfl, rfl⟩⟩, rfl, hpw, Nat.le_refl _, rfl, Below.refl _ _⟩
  case round =>
    obtain ⟨f, m, pre, rfl, hown, hpre, hm, hmn, hf, hbw⟩ := hrel
    by_cases hge : 128 ≤ m
    · have hd : decide ((128 : Int) ≤ (m : Int)) = true := decide_eq_true (by omega)
      obtain ⟨f', rfl⟩ : ∃ f', f = f' + 1 := by
        cases f with
        | zero => simp at hm; omega
        | succ f' => exact ⟨f', rfl⟩
      have hnx : (pre ++ [(m : Int) % 128 + 128]) ++ Pk.nb f' (m / 128) = Pk.bytesOf n := by
        rw [← hpre, List.append_assoc]
        congr 1
        rw [Pk.nb, if_neg (by omega)]
        show ((m : Int) % 128 + 128) :: Pk.nb f' (m / 128) = _
        congr 1
      have hdv : m / 128 < 128 ^ (f' + 1) := by
        rw [Nat.div_lt_iff_lt_mul (by omega)]
        rw [Nat.pow_succ] at hm
        exact hm
      have hlt : m / 128 < m := by omega
      have hsz := hbw.size
      have HNX := Lib.hid hnx
      have HDV := Lib.hid hdv
      clear hnx hdv hpre hm
      go_wp2_with (at_builtin; refine wpList_append_lies _ rfl _ _ 23 rfl w.heap.size 5 i0 (.int .u8 0) 1 1 Try.underlying23 hi hz0 hz1 hz2 rfl (by decide) _ pre.length (bCells pre) rfl (hown.alloc _) (some ⟨wr.heap.size, 0, none⟩) 1 1 (fun h => by cases h) (bCells [(m : Int) % 128 + 128]) rfl rfl ?c1 (bCells_one _) ?c3 ?c4 ?c5 ?_)
      case c1 =>
        intro _
        refine ⟨wr.heap.size, 0, rfl, fun j u hu => ?_⟩
        rw [Nat.zero_add]
        exact (Blk.new wr 5 #[.int .u8 ((m : Int) % 128 + 128)]).cell (by simpa [bCells] using hu)
      case c3 => unfold maxLen; omega
      case c4 => omega
      case c5 => simp; omega
      intro v' w1 hown1 hg1 _
      have hb1 : Below w.heap.size w w1 := (below_new hbw _).grown hg1 (by simp; omega) (fun k' hk' => by have := own_ge hown _ hk'; omega)
      rw [← bCells_append, show pre.length + 1 = (pre ++ [(m : Int) % 128 + 128]).length from by simp] at hown1
      have HO := Lib.hid hown1
      clear hown1 hown hg1
      go_wp2_with fail
      go_roundw
      case rel => exact ⟨f', m / 128, pre ++ [(m : Int) % 128 + 128], by first | rfl | simp, HO.out, HNX.out, HDV.out, by omega, by simp; omega, hb1⟩
      case measure => simp [intOf]; omega
    · have hd : decide ((128 : Int) ≤ (m : Int)) = false := decide_eq_false (by omega)
      have hone : Pk.nb f m = [(m : Int)] := by
        cases f with
        | zero => rfl
        | succ f' => rw [Pk.nb, if_pos (by omega)]
      have hfin : pre ++ [(m : Int)] = Pk.bytesOf n := by rw [← hpre, hone]
      have hsz := hbw.size
      have HFIN := Lib.hid hfin
      clear hone hfin hpre hm
      go_wp2_with (at_builtin; refine wpList_append_lies _ rfl _ _ 23 rfl w.heap.size 5 i0 (.int .u8 0) 1 1 Try.underlying23 hi hz0 hz1 hz2 rfl (by decide) _ pre.length (bCells pre) rfl (hown.alloc _) (some ⟨wr.heap.size, 0, none⟩) 1 1 (fun h => by cases h) (bCells [(m : Int)]) rfl rfl ?c1 (bCells_one _) ?c3 ?c4 ?c5 ?_)
      case c1 =>
        intro _
        refine ⟨wr.heap.size, 0, rfl, fun j u hu => ?_⟩
        rw [Nat.zero_add]
        exact (Blk.new wr 5 #[.int .u8 ((m : Int))]).cell (by simpa [bCells] using hu)
      case c3 => unfold maxLen; omega
      case c4 => omega
      case c5 => simp; omega
      intro v' w1 hown1 hg1 _
      have hb1 : Below w.heap.size w w1 := (below_new hbw _).grown hg1 (by simp; omega) (fun k' hk' => by have := own_ge hown _ hk'; omega)
      rw [← bCells_append, show pre.length + 1 = (pre ++ [(m : Int)]).length from by simp] at hown1
      have HO := Lib.hid hown1
      clear hown1 hown hg1
      go_wp2
      go_ret
      exact ⟨_, rfl, by rw [← HFIN.out]; exact HO.out, hb1⟩

namespace Pk
theorem val_nat : ∀ l : List Int, (∀ x ∈ l, isB x) → ∃ v : Nat, val l = (v : Int) ∧ v < 128 ^ l.length
  | [], _ => ⟨0, rfl, by simp⟩
  | b :: r, h => by
    obtain ⟨v, h1, h2⟩ := val_nat r (fun x hx => h x (List.mem_cons_of_mem _ hx))
    refine ⟨v * 128 + (b % 128).toNat, ?_, ?_⟩
    · show val r * 128 + b % 128 = _
      rw [h1]
      have : 0 ≤ b % 128 := Int.emod_nonneg _ (by omega)
      omega
    · rw [List.length_cons, Nat.pow_succ]
      have h3 : b % 128 < 128 := Int.emod_lt_of_pos _ (by omega)
      have h4 : 0 ≤ b % 128 := Int.emod_nonneg _ (by omega)
      omega
/-- The bytes up to place i, from place j on: the one at place j is put ahead. -/
theorem val_step (l : List Int) (i j : Nat) (hi : i < l.length) (hj : j < i + 1) : val ((l.take (i + 1)).drop j) = val ((l.take (i + 1)).drop (j + 1)) * 128 + l.getD j 0 % 128 := by
  have hlen : j < (l.take (i + 1)).length := by rw [List.length_take]; omega
  rw [List.drop_eq_getElem_cons hlen]
  show val ((l.take (i + 1)).drop (j + 1)) * 128 + (l.take (i + 1))[j] % 128 = _
  rw [List.getElem_take, List.getD_eq_getElem?_getD, List.getElem?_eq_getElem (by omega)]
  rfl
theorem val_bd (l : List Int) (i j : Nat) (h : ∀ x ∈ l, isB x) (hi : i ≤ 8) (hj : 1 ≤ j) : 0 ≤ val ((l.take (i + 1)).drop j) ∧ val ((l.take (i + 1)).drop j) < 72057594037927936 := by
  obtain ⟨v, h1, h2⟩ := val_nat ((l.take (i + 1)).drop j) (fun x hx => h x (List.mem_of_mem_take (List.mem_of_mem_drop hx)))
  have h3 : ((l.take (i + 1)).drop j).length ≤ 8 := by rw [List.length_drop, List.length_take]; omega
  have h4 : 128 ^ ((l.take (i + 1)).drop j).length ≤ 128 ^ 8 := Nat.pow_le_pow_right (by omega) h3
  have h5 : (128 : Nat) ^ 8 = 72057594037927936 := by decide
  rw [h1]
  omega
theorem num_nine {l : List Int} (h : lead 9 l = 9) : num l = (0, 0, 4) := by unfold num; rw [if_pos h]
theorem num_short {l : List Int} (h : lead 9 l = l.length) (h9 : l.length < 9) : num l = (0, 0, 5) := by unfold num; rw [if_neg (by omega), if_pos h]
theorem num_zero {l : List Int} (h9 : lead 9 l < 9) (hl : lead 9 l < l.length) (h0 : l.getD (lead 9 l) 0 = 0) (hp : 0 < lead 9 l) : num l = (0, 0, 4) := by unfold num; rw [if_neg (by omega), if_neg (by omega), if_pos ⟨h0, hp⟩]
theorem num_yes {l : List Int} (h9 : lead 9 l < 9) (hl : lead 9 l < l.length) (h : ¬ (l.getD (lead 9 l) 0 = 0 ∧ 0 < lead 9 l)) : num l = (val (l.take (lead 9 l + 1)), (lead 9 l : Int) + 1, 0) := by unfold num; rw [if_neg (by omega), if_neg (by omega), if_neg h]
def numV (r : Int × Int × Int) : Value := .tuple #[.int .i64 r.1, .int .i64 r.2.1, .int .i64 r.2.2]
end Pk

set_option maxRecDepth 100000 in
set_option maxHeartbeats 1600000 in
theorem bnum_any (A : Option Addr) (c1 : Nat) (l : List Int) (w : World) (h1 : OneB w A c1 l) :
    Calls Try.prog 89 #[.slice A l.length c1] w fun e w' => e = .returned (Pk.numV (Pk.num l)) ∧ Below w.heap.size w w' := by
  have HB := Lib.hid h1
  have hbyte := Lib.hid h1.byte
  have hl := h1.len
  clear h1
  go_enter Try.func89, Try.ntmps89
  go_wp2_with fail
  go_loopw [5] (fun s5 wr => ∃ i : Nat, i ≤ 9 ∧ i ≤ l.length ∧ s5 = .int .i64 (i : Int) ∧ (∀ j, j < i → 128 ≤ l.getD j 0) ∧ Below w.heap.size w wr) (fun s5 _ => 9 - (intOf s5).toNat)
  case atStart => exact ⟨0, by omega, by omega, rfl, fun j hj => by omega, Below.refl _ _⟩
  case round =>
    obtain ⟨i, hi9, hil, rfl, hhi, hbw⟩ := hrel
    have hlead := Pk.lead_at 9 l i hi9 hil hhi
    have hll := Pk.lead_le 9 l
    by_cases h9 : i < 9
    · by_cases hlen : i = l.length
      · have HN := Lib.hid (Pk.num_short (l := l) (by omega) (by omega))
        have hd : ((i : Int) == (l.length : Int)) = true := by rw [beq_iff_eq]; omega
        clear hhi hlead
        go_wp2
        go_ret3
        exact ⟨by rw [HN.out]; rfl, hbw⟩
      · have hlt : i < l.length := by omega
        have hd : ((i : Int) == (l.length : Int)) = false := by rw [beq_eq_false_iff_ne]; omega
        have hne : l ≠ [] := fun e => by subst e; simp at hlt
        obtain ⟨b, off, hA, hc⟩ := (HB.out.later hbw).at hne
        have HB' := HB
        subst hA
        have e0 := hc i hlt
        have hi0 : (0 : Int) ≤ (i : Int) := by omega
        have hi1 : (i : Int) < (l.length : Int) := by omega
        have hxb : isB (l.getD i 0) := hbyte.out _ (by rw [List.getD_eq_getElem?_getD, List.getElem?_eq_getElem hlt]; exact List.getElem_mem hlt)
        have hnx : 128 ≤ l.getD i 0 → ∀ j, j < i + 1 → 128 ≤ l.getD j 0 := fun h j hj => by
          by_cases e : j = i
          · rw [e]; exact h
          · exact hhi j (by omega)
        have hat : l.getD i 0 < 128 → Pk.lead 9 l = i := fun h => by
          rcases Nat.lt_or_ge i (Pk.lead 9 l) with h2 | h2
          · have := Pk.lead_high 9 l i h2
            omega
          · omega
        obtain ⟨x, hx⟩ : ∃ x, l.getD i 0 = x := ⟨_, rfl⟩
        have HX := Lib.hid hx
        rw [hx] at e0 hxb hnx hat
        unfold isB at hxb
        have HNX := Lib.hid hnx
        have HAT := Lib.hid hat
        have HC := Lib.hid hc
        clear hnx hat hhi hc hx
        by_cases hx : 128 ≤ x
        · have hd2 : decide (128 ≤ x) = true := decide_eq_true hx
          have HQ := Lib.hid (HNX.out hx)
          go_wp2_with fail
          go_roundw
          case rel => exact ⟨i + 1, by omega, by omega, by go_num, HQ.out, hbw⟩
          case measure => simp [intOf]; omega
        · have hd2 : decide (128 ≤ x) = false := decide_eq_false hx
          have hld := HAT.out (by omega)
          by_cases hz : x = 0 ∧ 0 < i
          · obtain ⟨rfl, hip⟩ := hz
            have HN := Lib.hid (Pk.num_zero (l := l) (by omega) (by omega) (by rw [hld]; exact HX.out) (by omega))
            have hd3 : decide ((0 : Int) < (i : Int)) = true := decide_eq_true (by omega)
            clear hlead hld
            go_wp2
            go_ret3
            exact ⟨by rw [HN.out]; rfl, hbw⟩
          · have hnum := Pk.num_yes (l := l) (by omega) (by omega) (by rw [hld, HX.out]; exact hz)
            rw [hld] at hnum
            have HN := Lib.hid hnum
            clear hlead hnum
            have go : ((x == 0) = false ∧ x ≠ 0) ∨ (x = 0 ∧ ¬ 0 < i) := by
              by_cases h0 : x = 0
              · exact .inr ⟨h0, by omega⟩
              · exact .inl ⟨beq_eq_false_iff_ne.2 h0, h0⟩
            clear hz hld
            rcases go with ⟨hg, hg2⟩ | ⟨rfl, hg2⟩
            all_goals
              go_wp2_with fail
              go_loopw [6, 7] (fun s6 s7 wr => ∃ j : Nat, j ≤ i + 1 ∧ s7 = .int .i64 ((j : Int) - 1) ∧ s6 = .int .i64 (Pk.val ((l.take (i + 1)).drop j)) ∧ Below w.heap.size w wr) (fun _ s7 _ => (intOf s7 + 1).toNat)
              case atStart =>
                refine ⟨i + 1, Nat.le_refl _, by first | rfl | (congr 1; omega), ?_, hbw⟩
                rw [List.drop_eq_nil_of_le (by rw [List.length_take]; omega)]
                rfl
              case round =>
                obtain ⟨j, hj, rfl, rfl, hbq⟩ := hrel
                by_cases hj0 : 0 < j
                · obtain ⟨k, rfl⟩ : ∃ k, j = k + 1 := ⟨j - 1, by omega⟩
                  have hkj : ((k + 1 : Nat) : Int) - 1 = (k : Int) := by omega
                  have hst := Pk.val_step l i k hlt (by omega)
                  have hvb := Pk.val_bd l i (k + 1) hbyte.out (by omega) (by omega)
                  have f0 := (HB.out.later hbq).at hne
                  obtain ⟨b', off', hA', hc'⟩ := f0
                  injection hA' with hA'
                  injection hA' with hA1 hA2
                  subst hA1 hA2
                  have e1 := hc' k (by omega)
                  have hk0 : (0 : Int) ≤ (k : Int) := by omega
                  have hk1 : (k : Int) < (l.length : Int) := by omega
                  have hyb : isB (l.getD k 0) := hbyte.out _ (by rw [List.getD_eq_getElem?_getD, List.getElem?_eq_getElem (by omega)]; exact List.getElem_mem (by omega))
                  obtain ⟨y, hy⟩ : ∃ y, l.getD k 0 = y := ⟨_, rfl⟩
                  rw [hy] at e1 hst hyb
                  unfold isB at hyb
                  obtain ⟨v, hv⟩ : ∃ v, Pk.val ((l.take (i + 1)).drop (k + 1)) = v := ⟨_, rfl⟩
                  rw [hv] at hst hvb ⊢
                  rw [hkj]
                  have hm := Int.emod_nonneg y (show (128 : Int) ≠ 0 by omega)
                  have hm2 := Int.emod_lt_of_pos y (show (0 : Int) < 128 by omega)
                  have HST := Lib.hid hst
                  clear hst hc' hv hy e0 HC
                  go_wp2_with fail
                  go_roundw
                  case rel => exact ⟨k, by omega, by first | rfl | (congr 1; done) | (congr 1; omega), by first | rfl | rw [HST.out], hbq⟩
                  case measure => simp [intOf]
                · obtain rfl : j = 0 := by omega
                  have hz0 : ((0 : Nat) : Int) - 1 = -1 := by omega
                  rw [hz0]
                  clear e0 HC
                  go_wp2
                  go_ret3
                  exact ⟨by rw [HN.out]; rfl, hbq⟩
    · have HN := Lib.hid (Pk.num_nine (l := l) (by omega))
      clear hhi hlead
      go_wp2
      go_ret3
      exact ⟨by rw [HN.out]; rfl, hbw⟩

end Go.Proofs.Ytbbmngabbbehcaa
