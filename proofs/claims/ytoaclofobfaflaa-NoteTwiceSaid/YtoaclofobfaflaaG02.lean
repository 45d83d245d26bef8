/-
  Plain mathematics of version vectors, part 2: the counts of a vector made of counts, joins and meets of two and of one, what covers what. Nothing of the program is imported.
  Rows of the call's own through later calls, and a row of rows. Nothing of the program is imported.
  Answers: a value; a list of pairs of numbers, wherever it lies. Lists in blocks of one's own. Nothing of the program is imported.
  Plain mathematics of sets of objects: which objects are in a list of spans; arrays of 256 marks; the list of a set. Nothing of the program is imported.
-/
import Derived.Test.YtoaclofobfaflaaG01
namespace Go.Proofs.Ytoaclofobfaflaa
namespace Ve

theorem ofTo_mem (f : Nat → Int) : ∀ k (s : Int × Int), s ∈ ofTo f k → ∃ n : Nat, n < k ∧ s = (f n, (n : Int)) ∧ 0 < f n
  | 0, s, h => by simp [ofTo] at h
  | k + 1, s, h => by
    unfold ofTo at h
    rw [List.mem_append] at h
    rcases h with h | h
    · obtain ⟨n, hn, hs⟩ := ofTo_mem f k s h
      exact ⟨n, by omega, hs⟩
    · split at h
      · rename_i hp
        rw [List.mem_singleton] at h
        exact ⟨k, by omega, h, hp⟩
      · simp at h
theorem cnt_append (l r : List (Int × Int)) (n : Nat) : cnt (l ++ r) n = if (∃ s ∈ l, St.rgt s.1 s.2 = true ∧ s.2 = (n : Int)) then cnt l n else cnt r n := by
  induction l with
  | nil => simp
  | cons s l ih =>
    rw [List.cons_append]
    by_cases h : St.rgt s.1 s.2 = true ∧ s.2 = (n : Int)
    · rw [if_pos ⟨s, List.mem_cons_self .., h⟩]
      unfold cnt
      rw [if_pos h, if_pos h]
    · have e1 : cnt (s :: (l ++ r)) n = cnt (l ++ r) n := by rw [cnt, if_neg h]
      have e2 : cnt (s :: l) n = cnt l n := by rw [cnt, if_neg h]
      rw [e1, e2, ih]
      by_cases hx : ∃ s ∈ l, St.rgt s.1 s.2 = true ∧ s.2 = (n : Int)
      · obtain ⟨t, ht, hp⟩ := hx
        rw [if_pos ⟨t, ht, hp⟩, if_pos ⟨t, List.mem_cons_of_mem _ ht, hp⟩]
      · rw [if_neg hx, if_neg (fun ⟨t, ht, hp⟩ => by
          rcases List.mem_cons.1 ht with rfl | ht
          · exact h hp
          · exact hx ⟨t, ht, hp⟩)]
theorem rgt_of (c : Int) (n : Nat) (hc : 0 < c) (hn : n < 64) : St.rgt c (n : Int) = true := by
  unfold St.rgt
  exact decide_eq_true ⟨by omega, by omega, by omega⟩
theorem cnt_ofTo (f : Nat → Int) (hf : ∀ n, 0 ≤ f n) : ∀ k, k ≤ 64 → ∀ n, cnt (ofTo f k) n = if n < k then f n else 0
  | 0, _, n => by simp [ofTo, cnt]
  | k + 1, hk, n => by
    have ih := cnt_ofTo f hf k (by omega) n
    unfold ofTo
    rw [cnt_append, ih]
    by_cases hx : ∃ s ∈ ofTo f k, St.rgt s.1 s.2 = true ∧ s.2 = (n : Int)
    · rw [if_pos hx]
      obtain ⟨s, hs, _, h2⟩ := hx
      obtain ⟨m, hm, rfl, _⟩ := ofTo_mem f k s hs
      have : m = n := by simp at h2; omega
      subst this
      rw [if_pos hm, if_pos (by omega)]
    · rw [if_neg hx]
      by_cases hn : n < k
      · have h0 : cnt (ofTo f k) n = 0 := by
          have := cnt_append (ofTo f k) [] n
          rw [if_neg hx, List.append_nil] at this
          rw [this]; rfl
        rw [ih, if_pos hn] at h0
        rw [if_pos (show n < k + 1 by omega), h0]
        split
        · unfold cnt
          rw [if_neg (fun h => by have := h.2; simp at this; omega)]
          rfl
        · rfl
      · by_cases e : n = k
        · subst e
          rw [if_pos (show n < n + 1 by omega)]
          split
          · rename_i hp
            unfold cnt
            rw [if_pos ⟨rgt_of _ _ hp (by omega), rfl⟩]
          · rename_i hp
            have := hf n
            unfold cnt
            omega
        · rw [if_neg (show ¬ n < k + 1 by omega)]
          split
          · unfold cnt
            rw [if_neg (fun h => by have := h.2; simp at this; omega)]
            rfl
          · rfl
theorem cnt_ofL (f : Nat → Int) (hf : ∀ n, 0 ≤ f n) (n : Nat) (hn : n < 64) : cnt (ofL f) n = f n := by
  unfold ofL
  rw [cnt_ofTo f hf 64 (Nat.le_refl _) n, if_pos hn]

/-- The vector of a vector's counts is that vector. -/
theorem ofL_cnt_ofL (f : Nat → Int) (hf : ∀ n, 0 ≤ f n) : ofL (cnt (ofL f)) = ofL f := ofL_ext (fun i hi => cnt_ofL f hf i hi)

theorem cov_ext {f f' g g' : Nat → Int} (h1 : ∀ n, n < 64 → f n = f' n) (h2 : ∀ n, n < 64 → g n = g' n) : cov f g = cov f' g' := by
  have : cov f g = true ↔ cov f' g' = true := by
    rw [cov_iff, cov_iff]
    exact ⟨fun h n hn => by rw [← h1 n hn, ← h2 n hn]; exact h n hn, fun h n hn => by rw [h1 n hn, h2 n hn]; exact h n hn⟩
  cases hx : cov f g <;> cases hy : cov f' g' <;> simp [hx, hy] at this ⊢

theorem jn_two (l r : List (Int × Int)) (n : Nat) : jn [l, r] n = if cnt l n < cnt r n then cnt r n else cnt l n := by
  have h0 : jnTo [l, r] 1 n = cnt l n := by
    have := cnt_nonneg l n
    show (if (0 : Int) < cnt l n then cnt l n else 0) = cnt l n
    split <;> omega
  show (if jnTo [l, r] 1 n < cnt r n then cnt r n else jnTo [l, r] 1 n) = _
  rw [h0]
theorem mt_two (l r : List (Int × Int)) (n : Nat) : mt [l, r] n = if cnt r n < cnt l n then cnt r n else cnt l n := rfl
theorem jn_nonneg (ls : List (List (Int × Int))) (n : Nat) : 0 ≤ jn ls n := jnTo_nonneg ls _ n
theorem mt_nonneg (ls : List (List (Int × Int))) (n : Nat) : 0 ≤ mt ls n := mtTo_nonneg ls _ n

/-- Is it a vector, up to place k? -/
def fmTo (l : List (Int × Int)) (k : Nat) : Prop := ∀ j, j < k → St.rgt (l.getD j (0, 0)).1 (l.getD j (0, 0)).2 = true ∧ (0 < j → (l.getD (j - 1) (0, 0)).2 < (l.getD j (0, 0)).2)
def fmd (l : List (Int × Int)) : Bool := decide (∀ j : Fin l.length, St.rgt (l.getD j.val (0, 0)).1 (l.getD j.val (0, 0)).2 = true ∧ (0 < j.val → (l.getD (j.val - 1) (0, 0)).2 < (l.getD j.val (0, 0)).2))
theorem fmd_iff (l : List (Int × Int)) : fmd l = true ↔ fmTo l l.length := by
  unfold fmd fmTo
  rw [decide_eq_true_iff]
  exact ⟨fun h j hj => h ⟨j, hj⟩, fun h j => h j.val j.isLt⟩
theorem fmd_no {l : List (Int × Int)} (k : Nat) (hk : k < l.length) (h : ¬ (St.rgt (l.getD k (0, 0)).1 (l.getD k (0, 0)).2 = true ∧ (0 < k → (l.getD (k - 1) (0, 0)).2 < (l.getD k (0, 0)).2))) : fmd l = false := by
  cases hc : fmd l with
  | false => rfl
  | true => exact absurd ((fmd_iff l).1 hc k hk) h

theorem getD_left (l r : List (Int × Int)) (j : Nat) (h : j < l.length) : (l ++ r).getD j (0, 0) = l.getD j (0, 0) := by
  rw [List.getD_eq_getElem?_getD, List.getD_eq_getElem?_getD, List.getElem?_append_left h]
theorem getD_last (l : List (Int × Int)) (s : Int × Int) : (l ++ [s]).getD l.length (0, 0) = s := by
  rw [List.getD_eq_getElem?_getD, List.getElem?_append_right (Nat.le_refl _), Nat.sub_self]
  rfl
theorem getD_mem (l : List (Int × Int)) (j : Nat) (h : j < l.length) : l.getD j (0, 0) ∈ l := by
  rw [List.getD_eq_getElem?_getD, List.getElem?_eq_getElem h]
  exact List.getElem_mem h
theorem fmTo_ofTo (f : Nat → Int) : ∀ k, k ≤ 64 → fmTo (ofTo f k) (ofTo f k).length
  | 0, _ => fun j hj => by simp [ofTo] at hj
  | k + 1, hk => by
    have ih := fmTo_ofTo f k (by omega)
    intro j hj
    unfold ofTo at hj ⊢
    by_cases hp : 0 < f k
    · rw [if_pos hp] at hj ⊢
      by_cases h : j < (ofTo f k).length
      · obtain ⟨h1, h2⟩ := ih j h
        rw [getD_left _ _ _ h]
        refine ⟨h1, fun h0 => ?_⟩
        rw [getD_left _ _ _ (by omega)]
        exact h2 h0
      · have e : j = (ofTo f k).length := by simp at hj; omega
        subst e
        rw [getD_last]
        refine ⟨rgt_of _ _ hp (by omega), fun h0 => ?_⟩
        rw [getD_left _ _ _ (by omega)]
        obtain ⟨n, hn, hs, _⟩ := ofTo_mem f k _ (getD_mem (ofTo f k) ((ofTo f k).length - 1) (by omega))
        rw [hs]
        show (n : Int) < (k : Int)
        omega
    · rw [if_neg hp, List.append_nil] at hj ⊢
      exact ih j hj
theorem fmd_ofL (f : Nat → Int) : fmd (ofL f) = true := (fmd_iff _).2 (fmTo_ofTo f 64 (Nat.le_refl _))

/-- The lattice's laws. -/
theorem cov_jn_left (l r : List (Int × Int)) : cov (jn [l, r]) (cnt l) = true := (cov_iff _ _).2 (fun n _ => by rw [jn_two]; split <;> omega)
theorem cov_jn_right (l r : List (Int × Int)) : cov (jn [l, r]) (cnt r) = true := (cov_iff _ _).2 (fun n _ => by rw [jn_two]; split <;> omega)
theorem cov_mt_left (l r : List (Int × Int)) : cov (cnt l) (mt [l, r]) = true := (cov_iff _ _).2 (fun n _ => by rw [mt_two]; split <;> omega)
theorem cov_mt_right (l r : List (Int × Int)) : cov (cnt r) (mt [l, r]) = true := (cov_iff _ _).2 (fun n _ => by rw [mt_two]; split <;> omega)
theorem cov_least (l r : List (Int × Int)) (f : Nat → Int) (h1 : cov f (cnt l) = true) (h2 : cov f (cnt r) = true) : cov f (jn [l, r]) = true := (cov_iff _ _).2 (fun n hn => by
  have a := (cov_iff _ _).1 h1 n hn
  have b := (cov_iff _ _).1 h2 n hn
  rw [jn_two]
  split <;> omega)
theorem cov_greatest (l r : List (Int × Int)) (f : Nat → Int) (h1 : cov (cnt l) f = true) (h2 : cov (cnt r) f = true) : cov (mt [l, r]) f = true := (cov_iff _ _).2 (fun n hn => by
  have a := (cov_iff _ _).1 h1 n hn
  have b := (cov_iff _ _).1 h2 n hn
  rw [mt_two]
  split <;> omega)
theorem jn_comm (l r : List (Int × Int)) : jn [l, r] = jn [r, l] := by
  funext n
  rw [jn_two, jn_two]
  split <;> split <;> omega
theorem mt_comm (l r : List (Int × Int)) : mt [l, r] = mt [r, l] := by
  funext n
  rw [mt_two, mt_two]
  split <;> split <;> omega
theorem joinL_comm (l r : List (Int × Int)) : joinL [l, r] = joinL [r, l] := by unfold joinL; rw [jn_comm]
theorem meetL_two (l r : List (Int × Int)) : meetL [l, r] = ofL (mt [l, r]) := by unfold meetL; rw [if_neg (by simp)]
theorem meetL_comm (l r : List (Int × Int)) : meetL [l, r] = meetL [r, l] := by rw [meetL_two, meetL_two, mt_comm]
theorem cnt_joinL (ls : List (List (Int × Int))) (n : Nat) (hn : n < 64) : cnt (joinL ls) n = jn ls n := cnt_ofL _ (jn_nonneg ls) n hn
theorem cnt_meet2 (l r : List (Int × Int)) (n : Nat) (hn : n < 64) : cnt (meetL [l, r]) n = mt [l, r] n := by
  rw [meetL_two]
  exact cnt_ofL _ (mt_nonneg [l, r]) n hn
theorem max_assoc (x y z : Int) : (if (if x < y then y else x) < z then z else (if x < y then y else x)) = (if x < (if y < z then z else y) then (if y < z then z else y) else x) := by
  by_cases h1 : x < y
  · rw [if_pos h1]
    by_cases h2 : y < z
    · rw [if_pos h2, if_pos (by omega)]
    · rw [if_neg h2, if_pos h1]
  · rw [if_neg h1]
    by_cases h2 : y < z
    · rw [if_pos h2]
    · rw [if_neg h2, if_neg h1, if_neg (by omega)]
theorem stand_assoc (a b c : List (Int × Int)) : stand (cnt (joinL [joinL [a, b], c])) (cnt (joinL [a, joinL [b, c]])) = 0 := by
  have h : ∀ n, n < 64 → cnt (joinL [joinL [a, b], c]) n = cnt (joinL [a, joinL [b, c]]) n := fun n hn => by
    rw [cnt_joinL _ n hn, cnt_joinL _ n hn, jn_two, jn_two, cnt_joinL _ n hn, cnt_joinL _ n hn, jn_two, jn_two]
    exact max_assoc _ _ _
  have h1 : cov (cnt (joinL [joinL [a, b], c])) (cnt (joinL [a, joinL [b, c]])) = true := (cov_iff _ _).2 (fun n hn => by rw [h n hn]; omega)
  have h2 : cov (cnt (joinL [a, joinL [b, c]])) (cnt (joinL [joinL [a, b], c])) = true := (cov_iff _ _).2 (fun n hn => by rw [h n hn]; omega)
  unfold stand
  rw [if_pos h1, if_pos h2]
/-- The join of a list and nothing is the vector of that list's counts. -/
theorem joinL_none (l : List (Int × Int)) : joinL [l, []] = ofL (cnt l) := ofL_ext (fun n _ => by
  rw [jn_two]
  have := cnt_nonneg l n
  show (if cnt l n < 0 then 0 else cnt l n) = cnt l n
  split <;> omega)
/-- The join of one list is the vector of that list's counts. -/
theorem joinL_one (l : List (Int × Int)) : joinL [l] = ofL (cnt l) := ofL_ext (fun n _ => by
  have := cnt_nonneg l n
  show (if (0 : Int) < cnt l n then cnt l n else 0) = cnt l n
  split <;> omega)
theorem cov_join_left (l r : List (Int × Int)) : cov (cnt (joinL [l, r])) (cnt l) = true := by rw [cov_ext (fun n hn => cnt_joinL [l, r] n hn) (fun n _ => rfl)]; exact cov_jn_left l r
theorem cov_join_right (l r : List (Int × Int)) : cov (cnt (joinL [l, r])) (cnt r) = true := by rw [cov_ext (fun n hn => cnt_joinL [l, r] n hn) (fun n _ => rfl)]; exact cov_jn_right l r
theorem cov_meet_left (l r : List (Int × Int)) : cov (cnt l) (cnt (meetL [l, r])) = true := by rw [cov_ext (fun n _ => rfl) (fun n hn => cnt_meet2 l r n hn)]; exact cov_mt_left l r
theorem cov_meet_right (l r : List (Int × Int)) : cov (cnt r) (cnt (meetL [l, r])) = true := by rw [cov_ext (fun n _ => rfl) (fun n hn => cnt_meet2 l r n hn)]; exact cov_mt_right l r
theorem cov_join_least (l r : List (Int × Int)) (f : Nat → Int) (h1 : cov f (cnt l) = true) (h2 : cov f (cnt r) = true) : cov f (cnt (joinL [l, r])) = true := by rw [cov_ext (fun n _ => rfl) (fun n hn => cnt_joinL [l, r] n hn)]; exact cov_least l r f h1 h2
theorem cov_meet_greatest (l r : List (Int × Int)) (f : Nat → Int) (h1 : cov (cnt l) f = true) (h2 : cov (cnt r) f = true) : cov (cnt (meetL [l, r])) f = true := by rw [cov_ext (fun n hn => cnt_meet2 l r n hn) (fun n _ => rfl)]; exact cov_greatest l r f h1 h2
theorem fmd_joinL (ls : List (List (Int × Int))) : fmd (joinL ls) = true := fmd_ofL _
theorem fmd_meet2 (l r : List (Int × Int)) : fmd (meetL [l, r]) = true := by rw [meetL_two]; exact fmd_ofL _

end Ve
end Go.Proofs.Ytoaclofobfaflaa
namespace Go.Proofs.Ytoaclofobfaflaa
open Go.RowKit

section
variable {w w' : World} {base size n : Nat} {e : TypeId} {v : Value} {xs : List Value}
theorem own_lt (h : w.ownsRow base e size v n xs) : ∀ k, v.ownBlock = some k → k < w.heap.size := by
  intro k hk
  rcases h.2 with ⟨rfl, _⟩ | ⟨g, cap, cur, rfl, _, hh, _⟩
  · simp [Value.ownBlock] at hk
  · simp [Value.ownBlock] at hk
    subst hk
    exact (Array.getElem?_eq_some_iff.1 hh).1
theorem own_stays (h : w.ownsRow base e size v n xs) (hs : ∀ k, v.ownBlock = some k → w'.heap[k]? = w.heap[k]?) : w'.ownsRow base e size v n xs := by
  obtain ⟨h0, h1⟩ := h
  refine ⟨h0, ?_⟩
  rcases h1 with h1 | ⟨g, cap, cur, hv, hg, hh, r⟩
  · exact .inl h1
  · refine .inr ⟨g, cap, cur, hv, hg, ?_, r⟩
    rw [hs g (by rw [hv]; rfl)]
    exact hh
theorem own_later (h : w.ownsRow base e size v n xs) (hb : Below w.heap.size w w') : w'.ownsRow base e size v n xs :=
  own_stays h (fun k hk => hb.block k (own_lt h k hk))
/-- Rows of different kinds lie in different blocks. -/
theorem own_apart {base' size' n' : Nat} {e' : TypeId} {v' : Value} {xs' : List Value} (h : w.ownsRow base e size v n xs) (h' : w.ownsRow base' e' size' v' n' xs') (hne : e ≠ e') : ∀ k, v.ownBlock = some k → some k ≠ v'.ownBlock := by
  intro k hk hk'
  rcases h.2 with ⟨rfl, _⟩ | ⟨g, cap, cur, rfl, _, hh, _⟩
  · simp [Value.ownBlock] at hk
  · rcases h'.2 with ⟨rfl, _⟩ | ⟨g', cap', cur', rfl, _, hh', _⟩
    · simp [Value.ownBlock] at hk'
    · simp [Value.ownBlock] at hk hk'
      subst hk
      subst hk'
      rw [hh] at hh'
      simp at hh'
      exact hne hh'.2
end

/-- The cells of a row of lists. -/
def rowCells : List (Option Addr × Nat) → List (List (Int × Int)) → List Value
  | [], _ => []
  | _ :: _, [] => []
  | x :: cs, l :: ls => .slice x.1 l.length x.2 :: rowCells cs ls
theorem rowCells_snoc : ∀ (cs : List (Option Addr × Nat)) (x : Option Addr × Nat) (ls : List (List (Int × Int))) (_ : cs.length < ls.length), rowCells (cs ++ [x]) ls = rowCells cs ls ++ [.slice x.1 (ls.getD cs.length []).length x.2]
  | [], x, [], h => by simp at h
  | [], x, l :: ls, _ => by simp [rowCells]
  | c :: cs, x, [], h => by simp at h
  | c :: cs, x, l :: ls, h => by
    have := rowCells_snoc cs x ls (by simpa using h)
    simp [rowCells, this]
theorem rowCells_get : ∀ (cs : List (Option Addr × Nat)) (ls : List (List (Int × Int))) (k : Nat), k < cs.length → k < ls.length → (rowCells cs ls)[k]? = some (.slice (cs.getD k (none, 0)).1 (ls.getD k []).length (cs.getD k (none, 0)).2)
  | [], _, k, h, _ => by simp at h
  | c :: cs, [], k, _, h => by simp at h
  | c :: cs, l :: ls, 0, _, _ => by simp [rowCells]
  | c :: cs, l :: ls, k + 1, h, h' => by
    have := rowCells_get cs ls k (by simpa using h) (by simpa using h')
    simpa [rowCells] using this
end Go.Proofs.Ytoaclofobfaflaa
namespace Go.Proofs.Ytoaclofobfaflaa
open Go.RowKit

/-- A list is answered; what was there before is as it was. -/
def Ans (l : List (Int × Int)) (w : World) (e : Ending) (w' : World) : Prop := ∃ A c, e = .returned (.slice A l.length c) ∧ OneL w' A c l ∧ Below w.heap.size w w'
/-- A value is answered; what was there before is as it was. -/
def Says (v : Value) (w : World) (e : Ending) (w' : World) : Prop := e = .returned v ∧ Below w.heap.size w w'

theorem two_slots (w : World) (x y : Value) (t : TypeId) : Blk (w.alloc (.cells #[x, y] t)) w.heap.size t #[x, y] := Blk.new w t _

/-- Two lists in a block of two. -/
theorem rows_two {w : World} {g : Nat} {t : TypeId} {A B : Option Addr} {c d : Nat} {l r : List (Int × Int)} (hB : Blk w g t #[.slice A l.length c, .slice B r.length d]) (h1 : OneL w A c l) (h2 : OneL w B d r) : Rows w (some ⟨g, 0, none⟩) [l, r] := fun _ => ⟨g, 0, rfl, fun k hk => by
  have hk2 : k = 0 ∨ k = 1 := by simp at hk; omega
  rcases hk2 with rfl | rfl
  · exact ⟨A, c, hB.cell rfl, h1⟩
  · exact ⟨B, d, hB.cell rfl, h2⟩⟩
/-- One stamp in a block of its own. -/
theorem one_stamp {w : World} {g : Nat} {t : TypeId} {c n : Int} (hB : Blk w g t #[.int .i64 c, .int .i64 n]) : OneL w (some ⟨g, 0, none⟩) 1 [(c, n)] :=
  ⟨Nat.le_refl _, (by unfold maxLen; omega), (fun h => by cases h), fun _ => ⟨g, 0, rfl, fun j u hu => by
    rw [Nat.zero_add]
    exact hB.cell (by simpa [stCells] using hu)⟩⟩
/-- One list in a block of one. -/
theorem rows_one {w : World} {g : Nat} {t : TypeId} {A : Option Addr} {c : Nat} {l : List (Int × Int)} (hB : Blk w g t #[.slice A l.length c]) (h1 : OneL w A c l) : Rows w (some ⟨g, 0, none⟩) [l] := fun _ => ⟨g, 0, rfl, fun k hk => by
  have hk0 : k = 0 := by simp at hk; omega
  subst hk0
  exact ⟨A, c, hB.cell rfl, h1⟩⟩

end Go.Proofs.Ytoaclofobfaflaa
namespace Go.Proofs.Ytoaclofobfaflaa
namespace Sp

/-- Is an object in a list of spans? -/
def inL (l : List (Int × Int)) (o : Nat) : Bool := l.any fun s => decide (s.1 ≤ (o : Int) ∧ (o : Int) ≤ s.2)
theorem inL_iff (l : List (Int × Int)) (o : Nat) : inL l o = true ↔ ∃ s ∈ l, s.1 ≤ (o : Int) ∧ (o : Int) ≤ s.2 := by
  unfold inL
  rw [List.any_eq_true]
  constructor
  · rintro ⟨s, h1, h2⟩
    exact ⟨s, h1, of_decide_eq_true h2⟩
  · rintro ⟨s, h1, h2⟩
    exact ⟨s, h1, decide_eq_true h2⟩
theorem inL_snoc (l : List (Int × Int)) (s : Int × Int) (o : Nat) : inL (l ++ [s]) o = (inL l o || decide (s.1 ≤ (o : Int) ∧ (o : Int) ≤ s.2)) := by
  unfold inL
  rw [List.any_append]
  simp
theorem inL_take (l : List (Int × Int)) (k : Nat) (h : k < l.length) (o : Nat) : inL (l.take (k + 1)) o = (inL (l.take k) o || decide (l[k].1 ≤ (o : Int) ∧ (o : Int) ≤ l[k].2)) := by
  rw [List.take_succ_eq_append_getElem h, inL_snoc]

/-- An array of 256 marks, as cells. -/
def arr (f : Nat → Bool) : Array Value := ((List.range 256).map fun i => Value.bool (f i)).toArray
theorem arr_size (f : Nat → Bool) : (arr f).size = 256 := by simp [arr]
theorem arr_get (f : Nat → Bool) (i : Nat) (h : i < 256) : (arr f)[i]? = some (.bool (f i)) := by simp [arr, h]
theorem arr_ext {f g : Nat → Bool} (h : ∀ i, i < 256 → f i = g i) : arr f = arr g := by
  unfold arr
  congr 1
  apply List.map_congr_left
  intro i hi
  rw [h i (List.mem_range.1 hi)]
theorem arr_set (f : Nat → Bool) (i : Nat) (x : Bool) (_h : i < 256) : (arr f).setIfInBounds i (.bool x) = arr (fun j => if j = i then x else f j) := by
  apply Array.ext_getElem?
  intro j
  by_cases hj : j < 256
  · rw [arr_get _ j hj, Array.getElem?_setIfInBounds]
    by_cases e : i = j
    · subst e
      rw [if_pos rfl, if_pos (by rw [arr_size]; exact hj), if_pos rfl]
    · rw [if_neg e, arr_get _ j hj, if_neg (fun h => e h.symm)]
  · rw [Array.getElem?_eq_none (by rw [Array.size_setIfInBounds, arr_size]; omega), Array.getElem?_eq_none (by rw [arr_size]; omega)]

/-- An array of 257 numbers, as cells. -/
def nar (f : Nat → Int) : Array Value := ((List.range 257).map fun i => Value.int .i64 (f i)).toArray
theorem nar_size (f : Nat → Int) : (nar f).size = 257 := by simp [nar]
theorem nar_get (f : Nat → Int) (i : Nat) (h : i < 257) : (nar f)[i]? = some (.int .i64 (f i)) := by simp [nar, h]
theorem nar_ext {f g : Nat → Int} (h : ∀ i, i < 257 → f i = g i) : nar f = nar g := by
  unfold nar
  congr 1
  apply List.map_congr_left
  intro i hi
  rw [h i (List.mem_range.1 hi)]
theorem nar_set (f : Nat → Int) (i : Nat) (x : Int) : (nar f).setIfInBounds i (.int .i64 x) = nar (fun j => if j = i then x else f j) := by
  apply Array.ext_getElem?
  intro j
  by_cases hj : j < 257
  · rw [nar_get _ j hj, Array.getElem?_setIfInBounds]
    by_cases e : i = j
    · subst e
      rw [if_pos rfl, if_pos (by rw [nar_size]; exact hj), if_pos rfl]
    · rw [if_neg e, nar_get _ j hj, if_neg (fun h => e h.symm)]
  · rw [Array.getElem?_eq_none (by rw [Array.size_setIfInBounds, nar_size]; omega), Array.getElem?_eq_none (by rw [nar_size]; omega)]

/-- The last span reaches up to an object now. -/
def reach (l : List (Int × Int)) (x : Int) : List (Int × Int) := l.dropLast ++ [((l.getD (l.length - 1) (0, 0)).1, x)]
/-- The list of a set, up to object k. -/
def ofTo (f : Nat → Bool) : Nat → List (Int × Int)
  | 0 => []
  | k + 1 => if f k = true then (if 0 < k ∧ f (k - 1) = true then reach (ofTo f k) (k : Int) else ofTo f k ++ [((k : Int), (k : Int))]) else ofTo f k
def ofL (f : Nat → Bool) : List (Int × Int) := ofTo f 256
theorem ofTo_ext {f g : Nat → Bool} : ∀ k, (∀ i, i < k → f i = g i) → ofTo f k = ofTo g k
  | 0, _ => rfl
  | k + 1, h => by
    rw [ofTo, ofTo, ofTo_ext k (fun i hi => h i (by omega)), h k (by omega)]
    cases k with
    | zero => simp
    | succ m => rw [show m + 1 - 1 = m from rfl, h m (by omega)]
theorem ofL_ext {f g : Nat → Bool} (h : ∀ i, i < 256 → f i = g i) : ofL f = ofL g := ofTo_ext 256 h

/-- A list of spans as it must be, up to place b: within the objects, by rising places, apart. -/
def good (b : Int) (l : List (Int × Int)) : Prop := ∀ j, j < l.length → 0 ≤ (l.getD j (0, 0)).1 ∧ (l.getD j (0, 0)).1 ≤ (l.getD j (0, 0)).2 ∧ (l.getD j (0, 0)).2 < b ∧ (0 < j → (l.getD (j - 1) (0, 0)).2 + 1 < (l.getD j (0, 0)).1)
theorem good_nil (b : Int) : good b [] := fun j hj => by simp at hj
theorem good.mono {b c : Int} {l : List (Int × Int)} (h : good b l) (hbc : b ≤ c) : good c l := fun j hj => by
  obtain ⟨h1, h2, h3, h4⟩ := h j hj
  exact ⟨h1, h2, by omega, h4⟩
theorem getD_snoc_lt (l : List (Int × Int)) (s : Int × Int) (j : Nat) (h : j < l.length) : (l ++ [s]).getD j (0, 0) = l.getD j (0, 0) := by
  rw [List.getD_eq_getElem?_getD, List.getElem?_append_left h, List.getD_eq_getElem?_getD]
theorem getD_snoc_eq (l : List (Int × Int)) (s : Int × Int) : (l ++ [s]).getD l.length (0, 0) = s := by
  rw [List.getD_eq_getElem?_getD, List.getElem?_append_right (Nat.le_refl _), Nat.sub_self]
  rfl
theorem good.snoc {b : Int} {l : List (Int × Int)} (h : good b l) (s : Int × Int) (c : Int) (h1 : 0 ≤ s.1) (h2 : s.1 ≤ s.2) (h3 : s.2 < c) (hc : b ≤ c) (h4 : 0 < l.length → (l.getD (l.length - 1) (0, 0)).2 + 1 < s.1) : good c (l ++ [s]) := fun j hj => by
  rw [List.length_append, List.length_singleton] at hj
  rcases Nat.lt_or_ge j l.length with hlt | hge
  · rw [getD_snoc_lt l s j hlt, getD_snoc_lt l s (j - 1) (by omega)]
    obtain ⟨q1, q2, q3, q4⟩ := h j hlt
    exact ⟨q1, q2, by omega, q4⟩
  · have hj : j = l.length := by omega
    subst hj
    rw [getD_snoc_eq]
    refine ⟨h1, h2, h3, fun h0 => ?_⟩
    rw [getD_snoc_lt l s _ (by omega)]
    exact h4 h0
theorem dropLast_getD (l : List (Int × Int)) (j : Nat) (h : j < l.length - 1) : l.dropLast.getD j (0, 0) = l.getD j (0, 0) := by
  rw [List.getD_eq_getElem?_getD, List.getD_eq_getElem?_getD, List.getElem?_dropLast, if_pos h]
theorem reach_len (l : List (Int × Int)) (x : Int) (h : 0 < l.length) : (reach l x).length = l.length := by
  unfold reach
  rw [List.length_append, List.length_dropLast, List.length_singleton]
  omega
theorem reach_last (l : List (Int × Int)) (x : Int) : (reach l x).getD (l.length - 1) (0, 0) = ((l.getD (l.length - 1) (0, 0)).1, x) := by
  unfold reach
  have h2 := getD_snoc_eq l.dropLast ((l.getD (l.length - 1) (0, 0)).1, x)
  rw [List.length_dropLast] at h2
  exact h2
theorem reach_old (l : List (Int × Int)) (x : Int) (j : Nat) (h : j < l.length - 1) : (reach l x).getD j (0, 0) = l.getD j (0, 0) := by
  unfold reach
  rw [getD_snoc_lt _ _ _ (by rw [List.length_dropLast]; exact h), dropLast_getD l j h]
theorem good.reach {b : Int} {l : List (Int × Int)} (h : good b l) (x c : Int) (h0 : 0 < l.length) (hx : (l.getD (l.length - 1) (0, 0)).2 ≤ x) (hc : x < c) (hbc : b ≤ c) : good c (reach l x) := fun j hj => by
  rw [reach_len l x h0] at hj
  rcases Nat.lt_or_ge j (l.length - 1) with hlt | hge
  · rw [reach_old l x j hlt, reach_old l x (j - 1) (by omega)]
    obtain ⟨q1, q2, q3, q4⟩ := h j hj
    exact ⟨q1, q2, by omega, q4⟩
  · have hj : j = l.length - 1 := by omega
    subst hj
    rw [reach_last l x]
    obtain ⟨q1, q2, q3, q4⟩ := h (l.length - 1) (by omega)
    refine ⟨q1, by show (l.getD (l.length - 1) (0, 0)).1 ≤ x; omega, by show x < c; omega, fun hp => ?_⟩
    rw [reach_old l x _ (by omega)]
    exact q4 hp

theorem split_last (l : List (Int × Int)) (h : 0 < l.length) : l = l.dropLast ++ [l.getD (l.length - 1) (0, 0)] := by
  have hne : l ≠ [] := List.length_pos_iff.1 h
  have h1 := (List.dropLast_concat_getLast hne).symm
  have h2 : l.getD (l.length - 1) (0, 0) = l.getLast hne := by
    rw [List.getD_eq_getElem?_getD, List.getElem?_eq_getElem (by omega), Option.getD_some, List.getLast_eq_getElem]
  rw [h2]
  exact h1
theorem inL_reach (l : List (Int × Int)) (k : Nat) (h : 0 < l.length) (hlast : (l.getD (l.length - 1) (0, 0)).2 + 1 = (k : Int)) (hle : (l.getD (l.length - 1) (0, 0)).1 ≤ (l.getD (l.length - 1) (0, 0)).2) (o : Nat) : inL (reach l (k : Int)) o = (inL l o || decide (o = k)) := by
  have h1 : inL l o = (inL l.dropLast o || decide ((l.getD (l.length - 1) (0, 0)).1 ≤ (o : Int) ∧ (o : Int) ≤ (l.getD (l.length - 1) (0, 0)).2)) := by
    conv => lhs; rw [split_last l h]
    rw [inL_snoc]
  unfold reach
  rw [inL_snoc, h1, Bool.or_assoc]
  congr 1
  rw [Bool.eq_iff_iff]
  simp only [Bool.or_eq_true, decide_eq_true_eq]
  omega

/-- What the list of a set, up to k, is: as it must be; the objects of the set are in it; its last span ends with the last object before k if that is in the set. -/
theorem ofTo_is (f : Nat → Bool) : ∀ k : Nat, good (k : Int) (ofTo f k) ∧ (∀ o, inL (ofTo f k) o = (decide (o < k) && f o)) ∧ (0 < k → f (k - 1) = true → 0 < (ofTo f k).length ∧ ((ofTo f k).getD ((ofTo f k).length - 1) (0, 0)).2 + 1 = (k : Int)) ∧
      (0 < k → f (k - 1) = false → ∀ j, j < (ofTo f k).length → ((ofTo f k).getD j (0, 0)).2 + 1 < (k : Int))
  | 0 => ⟨good_nil _, fun o => by simp [ofTo, inL], fun h => by omega, fun h => by omega⟩
  | k + 1 => by
    obtain ⟨h1, h2, h3, h4⟩ := ofTo_is f k
    have hk : ((k + 1 : Nat) : Int) = (k : Int) + 1 := by omega
    cases hf : f k with
    | false =>
      have e : ofTo f (k + 1) = ofTo f k := by rw [ofTo, if_neg (by rw [hf]; simp)]
      rw [e]
      refine ⟨h1.mono (by omega), fun o => ?_, fun _ h => ?_, fun _ _ j hj => ?_⟩
      · rw [h2 o]
        by_cases ho : o = k
        · subst ho; rw [hf]; simp
        · congr 1
          rw [Bool.eq_iff_iff]
          simp only [decide_eq_true_eq]
          omega
      · rw [show k + 1 - 1 = k from rfl, hf] at h; cases h
      · have := (h1 j hj).2.2.1
        omega
    | true =>
      by_cases hp : 0 < k ∧ f (k - 1) = true
      · have e : ofTo f (k + 1) = reach (ofTo f k) (k : Int) := by rw [ofTo, if_pos hf, if_pos hp]
        obtain ⟨q1, q2⟩ := h3 hp.1 hp.2
        have hgl := h1 ((ofTo f k).length - 1) (by omega)
        rw [e]
        refine ⟨h1.reach (k : Int) _ q1 (by omega) (by omega) (by omega), fun o => ?_, fun _ _ => ?_, fun _ h => ?_⟩
        · rw [inL_reach _ k q1 q2 hgl.2.1, h2 o]
          rw [Bool.eq_iff_iff]
          simp only [Bool.or_eq_true, Bool.and_eq_true, decide_eq_true_eq]
          constructor
          · rintro (⟨a1, a2⟩ | rfl)
            · exact ⟨by omega, a2⟩
            · exact ⟨by omega, hf⟩
          · rintro ⟨a1, a2⟩
            by_cases ho : o = k
            · exact .inr ho
            · exact .inl ⟨by omega, a2⟩
        · rw [reach_len _ _ q1, reach_last _ _]
          exact ⟨q1, by show (k : Int) + 1 = _; omega⟩
        · rw [show k + 1 - 1 = k from rfl, hf] at h; cases h
      · have e : ofTo f (k + 1) = ofTo f k ++ [((k : Int), (k : Int))] := by rw [ofTo, if_pos hf, if_neg hp]
        rw [e]
        refine ⟨h1.snoc _ _ (by show (0 : Int) ≤ (k : Int); omega) (Int.le_refl _) (by show (k : Int) < _; omega) (by omega) ?_, fun o => ?_, fun _ _ => ?_, fun _ h => ?_⟩
        · intro hl
          have hk0 : 0 < k := by
            cases k with
            | zero => simp [ofTo] at hl
            | succ m => omega
          have hfk : f (k - 1) = false := by
            cases hq : f (k - 1) with
            | false => rfl
            | true => exact absurd ⟨hk0, hq⟩ hp
          have := h4 hk0 hfk ((ofTo f k).length - 1) (by omega)
          show _ < (k : Int)
          omega
        · rw [inL_snoc, h2 o]
          rw [Bool.eq_iff_iff]
          simp only [Bool.or_eq_true, Bool.and_eq_true, decide_eq_true_eq]
          constructor
          · rintro (⟨a1, a2⟩ | a1)
            · exact ⟨by omega, a2⟩
            · have : o = k := by omega
              subst this
              exact ⟨by omega, hf⟩
          · rintro ⟨a1, a2⟩
            by_cases ho : o = k
            · exact .inr (by omega)
            · exact .inl ⟨by omega, a2⟩
        · rw [List.length_append, List.length_singleton, Nat.add_sub_cancel, getD_snoc_eq]
          exact ⟨by omega, by show (k : Int) + 1 = _; omega⟩
        · rw [show k + 1 - 1 = k from rfl, hf] at h; cases h
theorem ofTo_short (f : Nat → Bool) : ∀ k, (ofTo f k).length ≤ k
  | 0 => Nat.le_refl _
  | k + 1 => by
    have h := ofTo_short f k
    rw [ofTo]
    split
    · split
      · unfold Sp.reach
        rw [List.length_append, List.length_dropLast, List.length_singleton]
        omega
      · rw [List.length_append, List.length_singleton]
        omega
    · omega
theorem good_ofL (f : Nat → Bool) : good 256 (ofL f) := (ofTo_is f 256).1
theorem inL_ofL (f : Nat → Bool) (o : Nat) (ho : o < 256) : inL (ofL f) o = f o := by
  unfold ofL
  rw [(ofTo_is f 256).2.1 o]
  simp [ho]

end Sp
end Go.Proofs.Ytoaclofobfaflaa
