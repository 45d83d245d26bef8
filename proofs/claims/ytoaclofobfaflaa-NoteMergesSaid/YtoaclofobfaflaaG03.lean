/-
  What telltaleref02's Same, Copy and Formed answer of any lists of stamps in memory.
  A slice of slices of stamps in memory; the greatest and the least counts of many lists. Nothing of the program is imported.
  Plain mathematics of version vectors, part 2: the counts of a vector made of counts, joins and meets of two and of one, what covers what. Nothing of the program is imported.
  What telltaleref02's Formed answers of any list of stamps in memory.
-/
import Derived.Test.YtoaclofobfaflaaG02
import Derived.Test.YtoaclofobfaflaaG01
namespace Go.Proofs.Ytoaclofobfaflaa
open Go.RowKit

set_option maxHeartbeats 1600000 in
theorem rsame_any (A B : Option Addr) (c1 c2 : Nat) (l r : List (Int × Int)) (w : World) (hl : l.length ≤ 9223372036854775807) (h1 : Stamps w A l) (h2 : Stamps w B r) :
    Calls Try.prog 22 #[.slice A l.length c1, .slice B r.length c2] w fun e w' => e = .returned (.bool (decide (l = r))) ∧ Below w.heap.size w w' := by
  have H1 := Lib.hid h1
  have H2 := Lib.hid h2
  clear h1 h2
  by_cases hlen : l.length = r.length
  · have hd0 : ((l.length : Int) != (r.length : Int)) = false := by rw [bne_eq_false_iff_eq]; omega
    have HLEN := Lib.hid hlen
    have hr1 : r.length ≤ l.length := by omega
    have hr2 : l.length ≤ r.length := by omega
    clear hlen
    go_enter Try.func22, Try.ntmps22
    go_wp2_with fail
    go_loopw [5] (fun s5 wr => ∃ k : Nat, k ≤ l.length ∧ s5 = .int .i64 (k : Int) ∧ (∀ j, j < k → l.getD j (0, 0) = r.getD j (0, 0)) ∧ Below w.heap.size w wr) (fun s5 _ => l.length - (intOf s5).toNat)
    case atStart => exact ⟨0, Nat.zero_le _, rfl, fun j hj => by omega, Below.refl _ _⟩
    case round =>
      obtain ⟨k, hk, rfl, heq, hbw⟩ := hrel
      have HEQ := Lib.hid heq
      clear heq
      by_cases hlt : k < l.length
      · have hne : l ≠ [] := fun e => by subst e; simp at hlt
        have hne2 : r ≠ [] := fun e => by have := HLEN.out; subst e; simp at this; exact hne this
        obtain ⟨b, off, hA, hcA⟩ := (H1.out.later hbw) hne
        obtain ⟨b', off', hB, hcB⟩ := (H2.out.later hbw) hne2
        obtain ⟨e0, e1⟩ := hcA k hlt
        obtain ⟨f0, f1⟩ := hcB k (by omega)
        have H1' := H1
        have H2' := H2
        subst hA hB
        clear hcA hcB
        have hi0 : (0 : Int) ≤ (k : Int) := by omega
        have hi1 : (k : Int) < (l.length : Int) := by omega
        have hi2 : (k : Int) < (r.length : Int) := by omega
        obtain ⟨x, hx⟩ : ∃ x, l.getD k (0, 0) = x := ⟨_, rfl⟩
        obtain ⟨y, hy⟩ : ∃ y, r.getD k (0, 0) = y := ⟨_, rfl⟩
        rw [hx] at e0 e1
        rw [hy] at f0 f1
        have HX := Lib.hid hx
        have HY := Lib.hid hy
        clear hx hy
        by_cases hxy : x = y
        · subst hxy
          go_wp2_with fail
          go_quiet (fail)
          go_wp2_with fail
          go_roundw
          case rel =>
            refine ⟨k + 1, by omega, by go_num, ?_, below_drewN hbw _⟩
            intro j hj
            by_cases e : j = k
            · subst e; rw [HX.out, HY.out]
            · exact HEQ.out j (by omega)
          case measure => simp [intOf]; omega
        · have hno : decide (l = r) = false := decide_eq_false (fun e => hxy (by rw [← HX.out, ← HY.out, e]))
          have HNO := Lib.hid hno
          clear hno
          obtain ⟨x1, x2⟩ := x
          obtain ⟨y1, y2⟩ := y
          by_cases h1 : x1 = y1
          · subst h1
            have h2 : (x2 == y2) = false := beq_eq_false_iff_ne.2 (fun e => hxy (by rw [e]))
            clear hxy
            go_wp2_with fail
            go_quiet (fail)
            go_wp2
            go_ret
            exact ⟨by rw [HNO.out]; rfl, below_drewN hbw _⟩
          · have h1b : (x1 == y1) = false := beq_eq_false_iff_ne.2 h1
            clear hxy h1
            go_wp2_with fail
            go_quiet (fail)
            go_wp2
            go_ret
            exact ⟨by rw [HNO.out]; rfl, below_drewN hbw _⟩
      · have hyes : decide (l = r) = true := decide_eq_true (take_ext HLEN.out (fun j hj => HEQ.out j (by omega)))
        have HY := Lib.hid hyes
        clear hyes
        go_wp2
        go_ret
        exact ⟨by rw [HY.out]; rfl, hbw⟩
  · have hd0 : ((l.length : Int) != (r.length : Int)) = true := by rw [bne_iff_ne]; omega
    have hno : decide (l = r) = false := decide_eq_false (fun e => hlen (by rw [e]))
    have HNO := Lib.hid hno
    clear hno
    go_enter Try.func22, Try.ntmps22
    go_wp2
    go_ret
    exact ⟨by rw [HNO.out]; rfl, Below.refl _ _⟩

set_option maxHeartbeats 800000 in
theorem rcopy_any (A : Option Addr) (c1 : Nat) (l : List (Int × Int)) (w : World) (hl : l.length * 16 ≤ 140737488355328) (hA : A = none → l.length = 0 ∧ c1 = 0) (h1 : Lies w A (stCells l)) :
    Calls Try.prog 19 #[.slice A l.length c1] w (Gives l w) := by
  obtain ⟨i0, hi, hz0, hz1, hz2⟩ := info_parts infoSt
  have hown : (w.alloc (.cells #[] 33)).ownsRow w.heap.size 33 2 (.slice (some ⟨w.heap.size, 0, none⟩) 0 0) 0 [] :=
    ⟨rfl, .inr ⟨w.heap.size, 0, #[], rfl, Nat.le_refl _, heap_alloc_new w _, Nat.le_refl _, Nat.zero_le _, rfl, rfl⟩⟩
  have HA := Lib.hid hA
  clear hA
  go_enter Try.func19, Try.ntmps19
  go_wp2_with (at_builtin; refine wpList_append_lies _ rfl _ _ 22 rfl w.heap.size 33 i0 (.agg #[.int .i64 0, .int .i64 0]) 2 16 Try.underlying22 hi hz0 hz1 hz2 rfl (by decide) _ 0 [] rfl hown A l.length c1 HA.out (stCells l) rfl (stCells_length l) (h1.alloc _) (stCells_one l) ?c3 ?c4 ?c5 ?_)
  case c3 => unfold maxLen; omega
  case c4 => omega
  case c5 => simp
  intro v' w1 hown1 hg1 _
  have hbw : Below w.heap.size w w1 := (below_new (Below.refl _ _) (.cells #[] 33)).grown hg1 (by simp) (by intro k hk; simp [Value.ownBlock] at hk; omega)
  try simp only [Nat.zero_add, List.nil_append] at hown1
  have HO := Lib.hid hown1
  clear hown hown1 hg1
  go_wp2
  go_ret
  exact ⟨_, rfl, HO.out, hbw⟩

end Go.Proofs.Ytoaclofobfaflaa
namespace Go.Proofs.Ytoaclofobfaflaa
open Go.RowKit

/-- A list of stamps by value: its length, its room, its cells. -/
def OneL (w : World) (A : Option Addr) (c : Nat) (l : List (Int × Int)) : Prop := l.length ≤ c ∧ c ≤ maxLen ∧ (A = none → l.length = 0 ∧ c = 0) ∧ Lies w A (stCells l)
section
variable {w w' : World} {A : Option Addr} {c : Nat} {l : List (Int × Int)}
theorem OneL.later (h : OneL w A c l) (hb : Below w.heap.size w w') : OneL w' A c l := ⟨h.1, h.2.1, h.2.2.1, h.2.2.2.later hb⟩
theorem OneL.len (h : OneL w A c l) : l.length ≤ 9223372036854775807 := by
  have h1 := h.1
  have h2 := h.2.1
  unfold maxLen at h2
  omega
theorem OneL.stamps (h : OneL w A c l) : Stamps w A l := Stamps.of_lies h.2.2.2
theorem OneL.nil : OneL w none 0 [] := ⟨Nat.le_refl _, Nat.zero_le _, fun _ => ⟨rfl, rfl⟩, Lies.nil⟩
theorem OneL.of_own {base : Nat} {e : TypeId} {v : Value} (h : w.ownsRow base e 2 v l.length (stCells l)) : ∃ A c, v = .slice A l.length c ∧ OneL w A c l := by
  obtain ⟨A, c, h1, h2, h3, h4, h5⟩ := own_form h
  exact ⟨A, c, h1, h2, h3, h4, h5⟩
end

/-- A slice of lists of stamps in memory. -/
def Rows (w : World) (A : Option Addr) (ls : List (List (Int × Int))) : Prop :=
  ls ≠ [] → ∃ b off, A = some ⟨b, off, none⟩ ∧ ∀ k, k < ls.length → ∃ A' c', w.cell? ⟨b, off + k, none⟩ = some (.slice A' (ls.getD k []).length c') ∧ OneL w A' c' (ls.getD k [])
theorem Rows.later {w w' : World} {A : Option Addr} {ls : List (List (Int × Int))} (h : Rows w A ls) (hb : Below w.heap.size w w') : Rows w' A ls := fun hne => by
  obtain ⟨b, off, hA, hc⟩ := h hne
  refine ⟨b, off, hA, fun k hk => ?_⟩
  obtain ⟨A', c', h1, h2⟩ := hc k hk
  exact ⟨A', c', (hb.cell (World.block_lt_of_cell? w _ h1)).trans h1, h2.later hb⟩
theorem Rows.nil {w : World} {A : Option Addr} : Rows w A [] := fun h => absurd rfl h
theorem Rows.len {w : World} {A : Option Addr} {ls : List (List (Int × Int))} (h : Rows w A ls) : ∀ k, k < ls.length → (ls.getD k []).length ≤ 9223372036854775807 := fun k hk => by
  obtain ⟨_, _, _, hc⟩ := h (fun e => by subst e; simp at hk)
  obtain ⟨_, _, _, h2⟩ := hc k hk
  exact h2.len

namespace Ve
/-- The greatest counts of the first k lists. -/
def jnTo (ls : List (List (Int × Int))) : Nat → Nat → Int
  | 0, _ => 0
  | k + 1, n => if jnTo ls k n < cnt (ls.getD k []) n then cnt (ls.getD k []) n else jnTo ls k n
def jn (ls : List (List (Int × Int))) : Nat → Int := jnTo ls ls.length
theorem jnTo_nonneg (ls : List (List (Int × Int))) : ∀ k n, 0 ≤ jnTo ls k n
  | 0, _ => Int.le_refl _
  | k + 1, n => by
    unfold jnTo
    split
    · exact cnt_nonneg _ _
    · exact jnTo_nonneg ls k n
/-- Half of a round: the greater ones, up to node n. -/
def mxTo (f g : Nat → Int) (n : Nat) : Nat → Int := fun j => if j < n then (if f j < g j then g j else f j) else f j
/-- The least counts of the first k + 1 lists. -/
def mtTo (ls : List (List (Int × Int))) : Nat → Nat → Int
  | 0, n => cnt (ls.getD 0 []) n
  | k + 1, n => if cnt (ls.getD (k + 1) []) n < mtTo ls k n then cnt (ls.getD (k + 1) []) n else mtTo ls k n
def mt (ls : List (List (Int × Int))) : Nat → Int := mtTo ls (ls.length - 1)
def mnTo (f g : Nat → Int) (n : Nat) : Nat → Int := fun j => if j < n then (if g j < f j then g j else f j) else f j
theorem mtTo_nonneg (ls : List (List (Int × Int))) : ∀ k n, 0 ≤ mtTo ls k n
  | 0, n => cnt_nonneg _ _
  | k + 1, n => by
    unfold mtTo
    split
    · exact cnt_nonneg _ _
    · exact mtTo_nonneg ls k n
theorem mx_step (f g : Nat → Int) (n : Nat) (x : Int) (h : x = if f n < g n then g n else f n) (i : Nat) : (if i = n then x else mxTo f g n i) = mxTo f g (n + 1) i := by
  unfold mxTo
  by_cases e : i = n
  · subst e
    rw [if_pos rfl, if_pos (Nat.lt_succ_self _), h]
  · rw [if_neg e]
    by_cases e2 : i < n
    · rw [if_pos e2, if_pos (show i < n + 1 by omega)]
    · rw [if_neg e2, if_neg (show ¬ i < n + 1 by omega)]
theorem mn_step (f g : Nat → Int) (n : Nat) (x : Int) (h : x = if g n < f n then g n else f n) (i : Nat) : (if i = n then x else mnTo f g n i) = mnTo f g (n + 1) i := by
  unfold mnTo
  by_cases e : i = n
  · subst e
    rw [if_pos rfl, if_pos (Nat.lt_succ_self _), h]
  · rw [if_neg e]
    by_cases e2 : i < n
    · rw [if_pos e2, if_pos (show i < n + 1 by omega)]
    · rw [if_neg e2, if_neg (show ¬ i < n + 1 by omega)]
/-- The meet of lists, as stamps: none of none. -/
def meetL (ls : List (List (Int × Int))) : List (Int × Int) := if ls = [] then [] else ofL (mt ls)
def joinL (ls : List (List (Int × Int))) : List (Int × Int) := ofL (jn ls)
end Ve
end Go.Proofs.Ytoaclofobfaflaa
namespace Go.Proofs.Ytoaclofobfaflaa
namespace Ve

theorem ofTo_mem (f : Nat → Int) : ∀ k (s : Int × Int), s ∈ ofTo f k → ∃ n : Nat, n < k ∧ s = (f n, (n : Int)) ∧ 0 < f n
  | 0, s, h => by simp [ofTo] at h
  | k + 1, s, h => by
    unfold ofTo at h
    rw [List.mem_append] at h
    rcases h with h | h
    · obtain ⟨n, hn, hs⟩ := ofTo_mem f k s h
      exact ⟨n, by omega, hs⟩
    · split at h
      · rename_i hp
        rw [List.mem_singleton] at h
        exact ⟨k, by omega, h, hp⟩
      · simp at h
theorem cnt_append (l r : List (Int × Int)) (n : Nat) : cnt (l ++ r) n = if (∃ s ∈ l, St.rgt s.1 s.2 = true ∧ s.2 = (n : Int)) then cnt l n else cnt r n := by
  induction l with
  | nil => simp
  | cons s l ih =>
    rw [List.cons_append]
    by_cases h : St.rgt s.1 s.2 = true ∧ s.2 = (n : Int)
    · rw [if_pos ⟨s, List.mem_cons_self .., h⟩]
      unfold cnt
      rw [if_pos h, if_pos h]
    · have e1 : cnt (s :: (l ++ r)) n = cnt (l ++ r) n := by rw [cnt, if_neg h]
      have e2 : cnt (s :: l) n = cnt l n := by rw [cnt, if_neg h]
      rw [e1, e2, ih]
      by_cases hx : ∃ s ∈ l, St.rgt s.1 s.2 = true ∧ s.2 = (n : Int)
      · obtain ⟨t, ht, hp⟩ := hx
        rw [if_pos ⟨t, ht, hp⟩, if_pos ⟨t, List.mem_cons_of_mem _ ht, hp⟩]
      · rw [if_neg hx, if_neg (fun ⟨t, ht, hp⟩ => by
          rcases List.mem_cons.1 ht with rfl | ht
          · exact h hp
          · exact hx ⟨t, ht, hp⟩)]
theorem rgt_of (c : Int) (n : Nat) (hc : 0 < c) (hn : n < 64) : St.rgt c (n : Int) = true := by
  unfold St.rgt
  exact decide_eq_true ⟨by omega, by omega, by omega⟩
theorem cnt_ofTo (f : Nat → Int) (hf : ∀ n, 0 ≤ f n) : ∀ k, k ≤ 64 → ∀ n, cnt (ofTo f k) n = if n < k then f n else 0
  | 0, _, n => by simp [ofTo, cnt]
  | k + 1, hk, n => by
    have ih := cnt_ofTo f hf k (by omega) n
    unfold ofTo
    rw [cnt_append, ih]
    by_cases hx : ∃ s ∈ ofTo f k, St.rgt s.1 s.2 = true ∧ s.2 = (n : Int)
    · rw [if_pos hx]
      obtain ⟨s, hs, _, h2⟩ := hx
      obtain ⟨m, hm, rfl, _⟩ := ofTo_mem f k s hs
      have : m = n := by simp at h2; omega
      subst this
      rw [if_pos hm, if_pos (by omega)]
    · rw [if_neg hx]
      by_cases hn : n < k
      · have h0 : cnt (ofTo f k) n = 0 := by
          have := cnt_append (ofTo f k) [] n
          rw [if_neg hx, List.append_nil] at this
          rw [this]; rfl
        rw [ih, if_pos hn] at h0
        rw [if_pos (show n < k + 1 by omega), h0]
        split
        · unfold cnt
          rw [if_neg (fun h => by have := h.2; simp at this; omega)]
          rfl
        · rfl
      · by_cases e : n = k
        · subst e
          rw [if_pos (show n < n + 1 by omega)]
          split
          · rename_i hp
            unfold cnt
            rw [if_pos ⟨rgt_of _ _ hp (by omega), rfl⟩]
          · rename_i hp
            have := hf n
            unfold cnt
            omega
        · rw [if_neg (show ¬ n < k + 1 by omega)]
          split
          · unfold cnt
            rw [if_neg (fun h => by have := h.2; simp at this; omega)]
            rfl
          · rfl
theorem cnt_ofL (f : Nat → Int) (hf : ∀ n, 0 ≤ f n) (n : Nat) (hn : n < 64) : cnt (ofL f) n = f n := by
  unfold ofL
  rw [cnt_ofTo f hf 64 (Nat.le_refl _) n, if_pos hn]

/-- The vector of a vector's counts is that vector. -/
theorem ofL_cnt_ofL (f : Nat → Int) (hf : ∀ n, 0 ≤ f n) : ofL (cnt (ofL f)) = ofL f := ofL_ext (fun i hi => cnt_ofL f hf i hi)

theorem cov_ext {f f' g g' : Nat → Int} (h1 : ∀ n, n < 64 → f n = f' n) (h2 : ∀ n, n < 64 → g n = g' n) : cov f g = cov f' g' := by
  have : cov f g = true ↔ cov f' g' = true := by
    rw [cov_iff, cov_iff]
    exact ⟨fun h n hn => by rw [← h1 n hn, ← h2 n hn]; exact h n hn, fun h n hn => by rw [h1 n hn, h2 n hn]; exact h n hn⟩
  cases hx : cov f g <;> cases hy : cov f' g' <;> simp [hx, hy] at this ⊢

theorem jn_two (l r : List (Int × Int)) (n : Nat) : jn [l, r] n = if cnt l n < cnt r n then cnt r n else cnt l n := by
  have h0 : jnTo [l, r] 1 n = cnt l n := by
    have := cnt_nonneg l n
    show (if (0 : Int) < cnt l n then cnt l n else 0) = cnt l n
    split <;> omega
  show (if jnTo [l, r] 1 n < cnt r n then cnt r n else jnTo [l, r] 1 n) = _
  rw [h0]
theorem mt_two (l r : List (Int × Int)) (n : Nat) : mt [l, r] n = if cnt r n < cnt l n then cnt r n else cnt l n := rfl
theorem jn_nonneg (ls : List (List (Int × Int))) (n : Nat) : 0 ≤ jn ls n := jnTo_nonneg ls _ n
theorem mt_nonneg (ls : List (List (Int × Int))) (n : Nat) : 0 ≤ mt ls n := mtTo_nonneg ls _ n

/-- Is it a vector, up to place k? -/
def fmTo (l : List (Int × Int)) (k : Nat) : Prop := ∀ j, j < k → St.rgt (l.getD j (0, 0)).1 (l.getD j (0, 0)).2 = true ∧ (0 < j → (l.getD (j - 1) (0, 0)).2 < (l.getD j (0, 0)).2)
def fmd (l : List (Int × Int)) : Bool := decide (∀ j : Fin l.length, St.rgt (l.getD j.val (0, 0)).1 (l.getD j.val (0, 0)).2 = true ∧ (0 < j.val → (l.getD (j.val - 1) (0, 0)).2 < (l.getD j.val (0, 0)).2))
theorem fmd_iff (l : List (Int × Int)) : fmd l = true ↔ fmTo l l.length := by
  unfold fmd fmTo
  rw [decide_eq_true_iff]
  exact ⟨fun h j hj => h ⟨j, hj⟩, fun h j => h j.val j.isLt⟩
theorem fmd_no {l : List (Int × Int)} (k : Nat) (hk : k < l.length) (h : ¬ (St.rgt (l.getD k (0, 0)).1 (l.getD k (0, 0)).2 = true ∧ (0 < k → (l.getD (k - 1) (0, 0)).2 < (l.getD k (0, 0)).2))) : fmd l = false := by
  cases hc : fmd l with
  | false => rfl
  | true => exact absurd ((fmd_iff l).1 hc k hk) h

theorem getD_left (l r : List (Int × Int)) (j : Nat) (h : j < l.length) : (l ++ r).getD j (0, 0) = l.getD j (0, 0) := by
  rw [List.getD_eq_getElem?_getD, List.getD_eq_getElem?_getD, List.getElem?_append_left h]
theorem getD_last (l : List (Int × Int)) (s : Int × Int) : (l ++ [s]).getD l.length (0, 0) = s := by
  rw [List.getD_eq_getElem?_getD, List.getElem?_append_right (Nat.le_refl _), Nat.sub_self]
  rfl
theorem getD_mem (l : List (Int × Int)) (j : Nat) (h : j < l.length) : l.getD j (0, 0) ∈ l := by
  rw [List.getD_eq_getElem?_getD, List.getElem?_eq_getElem h]
  exact List.getElem_mem h
theorem fmTo_ofTo (f : Nat → Int) : ∀ k, k ≤ 64 → fmTo (ofTo f k) (ofTo f k).length
  | 0, _ => fun j hj => by simp [ofTo] at hj
  | k + 1, hk => by
    have ih := fmTo_ofTo f k (by omega)
    intro j hj
    unfold ofTo at hj ⊢
    by_cases hp : 0 < f k
    · rw [if_pos hp] at hj ⊢
      by_cases h : j < (ofTo f k).length
      · obtain ⟨h1, h2⟩ := ih j h
        rw [getD_left _ _ _ h]
        refine ⟨h1, fun h0 => ?_⟩
        rw [getD_left _ _ _ (by omega)]
        exact h2 h0
      · have e : j = (ofTo f k).length := by simp at hj; omega
        subst e
        rw [getD_last]
        refine ⟨rgt_of _ _ hp (by omega), fun h0 => ?_⟩
        rw [getD_left _ _ _ (by omega)]
        obtain ⟨n, hn, hs, _⟩ := ofTo_mem f k _ (getD_mem (ofTo f k) ((ofTo f k).length - 1) (by omega))
        rw [hs]
        show (n : Int) < (k : Int)
        omega
    · rw [if_neg hp, List.append_nil] at hj ⊢
      exact ih j hj
theorem fmd_ofL (f : Nat → Int) : fmd (ofL f) = true := (fmd_iff _).2 (fmTo_ofTo f 64 (Nat.le_refl _))

/-- The lattice's laws. -/
theorem cov_jn_left (l r : List (Int × Int)) : cov (jn [l, r]) (cnt l) = true := (cov_iff _ _).2 (fun n _ => by rw [jn_two]; split <;> omega)
theorem cov_jn_right (l r : List (Int × Int)) : cov (jn [l, r]) (cnt r) = true := (cov_iff _ _).2 (fun n _ => by rw [jn_two]; split <;> omega)
theorem cov_mt_left (l r : List (Int × Int)) : cov (cnt l) (mt [l, r]) = true := (cov_iff _ _).2 (fun n _ => by rw [mt_two]; split <;> omega)
theorem cov_mt_right (l r : List (Int × Int)) : cov (cnt r) (mt [l, r]) = true := (cov_iff _ _).2 (fun n _ => by rw [mt_two]; split <;> omega)
theorem cov_least (l r : List (Int × Int)) (f : Nat → Int) (h1 : cov f (cnt l) = true) (h2 : cov f (cnt r) = true) : cov f (jn [l, r]) = true := (cov_iff _ _).2 (fun n hn => by
  have a := (cov_iff _ _).1 h1 n hn
  have b := (cov_iff _ _).1 h2 n hn
  rw [jn_two]
  split <;> omega)
theorem cov_greatest (l r : List (Int × Int)) (f : Nat → Int) (h1 : cov (cnt l) f = true) (h2 : cov (cnt r) f = true) : cov (mt [l, r]) f = true := (cov_iff _ _).2 (fun n hn => by
  have a := (cov_iff _ _).1 h1 n hn
  have b := (cov_iff _ _).1 h2 n hn
  rw [mt_two]
  split <;> omega)
theorem jn_comm (l r : List (Int × Int)) : jn [l, r] = jn [r, l] := by
  funext n
  rw [jn_two, jn_two]
  split <;> split <;> omega
theorem mt_comm (l r : List (Int × Int)) : mt [l, r] = mt [r, l] := by
  funext n
  rw [mt_two, mt_two]
  split <;> split <;> omega
theorem joinL_comm (l r : List (Int × Int)) : joinL [l, r] = joinL [r, l] := by unfold joinL; rw [jn_comm]
theorem meetL_two (l r : List (Int × Int)) : meetL [l, r] = ofL (mt [l, r]) := by unfold meetL; rw [if_neg (by simp)]
theorem meetL_comm (l r : List (Int × Int)) : meetL [l, r] = meetL [r, l] := by rw [meetL_two, meetL_two, mt_comm]
theorem cnt_joinL (ls : List (List (Int × Int))) (n : Nat) (hn : n < 64) : cnt (joinL ls) n = jn ls n := cnt_ofL _ (jn_nonneg ls) n hn
theorem cnt_meet2 (l r : List (Int × Int)) (n : Nat) (hn : n < 64) : cnt (meetL [l, r]) n = mt [l, r] n := by
  rw [meetL_two]
  exact cnt_ofL _ (mt_nonneg [l, r]) n hn
theorem max_assoc (x y z : Int) : (if (if x < y then y else x) < z then z else (if x < y then y else x)) = (if x < (if y < z then z else y) then (if y < z then z else y) else x) := by
  by_cases h1 : x < y
  · rw [if_pos h1]
    by_cases h2 : y < z
    · rw [if_pos h2, if_pos (by omega)]
    · rw [if_neg h2, if_pos h1]
  · rw [if_neg h1]
    by_cases h2 : y < z
    · rw [if_pos h2]
    · rw [if_neg h2, if_neg h1, if_neg (by omega)]
theorem stand_assoc (a b c : List (Int × Int)) : stand (cnt (joinL [joinL [a, b], c])) (cnt (joinL [a, joinL [b, c]])) = 0 := by
  have h : ∀ n, n < 64 → cnt (joinL [joinL [a, b], c]) n = cnt (joinL [a, joinL [b, c]]) n := fun n hn => by
    rw [cnt_joinL _ n hn, cnt_joinL _ n hn, jn_two, jn_two, cnt_joinL _ n hn, cnt_joinL _ n hn, jn_two, jn_two]
    exact max_assoc _ _ _
  have h1 : cov (cnt (joinL [joinL [a, b], c])) (cnt (joinL [a, joinL [b, c]])) = true := (cov_iff _ _).2 (fun n hn => by rw [h n hn]; omega)
  have h2 : cov (cnt (joinL [a, joinL [b, c]])) (cnt (joinL [joinL [a, b], c])) = true := (cov_iff _ _).2 (fun n hn => by rw [h n hn]; omega)
  unfold stand
  rw [if_pos h1, if_pos h2]
/-- The join of a list and nothing is the vector of that list's counts. -/
theorem joinL_none (l : List (Int × Int)) : joinL [l, []] = ofL (cnt l) := ofL_ext (fun n _ => by
  rw [jn_two]
  have := cnt_nonneg l n
  show (if cnt l n < 0 then 0 else cnt l n) = cnt l n
  split <;> omega)
/-- The join of one list is the vector of that list's counts. -/
theorem joinL_one (l : List (Int × Int)) : joinL [l] = ofL (cnt l) := ofL_ext (fun n _ => by
  have := cnt_nonneg l n
  show (if (0 : Int) < cnt l n then cnt l n else 0) = cnt l n
  split <;> omega)
theorem cov_join_left (l r : List (Int × Int)) : cov (cnt (joinL [l, r])) (cnt l) = true := by rw [cov_ext (fun n hn => cnt_joinL [l, r] n hn) (fun n _ => rfl)]; exact cov_jn_left l r
theorem cov_join_right (l r : List (Int × Int)) : cov (cnt (joinL [l, r])) (cnt r) = true := by rw [cov_ext (fun n hn => cnt_joinL [l, r] n hn) (fun n _ => rfl)]; exact cov_jn_right l r
theorem cov_meet_left (l r : List (Int × Int)) : cov (cnt l) (cnt (meetL [l, r])) = true := by rw [cov_ext (fun n _ => rfl) (fun n hn => cnt_meet2 l r n hn)]; exact cov_mt_left l r
theorem cov_meet_right (l r : List (Int × Int)) : cov (cnt r) (cnt (meetL [l, r])) = true := by rw [cov_ext (fun n _ => rfl) (fun n hn => cnt_meet2 l r n hn)]; exact cov_mt_right l r
theorem cov_join_least (l r : List (Int × Int)) (f : Nat → Int) (h1 : cov f (cnt l) = true) (h2 : cov f (cnt r) = true) : cov f (cnt (joinL [l, r])) = true := by rw [cov_ext (fun n _ => rfl) (fun n hn => cnt_joinL [l, r] n hn)]; exact cov_least l r f h1 h2
theorem cov_meet_greatest (l r : List (Int × Int)) (f : Nat → Int) (h1 : cov (cnt l) f = true) (h2 : cov (cnt r) f = true) : cov (cnt (meetL [l, r])) f = true := by rw [cov_ext (fun n hn => cnt_meet2 l r n hn) (fun n _ => rfl)]; exact cov_greatest l r f h1 h2
theorem fmd_joinL (ls : List (List (Int × Int))) : fmd (joinL ls) = true := fmd_ofL _
theorem fmd_meet2 (l r : List (Int × Int)) : fmd (meetL [l, r]) = true := by rw [meetL_two]; exact fmd_ofL _

end Ve
end Go.Proofs.Ytoaclofobfaflaa
namespace Go.Proofs.Ytoaclofobfaflaa
open Go.RowKit

set_option maxHeartbeats 1600000 in
theorem rformed_any (A : Option Addr) (c1 : Nat) (l : List (Int × Int)) (w : World) (hl : l.length ≤ 9223372036854775807) (h1 : Stamps w A l) :
    Calls Try.prog 37 #[.slice A l.length c1] w fun e w' => e = .returned (.bool (Ve.fmd l)) ∧ Below w.heap.size w w' := by
  have H1 := Lib.hid h1
  clear h1
  go_enter Try.func37, Try.ntmps37
  go_wp2_with fail
  go_loopw [3] (fun s3 wr => ∃ k : Nat, k ≤ l.length ∧ s3 = .int .i64 (k : Int) ∧ Ve.fmTo l k ∧ Below w.heap.size w wr) (fun s3 _ => l.length - (intOf s3).toNat)
  case atStart => exact ⟨0, Nat.zero_le _, rfl, fun j hj => by omega, Below.refl _ _⟩
  case round =>
    obtain ⟨k, hk, rfl, heq, hbw⟩ := hrel
    have HEQ := Lib.hid heq
    clear heq
    by_cases hlt : k < l.length
    · have hne : l ≠ [] := fun e => by subst e; simp at hlt
      obtain ⟨b, off, hA, hcA⟩ := (H1.out.later hbw) hne
      subst hA
      obtain ⟨e0, e1⟩ := hcA k hlt
      have hi0 : (0 : Int) ≤ (k : Int) := by omega
      have hi1 : (k : Int) < (l.length : Int) := by omega
      obtain ⟨x, hx⟩ : ∃ x, l.getD k (0, 0) = x := ⟨_, rfl⟩
      rw [hx] at e0 e1
      have k0 : ∀ d os, (Sort.grow (redrawn wr d) os).cell? ⟨b, off + k * 2, none⟩ = some (.int .i64 x.1) := cell_regrown e0
      have k1 : ∀ d os, (Sort.grow (redrawn wr d) os).cell? ⟨b, off + k * 2 + 1, none⟩ = some (.int .i64 x.2) := cell_regrown e1
      have cR : ∀ d os, Calls Try.prog 49 #[.agg #[.int .i64 x.1, .int .i64 x.2]] (Sort.grow (redrawn wr d) os) fun e w'' => e = .returned (.bool (St.rgt x.1 x.2)) ∧ ∃ p : Regrown, w'' = Sort.grow (redrawn wr p.d) p.os := fun d os => Calls.regrown_of (rright_any x.1 x.2 _)
      clear e0 e1
      cases hr : St.rgt x.1 x.2
      · rw [hr] at cR
        have hno : Ve.fmd l = false := Ve.fmd_no k hlt (fun h => by rw [hx, hr] at h; exact absurd h.1 (by simp))
        have HNO := Lib.hid hno
        have CR := Lib.hid cR
        have HX := Lib.hid hx
        clear hno cR hx hcA hr
        go_wp2_with fail
        refine wp_region_quiet_below (by kernel_rfl) (by kernel_rfl) ?_
        repeat (first | go_big_quiet_step (exact CR.out _ _) | quiet_step (exact CR.out _ _))
        refine wpQuiet_nil ?_
        intro _ hw'
        obtain ⟨⟨dq, osq⟩, hw''⟩ := hw'
        subst hw''
        go_wp2
        go_ret
        exact ⟨by rw [HNO.out]; rfl, below_on hbw (below_regrown wr dq osq)⟩
      · rw [hr] at cR
        cases k with
        | zero =>
          simp only [Nat.zero_mul, Nat.add_zero] at k0 k1
          have HX := Lib.hid hx
          have HR := Lib.hid hr
          have CR := Lib.hid cR
          clear cR hx hcA hr
          go_wp2_with fail
          refine wp_region_quiet_below (by kernel_rfl) (by kernel_rfl) ?_
          repeat (first | go_big_quiet_step (exact CR.out _ _) | quiet_step (exact CR.out _ _))
          refine wpQuiet_nil ?_
          intro _ hw'
          obtain ⟨⟨dq, osq⟩, hw''⟩ := hw'
          subst hw''
          go_wp2_with fail
          go_roundw
          case rel =>
            refine ⟨1, by omega, by go_num, ?_, below_on hbw (below_regrown wr dq osq)⟩
            intro j hj
            have hj0 : j = 0 := by omega
            subst hj0
            exact ⟨by rw [HX.out]; exact HR.out, fun h => absurd h (by omega)⟩
          case measure => simp [intOf]; omega
        | succ m =>
          obtain ⟨_, f1⟩ := hcA m (by omega)
          obtain ⟨y, hy⟩ : ∃ y, l.getD m (0, 0) = y := ⟨_, rfl⟩
          rw [hy] at f1
          have k2 : ∀ d os, (Sort.grow (redrawn wr d) os).cell? ⟨b, off + m * 2 + 1, none⟩ = some (.int .i64 y.2) := cell_regrown f1
          clear f1
          have hm1 : ((m + 1 : Nat) : Int) - 1 = (m : Int) := by omega
          have hj0 : (0 : Int) ≤ (m : Int) := by omega
          have hj1 : (m : Int) < (l.length : Int) := by omega
          have hg : decide (((m + 1 : Nat) : Int) > 0) = true := decide_eq_true (by omega)
          by_cases hge : y.2 < x.2
          · have hd : decide (y.2 < x.2) = true := decide_eq_true hge
            have HX := Lib.hid hx
            have HY := Lib.hid hy
            have HR := Lib.hid hr
            have CR := Lib.hid cR
            clear cR hx hcA hr hy
            go_wp2_with fail
            refine wp_region_quiet_below (by kernel_rfl) (by kernel_rfl) ?_
            repeat (first | go_big_quiet_step (exact CR.out _ _) | quiet_step (exact CR.out _ _))
            refine wpQuiet_nil ?_
            intro _ hw'
            obtain ⟨⟨dq, osq⟩, hw''⟩ := hw'
            subst hw''
            go_wp2_with fail
            go_roundw
            case rel =>
              refine ⟨m + 1 + 1, by omega, by go_num, ?_, below_on hbw (below_regrown wr dq osq)⟩
              intro j hj
              by_cases e : j = m + 1
              · subst e
                exact ⟨by rw [HX.out]; exact HR.out, fun _ => by rw [show m + 1 - 1 = m from rfl, HX.out, HY.out]; exact hge⟩
              · exact HEQ.out j (by omega)
            case measure => simp [intOf]; omega
          · have hd : decide (y.2 < x.2) = false := decide_eq_false hge
            have hno : Ve.fmd l = false := Ve.fmd_no (m + 1) hlt (fun h => hge (by have := h.2 (by omega); rw [show m + 1 - 1 = m from rfl, hx, hy] at this; exact this))
            have HNO := Lib.hid hno
            have HX := Lib.hid hx
            have HY := Lib.hid hy
            have CR := Lib.hid cR
            clear hno cR hx hcA hr hy
            go_wp2_with fail
            refine wp_region_quiet_below (by kernel_rfl) (by kernel_rfl) ?_
            repeat (first | go_big_quiet_step (exact CR.out _ _) | quiet_step (exact CR.out _ _))
            refine wpQuiet_nil ?_
            intro _ hw'
            obtain ⟨⟨dq, osq⟩, hw''⟩ := hw'
            subst hw''
            go_wp2
            go_ret
            exact ⟨by rw [HNO.out]; rfl, below_on hbw (below_regrown wr dq osq)⟩
    · have hkl : k = l.length := by omega
      subst hkl
      have hyes : Ve.fmd l = true := (Ve.fmd_iff l).2 HEQ.out
      have HY := Lib.hid hyes
      clear hyes
      go_wp2
      go_ret
      exact ⟨by rw [HY.out]; rfl, hbw⟩

end Go.Proofs.Ytoaclofobfaflaa
