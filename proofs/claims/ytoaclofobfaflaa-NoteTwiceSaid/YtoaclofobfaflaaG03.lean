/-
  Plain mathematics of sets of objects: a list as it must be is known by its objects; how many there are; what two sets have together. Nothing of the program is imported.
  Plain mathematics of notes: writes, a note's four lists, and how they lie in memory. Nothing of the program is imported.
  A run of cells that lies unfrozen in a block of one's own: written anew cell by cell, cut, cleared. What a filter keeps while it goes. Nothing of the program is imported.
  What telltaleref01's Right answers, for all stamps; each leaves the memory that was there as it was.
-/
import Derived.Test.YtoaclofobfaflaaG02
import Derived.Laws.IdiomCopy
import Derived.Test.YtoaclofobfaflaaProg
import Derived.Test.YtoaclofobfaflaaG01
import Derived.Tactics
import Derived.Tactics2
import Derived.WalkKit
import Derived.WalkSpells
import Derived.OwnWalk
import Derived.Deep.QuietTactic
import Derived.BigQuiet
import Derived.Deep.RegionHeld3
import Derived.KernelRfl
import Derived.Lib.Hide
namespace Go.Proofs.Ytoaclofobfaflaa
namespace Sp

/-- The same, from the front: all places from b on. -/
def gf : Int → List (Int × Int) → Prop
  | _, [] => True
  | b, s :: r => b ≤ s.1 ∧ s.1 ≤ s.2 ∧ s.2 ≤ 255 ∧ gf (s.2 + 2) r
theorem inL_cons (s : Int × Int) (r : List (Int × Int)) (o : Nat) : inL (s :: r) o = (decide (s.1 ≤ (o : Int) ∧ (o : Int) ≤ s.2) || inL r o) := rfl
theorem good_gf : ∀ (l : List (Int × Int)) (b : Int), good 256 l → (0 < l.length → b ≤ (l.getD 0 (0, 0)).1) → gf b l
  | [], _, _, _ => trivial
  | s :: r, b, h, hb => by
    obtain ⟨_, h2, h3, _⟩ := h 0 (by simp)
    have h2' : s.1 ≤ s.2 := h2
    have h3' : s.2 < 256 := h3
    refine ⟨hb (by simp), h2', by omega, good_gf r _ (fun j hj => ?_) (fun h0 => ?_)⟩
    · obtain ⟨q1, q2, q3, q4⟩ := h (j + 1) (by simp; omega)
      refine ⟨q1, q2, q3, fun hp => ?_⟩
      have q5 := q4 (by omega)
      cases j with
      | zero => omega
      | succ m => exact q5
    · obtain ⟨_, _, _, q4⟩ := h 1 (by simp; omega)
      have q5 : s.2 + 1 < (r.getD 0 (0, 0)).1 := q4 (by omega)
      omega
theorem gf_from : ∀ (l : List (Int × Int)) (b : Int), gf b l → ∀ o : Nat, inL l o = true → b ≤ (o : Int)
  | [], _, _, o, h => by simp [inL] at h
  | s :: r, b, h, o, ho => by
    obtain ⟨h1, h2, h3, h4⟩ := h
    rw [inL_cons, Bool.or_eq_true, decide_eq_true_eq] at ho
    rcases ho with ho | ho
    · omega
    · have := gf_from r _ h4 o ho
      omega
theorem gf_uniq : ∀ (l r : List (Int × Int)) (b : Int), 0 ≤ b → gf b l → gf b r → (∀ o : Nat, o < 256 → inL l o = inL r o) → l = r
  | [], [], _, _, _, _, _ => rfl
  | [], t :: r, b, hb, _, h, he => by
    obtain ⟨h1, h2, h3, _⟩ := h
    have := he t.1.toNat (by omega)
    rw [inL_cons, decide_eq_true (by omega)] at this
    simp [inL] at this
  | s :: l, [], b, hb, h, _, he => by
    obtain ⟨h1, h2, h3, _⟩ := h
    have := he s.1.toNat (by omega)
    rw [inL_cons, decide_eq_true (by omega)] at this
    simp [inL] at this
  | s :: l, t :: r, b, hb, hl, hr, he => by
    obtain ⟨a1, a2, a3, a4⟩ := hl
    obtain ⟨c1, c2, c3, c4⟩ := hr
    have e1 : s.1 ≤ t.1 := by
      have h := he t.1.toNat (by omega)
      rw [inL_cons t, decide_eq_true (p := t.1 ≤ ((t.1.toNat : Nat) : Int) ∧ ((t.1.toNat : Nat) : Int) ≤ t.2) (by omega), Bool.true_or] at h
      have := gf_from (s :: l) s.1 ⟨Int.le_refl _, a2, a3, a4⟩ _ h
      omega
    have e2 : t.1 ≤ s.1 := by
      have h := he s.1.toNat (by omega)
      rw [inL_cons s, decide_eq_true (p := s.1 ≤ ((s.1.toNat : Nat) : Int) ∧ ((s.1.toNat : Nat) : Int) ≤ s.2) (by omega), Bool.true_or] at h
      have := gf_from (t :: r) t.1 ⟨Int.le_refl _, c2, c3, c4⟩ _ h.symm
      omega
    have e3 : ¬ s.2 < t.2 := fun hlt => by
      have h := he (s.2 + 1).toNat (by omega)
      rw [inL_cons t, decide_eq_true (p := t.1 ≤ (((s.2 + 1).toNat : Nat) : Int) ∧ (((s.2 + 1).toNat : Nat) : Int) ≤ t.2) (by omega), Bool.true_or, inL_cons, Bool.or_eq_true, decide_eq_true_eq] at h
      rcases h with h | h
      · omega
      · have := gf_from l _ a4 _ h
        omega
    have e4 : ¬ t.2 < s.2 := fun hlt => by
      have h := he (t.2 + 1).toNat (by omega)
      rw [inL_cons s, decide_eq_true (p := s.1 ≤ (((t.2 + 1).toNat : Nat) : Int) ∧ (((t.2 + 1).toNat : Nat) : Int) ≤ s.2) (by omega), Bool.true_or] at h
      have h := h.symm
      rw [inL_cons, Bool.or_eq_true, decide_eq_true_eq] at h
      rcases h with h | h
      · omega
      · have := gf_from r _ c4 _ h
        omega
    have e5 : s = t := Prod.ext (by omega) (by omega)
    subst e5
    have e6 := gf_uniq l r (s.2 + 2) (by omega) a4 c4 (fun o ho => by
      have h := he o ho
      rw [inL_cons, inL_cons] at h
      cases hd : decide (s.1 ≤ (o : Int) ∧ (o : Int) ≤ s.2) with
      | false => rw [hd, Bool.false_or, Bool.false_or] at h; exact h
      | true =>
        have hd := of_decide_eq_true hd
        have n1 : inL l o = false := by
          cases hq : inL l o with
          | false => rfl
          | true => have := gf_from l _ a4 _ hq; omega
        have n2 : inL r o = false := by
          cases hq : inL r o with
          | false => rfl
          | true => have := gf_from r _ c4 _ hq; omega
        rw [n1, n2])
    rw [e6]
theorem good_uniq {l r : List (Int × Int)} (hl : good 256 l) (hr : good 256 r) (h : ∀ o : Nat, o < 256 → inL l o = inL r o) : l = r :=
  gf_uniq l r 0 (Int.le_refl _) (good_gf l 0 hl (fun h0 => (hl 0 h0).1)) (good_gf r 0 hr (fun h0 => (hr 0 h0).1)) h
theorem good_lo {b : Int} {l : List (Int × Int)} (h : good b l) : ∀ j, j < l.length → 2 * (j : Int) ≤ (l.getD j (0, 0)).1
  | 0, hj => (h 0 hj).1
  | j + 1, hj => by
    have h1 := good_lo h j (by omega)
    have h2 := (h j (by omega)).2.1
    have h3 : (l.getD j (0, 0)).2 + 1 < (l.getD (j + 1) (0, 0)).1 := (h (j + 1) hj).2.2.2 (by omega)
    omega
theorem good_len {l : List (Int × Int)} (h : good 256 l) : l.length ≤ 128 := by
  rcases Nat.lt_or_ge 128 l.length with hlt | hge
  · have h1 := good_lo h 128 hlt
    obtain ⟨_, h2, h3, _⟩ := h 128 hlt
    omega
  · exact hge
theorem ofL_len (f : Nat → Bool) : (ofL f).length ≤ 128 := good_len (good_ofL f)
theorem ofL_self {l : List (Int × Int)} (h : good 256 l) : ofL (inL l) = l := good_uniq (good_ofL _) h fun o ho => inL_ofL _ o ho

/-- Is it a set as it must be? -/
def fmd (l : List (Int × Int)) : Bool := decide (l.length ≤ 128 ∧ l = ofL (inL l))
theorem fmd_iff (l : List (Int × Int)) : fmd l = true ↔ good 256 l := by
  unfold fmd
  rw [decide_eq_true_eq]
  constructor
  · rintro ⟨_, h⟩
    rw [h]
    exact good_ofL _
  · intro h
    exact ⟨good_len h, (ofL_self h).symm⟩
theorem fmd_ofL (f : Nat → Bool) : fmd (ofL f) = true := (fmd_iff _).2 (good_ofL f)

theorem two (b : Bool) : b = true ∨ b = false := by cases b <;> simp
/-- How many objects, up to k. -/
def szTo (f : Nat → Bool) : Nat → Nat
  | 0 => 0
  | k + 1 => if f k = true then szTo f k + 1 else szTo f k
def sz (f : Nat → Bool) : Nat := szTo f 256
theorem szTo_le (f : Nat → Bool) : ∀ k, szTo f k ≤ k
  | 0 => Nat.le_refl _
  | k + 1 => by
    have := szTo_le f k
    unfold szTo
    split <;> omega
theorem sz_le2 (f : Nat → Bool) : sz f ≤ 256 := szTo_le f 256
theorem szTo_ext {f g : Nat → Bool} : ∀ k, (∀ i, i < k → f i = g i) → szTo f k = szTo g k
  | 0, _ => rfl
  | k + 1, h => by rw [szTo, szTo, szTo_ext k (fun i hi => h i (by omega)), h k (by omega)]
theorem sz_ext {f g : Nat → Bool} (h : ∀ i, i < 256 → f i = g i) : sz f = sz g := szTo_ext 256 h
theorem szTo_split (a b : Nat → Bool) : ∀ k, szTo (fun o => a o && b o) k + szTo (fun o => a o && !b o) k = szTo a k
  | 0 => rfl
  | k + 1 => by
    have := szTo_split a b k
    simp only [szTo]
    rcases two (a k) with ha | ha <;> rcases two (b k) with hb | hb <;> simp [ha, hb] <;> omega
theorem sz_split (a b : Nat → Bool) : sz (fun o => a o && b o) + sz (fun o => a o && !b o) = sz a := szTo_split a b 256
theorem szTo_all {f : Nat → Bool} : ∀ k, (∀ i, i < k → f i = true) → szTo f k = k
  | 0, _ => rfl
  | k + 1, h => by rw [szTo, if_pos (h k (by omega)), szTo_all k (fun i hi => h i (by omega))]
theorem sz_all {f : Nat → Bool} (h : ∀ i, i < 256 → f i = true) : sz f = 256 := szTo_all 256 h
theorem szTo_sub (a b : Nat → Bool) : ∀ k, szTo (fun o => a o && b o) k ≤ szTo b k ∧ (szTo (fun o => a o && b o) k = szTo b k ↔ ∀ i, i < k → b i = true → a i = true)
  | 0 => ⟨Nat.le_refl _, fun _ i hi => by omega, fun _ => rfl⟩
  | k + 1 => by
    obtain ⟨h1, h2⟩ := szTo_sub a b k
    have step : (∀ i, i < k + 1 → b i = true → a i = true) ↔ (∀ i, i < k → b i = true → a i = true) ∧ (b k = true → a k = true) := by
      constructor
      · intro h
        exact ⟨fun i hi => h i (by omega), h k (by omega)⟩
      · rintro ⟨p, q⟩ i hi
        by_cases e : i = k
        · subst e; exact q
        · exact p i (by omega)
    rw [step, ← h2]
    simp only [szTo]
    rcases two (a k) with ha | ha <;> rcases two (b k) with hb | hb <;> simp [ha, hb] <;> omega

/-- How many spans many lists hold together. -/
def tot (ls : List (List (Int × Int))) : Nat := (ls.map List.length).sum
theorem tot_one (l : List (Int × Int)) : tot [l] = l.length := by simp [tot]
theorem tot_two (l r : List (Int × Int)) : tot [l, r] = l.length + r.length := by simp [tot]
theorem tot_le (n : Nat) : ∀ (ls : List (List (Int × Int))), (∀ k, k < ls.length → (ls.getD k []).length ≤ n) → tot ls ≤ ls.length * n
  | [], _ => by simp [tot]
  | l :: r, h => by
    have h0 : l.length ≤ n := h 0 (by simp)
    have h1 := tot_le n r (fun k hk => h (k + 1) (by simp; omega))
    have e : tot (l :: r) = l.length + tot r := by simp [tot]
    rw [e, List.length_cons, Nat.succ_mul]
    omega

/-- Is all of g in f? Is one in both? -/
def cov (f g : Nat → Bool) : Bool := decide (∀ o : Fin 256, g o.val = true → f o.val = true)
def touch (f g : Nat → Bool) : Bool := decide (∃ o : Fin 256, f o.val = true ∧ g o.val = true)
theorem cov_iff (f g : Nat → Bool) : cov f g = true ↔ ∀ o, o < 256 → g o = true → f o = true := by
  unfold cov
  rw [decide_eq_true_iff]
  exact ⟨fun h o ho => h ⟨o, ho⟩, fun h o => h o.val o.isLt⟩
theorem touch_iff (f g : Nat → Bool) : touch f g = true ↔ ∃ o, o < 256 ∧ f o = true ∧ g o = true := by
  unfold touch
  rw [decide_eq_true_iff]
  exact ⟨fun ⟨o, h⟩ => ⟨o.val, o.isLt, h⟩, fun ⟨o, ho, h⟩ => ⟨⟨o, ho⟩, h⟩⟩
theorem cov_sz (a b : Nat → Bool) : cov a b = (sz (fun o => a o && b o) == sz b) := by
  rw [Bool.eq_iff_iff, cov_iff, beq_iff_eq]
  exact (szTo_sub a b 256).2.symm
theorem ofL_nil (f : Nat → Bool) : (ofL f).length = 0 ↔ ∀ o, o < 256 → f o = false := by
  constructor
  · intro h o ho
    rw [← inL_ofL f o ho, List.eq_nil_of_length_eq_zero h]
    rfl
  · intro h
    have : ofL f = [] := good_uniq (good_ofL f) (good_nil _) fun o ho => by rw [inL_ofL f o ho, h o ho]; rfl
    rw [this]
    rfl
theorem cov_ref (f g : Nat → Bool) : cov f g = ((ofL fun o => g o && !f o).length == 0) := by
  rw [Bool.eq_iff_iff, cov_iff, beq_iff_eq, ofL_nil]
  constructor
  · intro h o ho
    have := h o ho
    cases hg : g o <;> cases hf : f o <;> simp_all
  · intro h o ho hg
    have := h o ho
    cases hf : f o <;> simp_all
theorem touch_ref (f g : Nat → Bool) : touch f g = decide (0 < (ofL fun o => f o && g o).length) := by
  rw [Bool.eq_iff_iff, touch_iff, decide_eq_true_eq, Nat.pos_iff_ne_zero, Ne, ofL_nil]
  constructor
  · rintro ⟨o, ho, h1, h2⟩ h
    have := h o ho
    simp_all
  · intro h
    refine Classical.byContradiction fun hn => h fun o ho => ?_
    cases hf : f o <;> cases hg : g o <;> simp
    exact hn ⟨o, ho, hf, hg⟩

end Sp
end Go.Proofs.Ytoaclofobfaflaa
namespace Go.Proofs.Ytoaclofobfaflaa
open Go.RowKit

/-- A write: count, node, object, gone. -/
abbrev Wr := Int × Int × Int × Bool
namespace Nt
def wrCell (x : Wr) : List Value := [.int .i64 x.1, .int .i64 x.2.1, .int .i64 x.2.2.1, .bool x.2.2.2]
def wrCells (l : List Wr) : List Value := l.flatMap wrCell
theorem wrCells_length (l : List Wr) : (wrCells l).length = l.length * 4 := by
  induction l with
  | nil => rfl
  | cons x r ih =>
    unfold wrCells at *
    rw [List.flatMap_cons, List.length_append, ih]
    simp [wrCell]
    omega
theorem wrCells_one (l : List Wr) : ∀ u ∈ wrCells l, u.oneCell' = true := by
  intro u hu
  obtain ⟨x, _, hx⟩ := List.mem_flatMap.1 hu
  simp [wrCell] at hx
  rcases hx with rfl | rfl | rfl | rfl <;> rfl
theorem wrCells_append (l r : List Wr) : wrCells (l ++ r) = wrCells l ++ wrCells r := by unfold wrCells; rw [List.flatMap_append]
theorem wrCells_nil {l : List Wr} : wrCells l = [] ↔ l = [] := by cases l <;> simp [wrCells, wrCell]
def zeroW : Wr := (0, 0, 0, false)
theorem wrCells_get (l : List Wr) : ∀ k, k < l.length → (wrCells l)[k * 4]? = some (.int .i64 (l.getD k zeroW).1) ∧ (wrCells l)[k * 4 + 1]? = some (.int .i64 (l.getD k zeroW).2.1) ∧ (wrCells l)[k * 4 + 2]? = some (.int .i64 (l.getD k zeroW).2.2.1) ∧ (wrCells l)[k * 4 + 3]? = some (.bool (l.getD k zeroW).2.2.2) := by
  induction l with
  | nil => intro k hk; simp at hk
  | cons x r ih =>
    intro k hk
    have e : wrCells (x :: r) = wrCell x ++ wrCells r := rfl
    rw [e]
    cases k with
    | zero => exact ⟨rfl, rfl, rfl, rfl⟩
    | succ m =>
      obtain ⟨h1, h2, h3, h4⟩ := ih m (by simpa using hk)
      have hl : (wrCell x).length = 4 := rfl
      have sh : ∀ j, (wrCell x ++ wrCells r)[(m + 1) * 4 + j]? = (wrCells r)[m * 4 + j]? := fun j => by
        rw [List.getElem?_append_right (by omega), hl]
        congr 1
        omega
      refine ⟨(sh 0).trans h1, (sh 1).trans h2, (sh 2).trans h3, (sh 3).trans h4⟩
end Nt

/-- A list of writes by value. -/
def OneW (w : World) (A : Option Addr) (c : Nat) (l : List Wr) : Prop := l.length ≤ c ∧ c ≤ maxLen ∧ (A = none → l.length = 0 ∧ c = 0) ∧ Lies w A (Nt.wrCells l)
section
variable {w w' : World} {A : Option Addr} {c : Nat} {l : List Wr}
theorem OneW.later (h : OneW w A c l) (hb : Below w.heap.size w w') : OneW w' A c l := ⟨h.1, h.2.1, h.2.2.1, h.2.2.2.later hb⟩
theorem OneW.len (h : OneW w A c l) : l.length ≤ 9223372036854775807 := by
  have h1 := h.1
  have h2 := h.2.1
  unfold maxLen at h2
  omega
theorem OneW.nil : OneW w none 0 [] := ⟨Nat.le_refl _, Nat.zero_le _, fun _ => ⟨rfl, rfl⟩, Lies.nil⟩
theorem OneW.of_own {base : Nat} {e : TypeId} {v : Value} (h : w.ownsRow base e 4 v l.length (Nt.wrCells l)) : ∃ A c, v = .slice A l.length c ∧ OneW w A c l := by
  obtain ⟨A, c, h1, h2, h3, h4, h5⟩ := own_form h
  exact ⟨A, c, h1, h2, h3, h4, h5⟩
/-- The cells of one of them. -/
theorem OneW.at (h : OneW w A c l) (hne : l ≠ []) : ∃ b off, A = some ⟨b, off, none⟩ ∧ ∀ k, k < l.length → w.cell? ⟨b, off + k * 4, none⟩ = some (.int .i64 (l.getD k Nt.zeroW).1) ∧ w.cell? ⟨b, off + k * 4 + 1, none⟩ = some (.int .i64 (l.getD k Nt.zeroW).2.1) ∧
    w.cell? ⟨b, off + k * 4 + 2, none⟩ = some (.int .i64 (l.getD k Nt.zeroW).2.2.1) ∧ w.cell? ⟨b, off + k * 4 + 3, none⟩ = some (.bool (l.getD k Nt.zeroW).2.2.2) := by
  obtain ⟨b, off, hA, hc⟩ := h.2.2.2 (fun e => hne (Nt.wrCells_nil.1 e))
  refine ⟨b, off, hA, fun k hk => ?_⟩
  obtain ⟨h1, h2, h3, h4⟩ := Nt.wrCells_get l k hk
  exact ⟨hc _ _ h1, (Nat.add_assoc off (k * 4) 1) ▸ hc _ _ h2, (Nat.add_assoc off (k * 4) 2) ▸ hc _ _ h3, (Nat.add_assoc off (k * 4) 3) ▸ hc _ _ h4⟩
end

/-- A note: its start, its end, its blur, its writes. -/
structure Note where
  s : List (Int × Int)
  e : List (Int × Int)
  b : List (Int × Int)
  ws : List Wr
/-- A note by value: four slices. -/
structure NoteAt (w : World) (S E B V : Option Addr) (cs ce cb cv : Nat) (n : Note) : Prop where
  hs : OneL w S cs n.s
  he : OneL w E ce n.e
  hb : OneL w B cb n.b
  hv : OneW w V cv n.ws
theorem NoteAt.later {w w' : World} {S E B V : Option Addr} {cs ce cb cv : Nat} {n : Note} (h : NoteAt w S E B V cs ce cb cv n) (hb : Below w.heap.size w w') : NoteAt w' S E B V cs ce cb cv n := ⟨h.hs.later hb, h.he.later hb, h.hb.later hb, h.hv.later hb⟩
/-- Its cells. -/
def noteCells (S E B V : Option Addr) (cs ce cb cv : Nat) (n : Note) : Array Value := #[.slice S n.s.length cs, .slice E n.e.length ce, .slice B n.b.length cb, .slice V n.ws.length cv]
/-- A note is answered; what was there before is as it was. -/
def AnsN (n : Note) (w : World) (e : Ending) (w' : World) : Prop := ∃ S E B V cs ce cb cv, e = .returned (.agg (noteCells S E B V cs ce cb cv n)) ∧ NoteAt w' S E B V cs ce cb cv n ∧ Below w.heap.size w w'
/-- A note and an error's number. -/
def AnsNE (n : Note) (x : Int) (w : World) (e : Ending) (w' : World) : Prop := ∃ S E B V cs ce cb cv, e = .returned (.tuple #[.agg (noteCells S E B V cs ce cb cv n), .int .i64 x]) ∧ NoteAt w' S E B V cs ce cb cv n ∧ Below w.heap.size w w'

theorem stCells_flat' (l : List (Int × Int)) : l.flatMap (fun s => [Value.int .i64 s.1, Value.int .i64 s.2]) = stCells l := by
  induction l with
  | nil => rfl
  | cons s r ih => rw [List.flatMap_cons, ih]; rfl
def isSl : Value → Bool
  | .slice .. => true
  | _ => false
theorem stCells_noSl (l : List (Int × Int)) : ∀ u ∈ stCells l, isSl u = false := by
  intro u hu
  rw [← stCells_flat'] at hu
  obtain ⟨x, _, hx⟩ := List.mem_flatMap.1 hu
  simp at hx
  rcases hx with rfl | rfl <;> rfl
theorem wrCells_noSl (l : List Wr) : ∀ u ∈ Nt.wrCells l, isSl u = false := by
  intro u hu
  obtain ⟨x, _, hx⟩ := List.mem_flatMap.1 hu
  simp [Nt.wrCell] at hx
  rcases hx with rfl | rfl | rfl | rfl <;> rfl
/-- A store into a block of slices leaves what holds none as it was. -/
theorem Lies.slPut {w : World} {A : Option Addr} {xs : List Value} (h : Lies w A xs) (hx : ∀ u ∈ xs, isSl u = false) {g : Nat} {t : TypeId} {cs : Array Value} (hB : Blk w g t cs) (hc : ∀ u ∈ cs.toList, isSl u = true) (i : Nat) (x : Value) : Lies (w.setCell ⟨g, i, none⟩ x) A xs := fun hne => by
  obtain ⟨b, off, hA, hl⟩ := h hne
  refine ⟨b, off, hA, fun j u hu => ?_⟩
  have h1 := hl j u hu
  have hbg : b ≠ g := fun e => by
    subst e
    rw [cell_of_row w b (off + j) cs t (0, 0) hB] at h1
    have h2 := hc u (Array.mem_toList_iff.2 (Array.mem_of_getElem? h1))
    rw [hx u (List.mem_of_getElem? hu)] at h2
    cases h2
  exact (World.cell?_of_block (Below.heap_setCell w ⟨g, i, none⟩ x b hbg)).trans h1
theorem OneL.slPut {w : World} {A : Option Addr} {c : Nat} {l : List (Int × Int)} (h : OneL w A c l) {g : Nat} {t : TypeId} {cs : Array Value} (hB : Blk w g t cs) (hc : ∀ u ∈ cs.toList, isSl u = true) (i : Nat) (x : Value) : OneL (w.setCell ⟨g, i, none⟩ x) A c l := ⟨h.1, h.2.1, h.2.2.1, h.2.2.2.slPut (stCells_noSl l) hB hc i x⟩
theorem OneW.slPut {w : World} {A : Option Addr} {c : Nat} {l : List Wr} (h : OneW w A c l) {g : Nat} {t : TypeId} {cs : Array Value} (hB : Blk w g t cs) (hc : ∀ u ∈ cs.toList, isSl u = true) (i : Nat) (x : Value) : OneW (w.setCell ⟨g, i, none⟩ x) A c l := ⟨h.1, h.2.1, h.2.2.1, h.2.2.2.slPut (wrCells_noSl l) hB hc i x⟩
theorem NoteAt.slPut {w : World} {S E B V : Option Addr} {cs ce cb cv : Nat} {n : Note} (h : NoteAt w S E B V cs ce cb cv n) {g : Nat} {t : TypeId} {ds : Array Value} (hB : Blk w g t ds) (hc : ∀ u ∈ ds.toList, isSl u = true) (i : Nat) (x : Value) : NoteAt (w.setCell ⟨g, i, none⟩ x) S E B V cs ce cb cv n :=
  ⟨h.hs.slPut hB hc i x, h.he.slPut hB hc i x, h.hb.slPut hB hc i x, h.hv.slPut hB hc i x⟩
/-- Four slices are stored, one after the other. -/
theorem NoteAt.puts {w : World} {S E B V : Option Addr} {cs ce cb cv : Nat} {n : Note} (h : NoteAt w S E B V cs ce cb cv n) {g : Nat} {t : TypeId} {y0 y1 y2 y3 : Value} (hB : Blk w g t #[y0, y1, y2, y3]) (hy : isSl y0 = true ∧ isSl y1 = true ∧ isSl y2 = true ∧ isSl y3 = true) (x0 x1 x2 x3 : Value) (hx : isSl x0 = true ∧ isSl x1 = true ∧ isSl x2 = true) :
    NoteAt ((((w.setCell ⟨g, 0, none⟩ x0).setCell ⟨g, 1, none⟩ x1).setCell ⟨g, 2, none⟩ x2).setCell ⟨g, 3, none⟩ x3) S E B V cs ce cb cv n := by
  have B1 : Blk (w.setCell ⟨g, 0, none⟩ x0) g t #[x0, y1, y2, y3] := hB.put 0 x0
  have B2 : Blk ((w.setCell ⟨g, 0, none⟩ x0).setCell ⟨g, 1, none⟩ x1) g t #[x0, x1, y2, y3] := B1.put 1 x1
  have B3 : Blk (((w.setCell ⟨g, 0, none⟩ x0).setCell ⟨g, 1, none⟩ x1).setCell ⟨g, 2, none⟩ x2) g t #[x0, x1, x2, y3] := B2.put 2 x2
  obtain ⟨e0, e1, e2, e3⟩ := hy
  obtain ⟨f0, f1, f2⟩ := hx
  refine (((h.slPut hB ?_ 0 x0).slPut B1 ?_ 1 x1).slPut B2 ?_ 2 x2).slPut B3 ?_ 3 x3
  all_goals
    intro u hu
    simp at hu
    rcases hu with rfl | rfl | rfl | rfl <;> assumption

end Go.Proofs.Ytoaclofobfaflaa
namespace Go.Proofs.Ytoaclofobfaflaa
open Go.RowKit

/-- The cells xs lie from a place of a block on, none of them frozen. -/
def Lay (w : World) (b off : Nat) (xs : List Value) : Prop := ∀ (j : Nat) (u : Value), xs[j]? = some u → w.cell? ⟨b, off + j, none⟩ = some u ∧ w.frozen? ⟨b, off + j, none⟩ = false

section
variable {w w' : World} {b off : Nat} {xs ys : List Value}
theorem Lay.later (h : Lay w b off xs) (hlt : b < w.heap.size) (hb : Below w.heap.size w w') : Lay w' b off xs := fun j u hu =>
  ⟨(hb.cell (p := ⟨b, off + j, none⟩) hlt).trans (h j u hu).1, (hb.frozen (p := ⟨b, off + j, none⟩) hlt).trans (h j u hu).2⟩
theorem Lay.drew (h : Lay w b off xs) : Lay w.drew b off xs := h
theorem Lay.put (h : Lay w b off xs) (i : Nat) (u : Value) : Lay (w.setCell ⟨b, off + i, none⟩ u) b off (xs.set i u) := by
  intro j v hv
  have hj : j < xs.length := by
    have := (List.getElem?_eq_some_iff.1 hv).1
    simpa using this
  have h0 := h j xs[j] (List.getElem?_eq_getElem hj)
  refine ⟨?_, by rw [World.frozen?_setCell]; exact h0.2⟩
  by_cases e : i = j
  · subst e
    rw [List.getElem?_set_self hj] at hv
    injection hv with hv
    subst hv
    exact World.cell?_setCell_same' _ _ _ (by rw [h0.1]; rfl)
  · rw [List.getElem?_set_ne e] at hv
    refine (World.cell?_setCell_other _ _ _ _ (fun hh => e (by injection hh with _ h2; omega))).trans (h j v hv).1
theorem Lay.far (h : Lay w b off xs) {p : Addr} (hp : b ≠ p.block) (u : Value) : Lay (w.setCell p u) b off xs := fun j v hv =>
  ⟨(World.cell?_of_block (w := w) (w' := w.setCell p u) (a := ⟨b, off + j, none⟩) (Below.heap_setCell w p u b hp)).trans (h j v hv).1, by rw [World.frozen?_setCell]; exact (h j v hv).2⟩
theorem Lay.sub (h : Lay w b off xs) (hs : ∀ (j : Nat) (u : Value), ys[j]? = some u → xs[j]? = some u) : Lay w b off ys := fun j u hu => h j u (hs j u hu)
theorem Lay.lies (h : Lay w b off xs) : Lies w (some ⟨b, off, none⟩) xs := fun _ => ⟨b, off, rfl, fun j u hu => (h j u hu).1⟩
theorem Lay.of_own {base : Nat} {e : TypeId} {size n cap : Nat} (h : w.ownsRow base e size (.slice (some ⟨b, 0, none⟩) n cap) n xs) : Lay w b 0 xs := by
  rcases h.2 with ⟨h1, _⟩ | ⟨g', cap', cur, h1, _, hg, _, _, _, ht⟩
  · cases h1
  · injection h1 with h1 h2 h3
    injection h1 with h1
    injection h1 with h1
    subst h1
    intro j u hu
    rw [Nat.zero_add]
    refine ⟨?_, Blk.free hg j⟩
    rw [cell_of_row w b j cur e (0, 0) hg, ← Array.getElem?_toList]
    rw [← ht, List.getElem?_take] at hu
    split at hu
    · exact hu
    · cases hu
/-- Cells behind the first ones are written anew: those stay. -/
theorem Lay.behind (h : Lay w b off xs) (k : Nat) (hk : xs.length ≤ k) (vs : List Value) : Lay (w.setCells b (off + k) vs) b off xs := fun j u hu => by
  have hj := (List.getElem?_eq_some_iff.1 hu).1
  refine ⟨?_, by rw [World.frozen?_setCells]; exact (h j u hu).2⟩
  rw [World.cell?_setCells_out b vs (off + k) w ⟨b, off + j, none⟩ (fun _ _ => Or.inl (by show off + j < off + k; omega))]
  exact (h j u hu).1
end

theorem below_cells {w0 : World} {b : Nat} (hb : w0.heap.size ≤ b) : ∀ (vs : List Value) (o : Nat) (w : World), Below w0.heap.size w0 w → Below w0.heap.size w0 (w.setCells b o vs)
  | [], _, _, h => h
  | v :: r, o, _, h => below_cells hb r (o + 1) _ (h.setCell (p := ⟨b, o, none⟩) hb v)

theorem OneW.of_lay {w : World} {b off c : Nat} {l : List Wr} (h : Lay w b off (Nt.wrCells l)) (h1 : l.length ≤ c) (h2 : c ≤ maxLen) : OneW w (some ⟨b, off, none⟩) c l := ⟨h1, h2, (fun h => by cases h), h.lies⟩
theorem OneL.of_lay {w : World} {b off c : Nat} {l : List (Int × Int)} (h : Lay w b off (stCells l)) (h1 : l.length ≤ c) (h2 : c ≤ maxLen) : OneL w (some ⟨b, off, none⟩) c l := ⟨h1, h2, (fun h => by cases h), h.lies⟩

/-- 'clear(s)' of n elements of any number of cells. -/
theorem run_clear_cells {P : Program} (w : World) (t e ty : TypeId) (z : Value) (ht : P.underlying t = some (.slice e)) (hv : ∀ w, (zeroValue e).run P w = .ok z w) (b o n c : Nat) (hn : 0 < n)
    (h1 : ∀ u ∈ (Builtin.zeroCells z.cells n).toList, u.oneCell' = true)
    (hc : ∀ j, j < (Builtin.zeroCells z.cells n).toList.length → (w.cell? ⟨b, o + j, none⟩).isSome = true) (hf : ∀ j, j < (Builtin.zeroCells z.cells n).toList.length → w.frozen? ⟨b, o + j, none⟩ = false) :
    (Builtin.clear_ #[t] ty #[.slice (some ⟨b, o, none⟩) n c]).run P w = .ok (.tuple #[]) (w.setCells b o (Builtin.zeroCells z.cells n).toList) := by
  have hst := run_storeCells_cells (P := P) b o (Builtin.zeroCells z.cells n).toList 0 w (by simpa using hc) (by simpa using hf) h1
  simp only [Nat.add_zero] at hst
  obtain ⟨m, rfl⟩ : ∃ m, n = m + 1 := ⟨n - 1, by omega⟩
  simp [Builtin.clear_, run_underlying ht, hv, hst]

section
variable {α : Type} {q : α → Bool} {D Dk : List α} {i j : Nat}
/-- Of the first j elements those that are kept lie at the head, i of them; from j on all is as it was. -/
structure KeptL (q : α → Bool) (D : List α) (j i : Nat) (Dk : List α) : Prop where
  len : Dk.length = D.length
  head : Dk.take i = (D.take j).filter q
  cnt : ((D.take j).filter q).length = i
  lt : i < j
  le : j ≤ D.length
  tail : ∀ t, j ≤ t → Dk[t]? = D[t]?
theorem KeptL.start (hj : j < D.length) (hall : ∀ t (h : t < j), q (D[t]'(by omega)) = true) (hno : q D[j] = false) : KeptL q D (j + 1) j D where
  len := rfl
  head := by
    rw [List.take_succ_eq_append_getElem hj, List.filter_append, List.filter_eq_self.2 (fun x hx => by
      obtain ⟨t, ht, rfl⟩ := List.mem_iff_getElem.1 hx
      rw [List.getElem_take]
      exact hall t (by rw [List.length_take] at ht; omega))]
    simp [hno]
  cnt := by
    rw [List.take_succ_eq_append_getElem hj, List.filter_append, List.filter_eq_self.2 (fun x hx => by
      obtain ⟨t, ht, rfl⟩ := List.mem_iff_getElem.1 hx
      rw [List.getElem_take]
      exact hall t (by rw [List.length_take] at ht; omega))]
    simp [hno]
    omega
  lt := Nat.lt_succ_self _
  le := by omega
  tail := fun _ _ => rfl
theorem KeptL.skip (h : KeptL q D j i Dk) (hj : j < D.length) (hno : q D[j] = false) : KeptL q D (j + 1) i Dk where
  len := h.len
  head := by rw [h.head, List.take_succ_eq_append_getElem hj, List.filter_append]; simp [hno]
  cnt := by rw [List.take_succ_eq_append_getElem hj, List.filter_append]; simp [hno, h.cnt]
  lt := by have := h.lt; omega
  le := by omega
  tail := fun t ht => h.tail t (by omega)
theorem KeptL.keep (h : KeptL q D j i Dk) (hj : j < D.length) (hyes : q D[j] = true) : KeptL q D (j + 1) (i + 1) (Dk.set i D[j]) where
  len := by rw [List.length_set]; exact h.len
  head := by
    have hi : i < (Dk.set i D[j]).length := by rw [List.length_set, h.len]; have := h.lt; omega
    rw [List.take_succ_eq_append_getElem hi, List.getElem_set_self, List.take_set, List.set_eq_of_length_le (by rw [List.length_take]; omega), h.head, List.take_succ_eq_append_getElem hj, List.filter_append]
    simp [hyes]
  cnt := by rw [List.take_succ_eq_append_getElem hj, List.filter_append]; simp [hyes, h.cnt]
  lt := by have := h.lt; omega
  le := by omega
  tail := fun t ht => by
    rw [List.getElem?_set_ne (by have := h.lt; omega)]
    exact h.tail t (by omega)
theorem KeptL.done (h : KeptL q D D.length i Dk) : i = (D.filter q).length ∧ Dk.take i = D.filter q := by
  have h1 := h.cnt
  have h2 := h.head
  rw [List.take_length] at h1 h2
  exact ⟨h1.symm, h2⟩
theorem KeptL.get (h : KeptL q D j i Dk) (hj : j < D.length) : Dk[j]? = some D[j] := by rw [h.tail j (Nat.le_refl _), List.getElem?_eq_getElem hj]
end

/-- The cells of a list whose element i is written anew. -/
theorem wr_set (D : List Wr) (x : Wr) : ∀ i, i < D.length → ((((Nt.wrCells D).set (i * 4) (.int .i64 x.1)).set (i * 4 + 1) (.int .i64 x.2.1)).set (i * 4 + 2) (.int .i64 x.2.2.1)).set (i * 4 + 3) (.bool x.2.2.2) = Nt.wrCells (D.set i x) := by
  induction D with
  | nil => intro i hi; simp at hi
  | cons y r ih =>
    intro i hi
    cases i with
    | zero => rfl
    | succ m =>
      have e : Nt.wrCells (y :: r) = [.int .i64 y.1, .int .i64 y.2.1, .int .i64 y.2.2.1, .bool y.2.2.2] ++ Nt.wrCells r := rfl
      have e2 : Nt.wrCells ((y :: r).set (m + 1) x) = [.int .i64 y.1, .int .i64 y.2.1, .int .i64 y.2.2.1, .bool y.2.2.2] ++ Nt.wrCells (r.set m x) := rfl
      rw [e, e2, ← ih m (by simpa using hi), show (m + 1) * 4 = m * 4 + 4 from by omega]
      rfl
theorem st_set (D : List (Int × Int)) (x : Int × Int) : ∀ i, i < D.length → ((stCells D).set (i * 2) (.int .i64 x.1)).set (i * 2 + 1) (.int .i64 x.2) = stCells (D.set i x) := by
  induction D with
  | nil => intro i hi; simp at hi
  | cons y r ih =>
    intro i hi
    cases i with
    | zero => rfl
    | succ m =>
      have e : stCells (y :: r) = [.int .i64 y.1, .int .i64 y.2] ++ stCells r := rfl
      have e2 : stCells ((y :: r).set (m + 1) x) = [.int .i64 y.1, .int .i64 y.2] ++ stCells (r.set m x) := rfl
      rw [e, e2, ← ih m (by simpa using hi), show (m + 1) * 2 = m * 2 + 2 from by omega]
      rfl
/-- The cells of element k, where the list has it. -/
theorem wr_get (l : List Wr) (x : Wr) (k : Nat) (h : l[k]? = some x) : (Nt.wrCells l)[k * 4]? = some (.int .i64 x.1) ∧ (Nt.wrCells l)[k * 4 + 1]? = some (.int .i64 x.2.1) ∧ (Nt.wrCells l)[k * 4 + 2]? = some (.int .i64 x.2.2.1) ∧ (Nt.wrCells l)[k * 4 + 3]? = some (.bool x.2.2.2) := by
  have hk := (List.getElem?_eq_some_iff.1 h).1
  have := Nt.wrCells_get l k hk
  rw [List.getD_eq_getElem?_getD, h] at this
  exact this
theorem st_get (l : List (Int × Int)) (x : Int × Int) (k : Nat) (h : l[k]? = some x) : (stCells l)[k * 2]? = some (.int .i64 x.1) ∧ (stCells l)[k * 2 + 1]? = some (.int .i64 x.2) := by
  have hk := (List.getElem?_eq_some_iff.1 h).1
  have := stCells_get l k hk
  rw [List.getD_eq_getElem?_getD, h] at this
  exact this
theorem wr_take (l : List Wr) (n : Nat) : ∀ (j : Nat) (u : Value), (Nt.wrCells (l.take n))[j]? = some u → (Nt.wrCells l)[j]? = some u := by
  intro j u hu
  rw [← List.take_append_drop n l, Nt.wrCells_append, List.getElem?_append_left (List.getElem?_eq_some_iff.1 hu).1]
  exact hu
theorem st_take (l : List (Int × Int)) (n : Nat) : ∀ (j : Nat) (u : Value), (stCells (l.take n))[j]? = some u → (stCells l)[j]? = some u := by
  intro j u hu
  rw [← List.take_append_drop n l, stCells_append, List.getElem?_append_left (List.getElem?_eq_some_iff.1 hu).1]
  exact hu

end Go.Proofs.Ytoaclofobfaflaa
namespace Go.Proofs.Ytoaclofobfaflaa
open Go.RowKit

theorem rright_c (c n : Int) (w : World) (h : c < 1) :
    Calls Try.prog 49 #[.agg #[.int .i64 c, .int .i64 n]] w fun e w' => e = .returned (.bool (St.rgt c n)) ∧ Below w.heap.size w w' := by
  have h0 : St.rgt c n = false := by unfold St.rgt; simp; omega
  have H0 := Lib.hid h0; clear h0
  have hd0 : decide (1 ≤ c) = false := decide_eq_false (by omega)
  go_enter Try.func49, Try.ntmps49
  go_wp2
  go_ret
  rw [H0.out]
  exact ⟨rfl, by repeat (first | exact Below.refl _ _ | exact Nat.le_refl _ | (apply Below.drew) | (refine Below.alloc ?_ ?_ _) | (refine Below.setCell ?_ ?_ _) | (simp; done) | (simp; omega))⟩

theorem rright_n (c n : Int) (w : World) (h : 1 ≤ c) (hn : n < 0) :
    Calls Try.prog 49 #[.agg #[.int .i64 c, .int .i64 n]] w fun e w' => e = .returned (.bool (St.rgt c n)) ∧ Below w.heap.size w w' := by
  have h0 : St.rgt c n = false := by unfold St.rgt; simp; omega
  have H0 := Lib.hid h0; clear h0
  have hd0 : decide (1 ≤ c) = true := decide_eq_true (by omega)
  have hd1 : decide (0 ≤ n) = false := decide_eq_false (by omega)
  go_enter Try.func49, Try.ntmps49
  go_wp2
  go_ret
  rw [H0.out]
  exact ⟨rfl, by repeat (first | exact Below.refl _ _ | exact Nat.le_refl _ | (apply Below.drew) | (refine Below.alloc ?_ ?_ _) | (refine Below.setCell ?_ ?_ _) | (simp; done) | (simp; omega))⟩

theorem rright_m (c n : Int) (w : World) (h : 1 ≤ c) (hn : 63 < n) :
    Calls Try.prog 49 #[.agg #[.int .i64 c, .int .i64 n]] w fun e w' => e = .returned (.bool (St.rgt c n)) ∧ Below w.heap.size w w' := by
  have h0 : St.rgt c n = false := by unfold St.rgt; simp; omega
  have H0 := Lib.hid h0; clear h0
  have hd0 : decide (1 ≤ c) = true := decide_eq_true (by omega)
  have hd1 : decide (0 ≤ n) = true := decide_eq_true (by omega)
  have hd2 : decide (n ≤ 63) = false := decide_eq_false (by omega)
  go_enter Try.func49, Try.ntmps49
  go_wp2
  go_ret
  rw [H0.out]
  exact ⟨rfl, by repeat (first | exact Below.refl _ _ | exact Nat.le_refl _ | (apply Below.drew) | (refine Below.alloc ?_ ?_ _) | (refine Below.setCell ?_ ?_ _) | (simp; done) | (simp; omega))⟩

theorem rright_y (c n : Int) (w : World) (h : 1 ≤ c) (hn : 0 ≤ n) (hm : n ≤ 63) :
    Calls Try.prog 49 #[.agg #[.int .i64 c, .int .i64 n]] w fun e w' => e = .returned (.bool (St.rgt c n)) ∧ Below w.heap.size w w' := by
  have h0 : St.rgt c n = true := by unfold St.rgt; simp; omega
  have H0 := Lib.hid h0; clear h0
  have hd0 : decide (1 ≤ c) = true := decide_eq_true (by omega)
  have hd1 : decide (0 ≤ n) = true := decide_eq_true (by omega)
  have hd2 : decide (n ≤ 63) = true := decide_eq_true (by omega)
  go_enter Try.func49, Try.ntmps49
  go_wp2
  go_ret
  rw [H0.out]
  exact ⟨rfl, by repeat (first | exact Below.refl _ _ | exact Nat.le_refl _ | (apply Below.drew) | (refine Below.alloc ?_ ?_ _) | (refine Below.setCell ?_ ?_ _) | (simp; done) | (simp; omega))⟩

/-- telltaleref01's Right. -/
theorem rright_any (c n : Int) (w : World) :
    Calls Try.prog 49 #[.agg #[.int .i64 c, .int .i64 n]] w fun e w' => e = .returned (.bool (St.rgt c n)) ∧ Below w.heap.size w w' := by
  by_cases h : c < 1
  · exact rright_c c n w h
  by_cases h1 : n < 0
  · exact rright_n c n w (by omega) h1
  by_cases h2 : 63 < n
  · exact rright_m c n w (by omega) h2
  · exact rright_y c n w (by omega) (by omega) (by omega)

end Go.Proofs.Ytoaclofobfaflaa
