/-
  Plain mathematics of disks: files where they lie, as an argument and in memory of the call's own; a disk's rules. Nothing of the program is imported.
-/
import Derived.Test.YtgjcpdcepmgafaaByPlain
import Derived.Test.YtgjcpdcepmgafaaLayBase
import Derived.Test.YtgjcpdcepmgafaaOwnPut
import Derived.Test.YtgjcpdcepmgafaaAns
namespace Go.Proofs.Ytgjcpdcepmgafaa
open Go.RowKit

/-- A file: its number, its bytes, how many of them are sure. -/
abbrev Fi := Int × List Int × Int
/-- A file where it lies. -/
structure Fc where
  num : Int
  X : Option Addr
  c : Nat
  l : List Int
  s : Int
def Fc.fi (f : Fc) : Fi := (f.num, f.l, f.s)
def Fc.zero : Fc := ⟨0, none, 0, [], 0⟩
def Fc.blk (f : Fc) : Option Nat := f.X.map (·.block)
def Fc.sl (f : Fc) : Value := .slice f.X f.l.length f.c
def fCells : List Fc → List Value
  | [] => []
  | f :: r => .int .i64 f.num :: .slice f.X f.l.length f.c :: .int .i64 f.s :: fCells r
theorem fCells_length (L : List Fc) : (fCells L).length = L.length * 3 := by
  induction L with
  | nil => rfl
  | cons f r ih => simp [fCells, ih]; omega
theorem fCells_one (L : List Fc) : ∀ u ∈ fCells L, u.oneCell' = true := by
  induction L with
  | nil => intro u hu; cases hu
  | cons f r ih =>
    intro u hu
    simp [fCells] at hu
    rcases hu with rfl | rfl | rfl | hu
    · rfl
    · rfl
    · rfl
    · exact ih u hu
theorem fCells_append (L R : List Fc) : fCells (L ++ R) = fCells L ++ fCells R := by
  induction L with
  | nil => rfl
  | cons f r ih => simp [fCells, ih]
theorem fCells_get (L : List Fc) (x : Fc) : ∀ k, L[k]? = some x → (fCells L)[k * 3]? = some (.int .i64 x.num) ∧ (fCells L)[k * 3 + 1]? = some (.slice x.X x.l.length x.c) ∧ (fCells L)[k * 3 + 2]? = some (.int .i64 x.s) := by
  induction L with
  | nil => intro k hk; simp at hk
  | cons f r ih =>
    intro k hk
    cases k with
    | zero =>
      simp at hk
      subst hk
      simp [fCells]
    | succ k =>
      have := ih k (by simpa using hk)
      rw [show (k + 1) * 3 = k * 3 + 3 from by omega, show k * 3 + 3 + 1 = (k * 3 + 1) + 3 from by omega, show k * 3 + 3 + 2 = (k * 3 + 2) + 3 from by omega]
      simpa [fCells] using this
theorem fCells_nil {L : List Fc} : fCells L = [] ↔ L = [] := by cases L <;> simp [fCells]
theorem fCells_set (L : List Fc) (x : Fc) : ∀ i, i < L.length → (((fCells L).set (i * 3) (.int .i64 x.num)).set (i * 3 + 1) (.slice x.X x.l.length x.c)).set (i * 3 + 2) (.int .i64 x.s) = fCells (L.set i x) := by
  induction L with
  | nil => intro i hi; simp at hi
  | cons y r ih =>
    intro i hi
    cases i with
    | zero => rfl
    | succ m =>
      have e : fCells (y :: r) = [.int .i64 y.num, .slice y.X y.l.length y.c, .int .i64 y.s] ++ fCells r := rfl
      have e2 : fCells ((y :: r).set (m + 1) x) = [.int .i64 y.num, .slice y.X y.l.length y.c, .int .i64 y.s] ++ fCells (r.set m x) := rfl
      rw [e, e2, ← ih m (by simpa using hi), show (m + 1) * 3 = m * 3 + 3 from by omega]
      rfl
/-- One of a file's cells is written anew. -/
theorem fCells_set0 (x : Fc) (n : Int) : ∀ (L : List Fc) (i : Nat), L[i]? = some x → (fCells L).set (i * 3) (.int .i64 n) = fCells (L.set i { x with num := n })
  | [], i, h => by simp at h
  | y :: r, 0, h => by
    simp at h
    subst h
    rfl
  | y :: r, i + 1, h => by
    have ih := fCells_set0 x n r i (by simpa using h)
    have e : fCells (y :: r) = [.int .i64 y.num, .slice y.X y.l.length y.c, .int .i64 y.s] ++ fCells r := rfl
    have e2 : fCells ((y :: r).set (i + 1) { x with num := n }) = [.int .i64 y.num, .slice y.X y.l.length y.c, .int .i64 y.s] ++ fCells (r.set i { x with num := n }) := rfl
    rw [e, e2, ← ih, show (i + 1) * 3 = i * 3 + 3 from by omega]
    rfl
theorem fCells_set1 (x : Fc) (X : Option Addr) (c : Nat) (l : List Int) : ∀ (L : List Fc) (i : Nat), L[i]? = some x → (fCells L).set (i * 3 + 1) (.slice X l.length c) = fCells (L.set i { x with X := X, c := c, l := l })
  | [], i, h => by simp at h
  | y :: r, 0, h => by
    simp at h
    subst h
    rfl
  | y :: r, i + 1, h => by
    have ih := fCells_set1 x X c l r i (by simpa using h)
    have e : fCells (y :: r) = [.int .i64 y.num, .slice y.X y.l.length y.c, .int .i64 y.s] ++ fCells r := rfl
    have e2 : fCells ((y :: r).set (i + 1) { x with X := X, c := c, l := l }) = [.int .i64 y.num, .slice y.X y.l.length y.c, .int .i64 y.s] ++ fCells (r.set i { x with X := X, c := c, l := l }) := rfl
    rw [e, e2, ← ih, show (i + 1) * 3 + 1 = i * 3 + 1 + 3 from by omega]
    rfl
theorem fCells_set2 (x : Fc) (n : Int) : ∀ (L : List Fc) (i : Nat), L[i]? = some x → (fCells L).set (i * 3 + 2) (.int .i64 n) = fCells (L.set i { x with s := n })
  | [], i, h => by simp at h
  | y :: r, 0, h => by
    simp at h
    subst h
    rfl
  | y :: r, i + 1, h => by
    have ih := fCells_set2 x n r i (by simpa using h)
    have e : fCells (y :: r) = [.int .i64 y.num, .slice y.X y.l.length y.c, .int .i64 y.s] ++ fCells r := rfl
    have e2 : fCells ((y :: r).set (i + 1) { x with s := n }) = [.int .i64 y.num, .slice y.X y.l.length y.c, .int .i64 y.s] ++ fCells (r.set i { x with s := n }) := rfl
    rw [e, e2, ← ih, show (i + 1) * 3 + 2 = i * 3 + 2 + 3 from by omega]
    rfl
theorem fCells_take : ∀ (L : List Fc) (n : Nat), fCells (L.take n) = (fCells L).take (n * 3)
  | [], n => by simp [fCells]
  | f :: r, 0 => by simp [fCells]
  | f :: r, n + 1 => by
    rw [show (n + 1) * 3 = n * 3 + 1 + 1 + 1 from by omega]
    simp only [fCells, List.take_succ_cons]
    rw [fCells_take r n]
theorem fCells_drop : ∀ (L : List Fc) (n : Nat), fCells (L.drop n) = (fCells L).drop (n * 3)
  | [], n => by simp [fCells]
  | f :: r, 0 => by simp [fCells]
  | f :: r, n + 1 => by
    rw [show (n + 1) * 3 = n * 3 + 1 + 1 + 1 from by omega]
    simp only [fCells, List.drop_succ_cons]
    rw [fCells_drop r n]

/-- A list of files by value. -/
structure OneD (w : World) (A : Option Addr) (c : Nat) (L : List Fc) : Prop where
  le : L.length ≤ c
  cap : c ≤ maxLen
  noA : A = none → L.length = 0 ∧ c = 0
  lies : Lies w A (fCells L)
  each : ∀ f ∈ L, OneB w f.X f.c f.l
theorem OneD.later {w w' : World} {A : Option Addr} {c : Nat} {L : List Fc} (h : OneD w A c L) (hb : Below w.heap.size w w') : OneD w' A c L := ⟨h.le, h.cap, h.noA, h.lies.later hb, fun f hf => (h.each f hf).later hb⟩
theorem OneD.len {w : World} {A : Option Addr} {c : Nat} {L : List Fc} (h : OneD w A c L) : L.length ≤ 9223372036854775807 := by
  have h1 := h.le
  have h2 := h.cap
  unfold maxLen at h2
  omega
theorem OneD.nil (w : World) : OneD w none 0 [] := ⟨Nat.le_refl _, Nat.zero_le _, fun _ => ⟨rfl, rfl⟩, Lies.nil, fun _ h => by cases h⟩
/-- One of them: its cells. -/
theorem OneD.at {w : World} {A : Option Addr} {c : Nat} {L : List Fc} (h : OneD w A c L) (hne : L ≠ []) : ∃ b off, A = some ⟨b, off, none⟩ ∧ ∀ k x, L[k]? = some x → w.cell? ⟨b, off + k * 3, none⟩ = some (.int .i64 x.num) ∧ w.cell? ⟨b, off + k * 3 + 1, none⟩ = some (.slice x.X x.l.length x.c) ∧ w.cell? ⟨b, off + k * 3 + 2, none⟩ = some (.int .i64 x.s) := by
  obtain ⟨b, off, hA, hc⟩ := h.lies (fun e => hne (fCells_nil.1 e))
  refine ⟨b, off, hA, fun k x hx => ?_⟩
  obtain ⟨g0, g1, g2⟩ := fCells_get L x k hx
  exact ⟨hc _ _ g0, by rw [Nat.add_assoc]; exact hc _ _ g1, by rw [Nat.add_assoc]; exact hc _ _ g2⟩
theorem OneD.one {w : World} {A : Option Addr} {c : Nat} {L : List Fc} (h : OneD w A c L) {k : Nat} {x : Fc} (hx : L[k]? = some x) : OneB w x.X x.c x.l := h.each x (List.mem_of_getElem? hx)

/-- A file's bytes in memory of the call's own. -/
structure OwnB (w : World) (base : Nat) (e : TypeId) (f : Fc) : Prop where
  le : f.l.length ≤ f.c
  cap : f.c ≤ maxLen
  byte : ∀ x ∈ f.l, isB x
  noA : f.X = none → f.l.length = 0 ∧ f.c = 0
  at_ : ∀ a, f.X = some a → ∃ b cur, a = ⟨b, 0, none⟩ ∧ base ≤ b ∧ Blk w b e cur ∧ f.l.length ≤ cur.size ∧ cur.toList.take f.l.length = bCells f.l
section
variable {w w' : World} {base : Nat} {e : TypeId} {f : Fc}
theorem OwnB.of_own (h : w.ownsRow base e 1 (.slice f.X f.l.length f.c) f.l.length (bCells f.l)) (hb : ∀ x ∈ f.l, isB x) : OwnB w base e f := by
  obtain ⟨A, c, hv, h1, h2, h3, _⟩ := own_form h
  cases hv
  refine ⟨h1, h2, hb, h3, fun a ha => ?_⟩
  rcases h.2 with ⟨hv, _⟩ | ⟨g, cap, cur, hv, hg, hh, h4, h5, h6, h7⟩
  · injection hv with hv
    rw [ha] at hv
    cases hv
  · injection hv with hv h8 h9
    rw [ha] at hv
    injection hv with hv
    refine ⟨g, cur, hv, hg, hh, by omega, ?_⟩
    rw [Nat.mul_one] at h7
    exact h7
theorem OwnB.lt (h : OwnB w base e f) : ∀ k, f.blk = some k → base ≤ k ∧ k < w.heap.size := fun k hk => by
  unfold Fc.blk at hk
  cases hX : f.X with
  | none => rw [hX] at hk; cases hk
  | some a =>
    rw [hX] at hk
    obtain ⟨b, cur, rfl, h1, h2, _⟩ := h.at_ a hX
    injection hk with hk
    subst hk
    exact ⟨h1, h2.lt⟩
theorem OwnB.stays (h : OwnB w base e f) (hs : ∀ k, f.blk = some k → w'.heap[k]? = w.heap[k]?) : OwnB w' base e f :=
  ⟨h.le, h.cap, h.byte, h.noA, fun a ha => by
    obtain ⟨b, cur, rfl, h1, h2, h3⟩ := h.at_ a ha
    exact ⟨b, cur, rfl, h1, (hs b (by unfold Fc.blk; rw [ha]; rfl)).trans h2, h3⟩⟩
theorem OwnB.later (h : OwnB w base e f) (hb : Below w.heap.size w w') : OwnB w' base e f := h.stays fun k hk => hb.block k (h.lt k hk).2
theorem OwnB.lower {base' : Nat} (h : OwnB w base e f) (hb : base' ≤ base) : OwnB w base' e f :=
  ⟨h.le, h.cap, h.byte, h.noA, fun a ha => by
    obtain ⟨b, cur, h0, h1, h2⟩ := h.at_ a ha
    exact ⟨b, cur, h0, by omega, h2⟩⟩
theorem OwnB.lies (h : OwnB w base e f) : Lies w f.X (bCells f.l) := fun hne => by
  cases hX : f.X with
  | none =>
    have := (h.noA hX).1
    exact absurd (bCells_nil.2 (List.eq_nil_of_length_eq_zero this)) hne
  | some a =>
    obtain ⟨b, cur, rfl, h1, h2, h3, h4⟩ := h.at_ a hX
    refine ⟨b, 0, rfl, fun j u hu => ?_⟩
    rw [Nat.zero_add]
    refine h2.cell ?_
    rw [← h4, List.getElem?_take] at hu
    split at hu
    · simpa using hu
    · cases hu
theorem OwnB.one (h : OwnB w base e f) : OneB w f.X f.c f.l := ⟨h.le, h.cap, h.noA, h.lies, h.byte⟩
theorem OwnB.num (h : OwnB w base e f) (n s : Int) : OwnB w base e { f with num := n, s := s } := ⟨h.le, h.cap, h.byte, h.noA, h.at_⟩
/-- Its first bytes alone. -/
theorem OwnB.cut (h : OwnB w base e f) (n c' : Nat) (hn : n ≤ f.l.length) (h1 : n ≤ c') (h2 : c' ≤ f.c) : OwnB w base e { f with l := f.l.take n, c := c' } := by
  refine ⟨?_, Nat.le_trans h2 h.cap, fun x hx => h.byte x (List.mem_of_mem_take hx), fun hX => ?_, fun a ha => ?_⟩
  · show (f.l.take n).length ≤ c'
    rw [List.length_take]; omega
  · have := h.noA hX
    show (f.l.take n).length = 0 ∧ c' = 0
    rw [List.length_take]; omega
  · obtain ⟨b, cur, h3, h4, h5, h6, h7⟩ := h.at_ a ha
    refine ⟨b, cur, h3, h4, h5, ?_, ?_⟩
    · show (f.l.take n).length ≤ cur.size
      rw [List.length_take]; omega
    · show cur.toList.take (f.l.take n).length = bCells (f.l.take n)
      rw [List.length_take, Nat.min_eq_left hn]
      unfold bCells
      rw [List.map_take]
      have h8 : cur.toList.take f.l.length = f.l.map (Value.int .u8) := h7
      rw [← h8, List.take_take, Nat.min_eq_left hn]
/-- A byte of it is written anew. -/
theorem OwnB.put (h : OwnB w base e f) {b : Nat} {off : Nat} (hX : f.X = some ⟨b, off, none⟩) (i : Nat) (x : Int) (hx : isB x) : OwnB (w.setCell ⟨b, i, none⟩ (.int .u8 x)) base e { f with l := f.l.set i x } := by
  refine ⟨?_, h.cap, fun y hy => ?_, (fun hX' => by rw [hX] at hX'; cases hX'), fun a ha => ?_⟩
  · show (f.l.set i x).length ≤ f.c
    rw [List.length_set]; exact h.le
  · rcases List.mem_or_eq_of_mem_set hy with h1 | h1
    · exact h.byte y h1
    · rw [h1]; exact hx
  · obtain ⟨b', cur, h3, h4, h5, h6, h7⟩ := h.at_ a ha
    have hbb : b' = b := by
      rw [hX] at ha
      injection ha with ha
      subst ha
      injection h3 with h3
      exact h3.symm
    subst hbb
    refine ⟨b', cur.setIfInBounds i (.int .u8 x), h3, h4, h5.put i _, ?_, ?_⟩
    · show (f.l.set i x).length ≤ _
      rw [List.length_set, Array.size_setIfInBounds]; exact h6
    · show (cur.setIfInBounds i (.int .u8 x)).toList.take (f.l.set i x).length = bCells (f.l.set i x)
      rw [List.length_set, Array.toList_setIfInBounds, List.take_set, h7]
      unfold bCells
      rw [List.map_set]
end

/-- Files in memory of the call's own. -/
structure OwnD (w : World) (base : Nat) (t e : TypeId) (v : Value) (L : List Fc) : Prop where
  row : w.ownsRow base t 3 v L.length (fCells L)
  each : ∀ f ∈ L, OwnB w base e f
  apart : ∀ (i j : Nat) (x y : Fc) (b : Nat), i < j → L[i]? = some x → L[j]? = some y → x.blk = some b → y.blk ≠ some b
section
variable {w w' : World} {base : Nat} {t e : TypeId} {v : Value} {L : List Fc}
theorem OwnD.later (h : OwnD w base t e v L) (hb : Below w.heap.size w w') : OwnD w' base t e v L := ⟨own_later h.row hb, fun f hf => (h.each f hf).later hb, h.apart⟩
theorem OwnD.lower {base' : Nat} (h : OwnD w base t e v L) (hb : base' ≤ base) : OwnD w base' t e v L := ⟨own_base h.row hb, fun f hf => (h.each f hf).lower hb, h.apart⟩
theorem OwnD.one (h : OwnD w base t e v L) : ∃ A c, v = .slice A L.length c ∧ OneD w A c L := by
  obtain ⟨A, c, h1, h2, h3, h4, h5⟩ := own_form h.row
  exact ⟨A, c, h1, ⟨h2, h3, h4, h5, fun f hf => (h.each f hf).one⟩⟩
end

namespace Dk
/-- Files as they must be: numbers from 'least' on, rising, no more bytes together than 'left'. -/
def fmdF : Int → Int → List Fi → Bool
  | _, _, [] => true
  | least, left, f :: r => decide (least ≤ f.1 ∧ f.1 ≤ 1048576 ∧ 0 ≤ f.2.2 ∧ f.2.2 ≤ (f.2.1.length : Int) ∧ (f.2.1.length : Int) ≤ left) && fmdF (f.1 + 1) (left - f.2.1.length) r
def fmd (room : Int) (fs : List Fi) : Bool := decide (0 ≤ room ∧ room ≤ 16777216) && fmdF 0 room fs
def used : List Fi → Int
  | [] => 0
  | f :: r => (f.2.1.length : Int) + used r
theorem used_nonneg : ∀ fs, 0 ≤ used fs
  | [] => Int.le_refl _
  | f :: r => by have := used_nonneg r; show 0 ≤ (f.2.1.length : Int) + used r; omega
theorem used_append : ∀ a b, used (a ++ b) = used a + used b
  | [], b => by simp [used]
  | f :: r, b => by
    have := used_append r b
    show (f.2.1.length : Int) + used (r ++ b) = (f.2.1.length : Int) + used r + used b
    omega
/-- What is known of formed files. -/
theorem fmdF_facts : ∀ (fs : List Fi) (least left : Int), fmdF least left fs = true → (0 ≤ left → used fs ≤ left) ∧ (∀ f ∈ fs, least ≤ f.1 ∧ f.1 ≤ 1048576 ∧ 0 ≤ f.2.2 ∧ f.2.2 ≤ (f.2.1.length : Int)) ∧ fs.Pairwise (fun a b => a.1 < b.1) ∧ (least + (fs.length : Int) ≤ 1048577 ∨ fs = [])
  | [], least, left, _ => ⟨fun h => h, (fun _ h => by cases h), List.Pairwise.nil, .inr rfl⟩
  | f :: r, least, left, h => by
    unfold fmdF at h
    rw [Bool.and_eq_true, decide_eq_true_eq] at h
    obtain ⟨⟨h1, h2, h3, h4, h5⟩, h6⟩ := h
    obtain ⟨a1, a2, a3, a4⟩ := fmdF_facts r (f.1 + 1) (left - f.2.1.length) h6
    refine ⟨fun h0 => ?_, fun g hg => ?_, List.pairwise_cons.2 ⟨fun g hg => ?_, a3⟩, .inl ?_⟩
    · have := a1 (by omega)
      show (f.2.1.length : Int) + used r ≤ left
      omega
    · rcases List.mem_cons.1 hg with rfl | hg
      · exact ⟨h1, h2, h3, h4⟩
      · have := a2 g hg
        exact ⟨by omega, this.2⟩
    · have := a2 g hg
      omega
    · rw [List.length_cons]
      rcases a4 with h7 | rfl
      · push_cast; omega
      · simp; omega
structure Fmd (room : Int) (fs : List Fi) : Prop where
  r0 : 0 ≤ room
  r1 : room ≤ 16777216
  use : used fs ≤ room
  num : ∀ f ∈ fs, 0 ≤ f.1 ∧ f.1 ≤ 1048576 ∧ 0 ≤ f.2.2 ∧ f.2.2 ≤ (f.2.1.length : Int)
  up : fs.Pairwise (fun a b => a.1 < b.1)
  len : fs.length ≤ 1048577
theorem fmd_facts {room : Int} {fs : List Fi} (h : fmd room fs = true) : Fmd room fs := by
  unfold fmd at h
  rw [Bool.and_eq_true, decide_eq_true_eq] at h
  obtain ⟨⟨h1, h2⟩, h3⟩ := h
  obtain ⟨a1, a2, a3, a4⟩ := fmdF_facts fs 0 room h3
  exact ⟨h1, h2, a1 h1, a2, a3, by
    rcases a4 with h | h
    · omega
    · rw [h]; simp⟩
theorem used_mem {fs : List Fi} {f : Fi} (h : f ∈ fs) : (f.2.1.length : Int) ≤ used fs := by
  induction fs with
  | nil => cases h
  | cons g r ih =>
    have h0 := used_nonneg r
    rcases List.mem_cons.1 h with rfl | h
    · show (f.2.1.length : Int) ≤ (f.2.1.length : Int) + used r
      omega
    · have := ih h
      show (f.2.1.length : Int) ≤ (g.2.1.length : Int) + used r
      omega
/-- Formed, the other way. -/
theorem fmdF_mk : ∀ (fs : List Fi) (least left : Int), used fs ≤ left → (∀ f ∈ fs, least ≤ f.1 ∧ f.1 ≤ 1048576 ∧ 0 ≤ f.2.2 ∧ f.2.2 ≤ (f.2.1.length : Int)) → fs.Pairwise (fun a b => a.1 < b.1) → fmdF least left fs = true
  | [], _, _, _, _, _ => rfl
  | f :: r, least, left, h1, h2, h3 => by
    have hu := used_nonneg r
    have h1' : (f.2.1.length : Int) + used r ≤ left := h1
    obtain ⟨p1, p2⟩ := List.pairwise_cons.1 h3
    obtain ⟨q1, q2, q3, q4⟩ := h2 f (List.mem_cons_self ..)
    unfold fmdF
    rw [Bool.and_eq_true, decide_eq_true_eq]
    refine ⟨⟨q1, q2, q3, q4, by omega⟩, fmdF_mk r _ _ (by omega) (fun g hg => ?_) p2⟩
    have := h2 g (List.mem_cons_of_mem _ hg)
    have := p1 g hg
    exact ⟨by omega, by omega, by omega, by omega⟩
theorem fmd_mk {room : Int} {fs : List Fi} (h : Fmd room fs) : fmd room fs = true := by
  unfold fmd
  rw [Bool.and_eq_true, decide_eq_true_eq]
  exact ⟨⟨h.r0, h.r1⟩, fmdF_mk fs 0 room h.use h.num h.up⟩
end Dk
end Go.Proofs.Ytgjcpdcepmgafaa
