/-
  Plain mathematics of disks: files where they lie, as an argument and in memory of the call's own; a disk's rules. Nothing of the program is imported.
  What telltaleref05's Copy, Same and Bytes answer.
  What disk's within, Formed, Used answer, and telltaleref08's Formed, Used, place.
  What telltaleref08's Formed and place answer.
-/
import Derived.Test.YtkhggofcbdcliaaDoorG03
import Derived.Test.YtkhggofcbdcliaaDoorProg
import Derived.Tactics
import Derived.Tactics2
import Derived.WalkKit
import Derived.WalkSpells
import Derived.OwnWalk
import Derived.Deep.QuietTactic
import Derived.BigQuiet
import Derived.Deep.RegionHeld3
import Derived.KernelRfl
import Derived.Lib.Hide
import Derived.Laws.Rows
import Derived.Laws.Tables
import Derived.Laws.CopyOwn
import Derived.Laws.ResultCell
import Derived.Deep.DeepCutAuto
import Derived.RegionTactic
import Derived.BigRegion
import Derived.IntWalk
import Derived.WalkSmall
namespace Go.Proofs.YtkhggofcbdcliaaDoor
open Go.RowKit

/-- A file: its number, its bytes, how many of them are sure. -/
abbrev Fi := Int × List Int × Int
/-- A file where it lies. -/
structure Fc where
  num : Int
  X : Option Addr
  c : Nat
  l : List Int
  s : Int
def Fc.fi (f : Fc) : Fi := (f.num, f.l, f.s)
def Fc.zero : Fc := ⟨0, none, 0, [], 0⟩
def Fc.blk (f : Fc) : Option Nat := f.X.map (·.block)
def Fc.sl (f : Fc) : Value := .slice f.X f.l.length f.c
def fCells : List Fc → List Value
  | [] => []
  | f :: r => .int .i64 f.num :: .slice f.X f.l.length f.c :: .int .i64 f.s :: fCells r
theorem fCells_length (L : List Fc) : (fCells L).length = L.length * 3 := by
  induction L with
  | nil => rfl
  | cons f r ih => simp [fCells, ih]; omega
theorem fCells_one (L : List Fc) : ∀ u ∈ fCells L, u.oneCell' = true := by
  induction L with
  | nil => intro u hu; cases hu
  | cons f r ih =>
    intro u hu
    simp [fCells] at hu
    rcases hu with rfl | rfl | rfl | hu
    · rfl
    · rfl
    · rfl
    · exact ih u hu
theorem fCells_append (L R : List Fc) : fCells (L ++ R) = fCells L ++ fCells R := by
  induction L with
  | nil => rfl
  | cons f r ih => simp [fCells, ih]
theorem fCells_get (L : List Fc) (x : Fc) : ∀ k, L[k]? = some x → (fCells L)[k * 3]? = some (.int .i64 x.num) ∧ (fCells L)[k * 3 + 1]? = some (.slice x.X x.l.length x.c) ∧ (fCells L)[k * 3 + 2]? = some (.int .i64 x.s) := by
  induction L with
  | nil => intro k hk; simp at hk
  | cons f r ih =>
    intro k hk
    cases k with
    | zero =>
      simp at hk
      subst hk
      simp [fCells]
    | succ k =>
      have := ih k (by simpa using hk)
      rw [show (k + 1) * 3 = k * 3 + 3 from by omega, show k * 3 + 3 + 1 = (k * 3 + 1) + 3 from by omega, show k * 3 + 3 + 2 = (k * 3 + 2) + 3 from by omega]
      simpa [fCells] using this
theorem fCells_nil {L : List Fc} : fCells L = [] ↔ L = [] := by cases L <;> simp [fCells]
theorem fCells_set (L : List Fc) (x : Fc) : ∀ i, i < L.length → (((fCells L).set (i * 3) (.int .i64 x.num)).set (i * 3 + 1) (.slice x.X x.l.length x.c)).set (i * 3 + 2) (.int .i64 x.s) = fCells (L.set i x) := by
  induction L with
  | nil => intro i hi; simp at hi
  | cons y r ih =>
    intro i hi
    cases i with
    | zero => rfl
    | succ m =>
      have e : fCells (y :: r) = [.int .i64 y.num, .slice y.X y.l.length y.c, .int .i64 y.s] ++ fCells r := rfl
      have e2 : fCells ((y :: r).set (m + 1) x) = [.int .i64 y.num, .slice y.X y.l.length y.c, .int .i64 y.s] ++ fCells (r.set m x) := rfl
      rw [e, e2, ← ih m (by simpa using hi), show (m + 1) * 3 = m * 3 + 3 from by omega]
      rfl
/-- One of a file's cells is written anew. -/
theorem fCells_set0 (x : Fc) (n : Int) : ∀ (L : List Fc) (i : Nat), L[i]? = some x → (fCells L).set (i * 3) (.int .i64 n) = fCells (L.set i { x with num := n })
  | [], i, h => by simp at h
  | y :: r, 0, h => by
    simp at h
    subst h
    rfl
  | y :: r, i + 1, h => by
    have ih := fCells_set0 x n r i (by simpa using h)
    have e : fCells (y :: r) = [.int .i64 y.num, .slice y.X y.l.length y.c, .int .i64 y.s] ++ fCells r := rfl
    have e2 : fCells ((y :: r).set (i + 1) { x with num := n }) = [.int .i64 y.num, .slice y.X y.l.length y.c, .int .i64 y.s] ++ fCells (r.set i { x with num := n }) := rfl
    rw [e, e2, ← ih, show (i + 1) * 3 = i * 3 + 3 from by omega]
    rfl
theorem fCells_set1 (x : Fc) (X : Option Addr) (c : Nat) (l : List Int) : ∀ (L : List Fc) (i : Nat), L[i]? = some x → (fCells L).set (i * 3 + 1) (.slice X l.length c) = fCells (L.set i { x with X := X, c := c, l := l })
  | [], i, h => by simp at h
  | y :: r, 0, h => by
    simp at h
    subst h
    rfl
  | y :: r, i + 1, h => by
    have ih := fCells_set1 x X c l r i (by simpa using h)
    have e : fCells (y :: r) = [.int .i64 y.num, .slice y.X y.l.length y.c, .int .i64 y.s] ++ fCells r := rfl
    have e2 : fCells ((y :: r).set (i + 1) { x with X := X, c := c, l := l }) = [.int .i64 y.num, .slice y.X y.l.length y.c, .int .i64 y.s] ++ fCells (r.set i { x with X := X, c := c, l := l }) := rfl
    rw [e, e2, ← ih, show (i + 1) * 3 + 1 = i * 3 + 1 + 3 from by omega]
    rfl
theorem fCells_set2 (x : Fc) (n : Int) : ∀ (L : List Fc) (i : Nat), L[i]? = some x → (fCells L).set (i * 3 + 2) (.int .i64 n) = fCells (L.set i { x with s := n })
  | [], i, h => by simp at h
  | y :: r, 0, h => by
    simp at h
    subst h
    rfl
  | y :: r, i + 1, h => by
    have ih := fCells_set2 x n r i (by simpa using h)
    have e : fCells (y :: r) = [.int .i64 y.num, .slice y.X y.l.length y.c, .int .i64 y.s] ++ fCells r := rfl
    have e2 : fCells ((y :: r).set (i + 1) { x with s := n }) = [.int .i64 y.num, .slice y.X y.l.length y.c, .int .i64 y.s] ++ fCells (r.set i { x with s := n }) := rfl
    rw [e, e2, ← ih, show (i + 1) * 3 + 2 = i * 3 + 2 + 3 from by omega]
    rfl
theorem fCells_take : ∀ (L : List Fc) (n : Nat), fCells (L.take n) = (fCells L).take (n * 3)
  | [], n => by simp [fCells]
  | f :: r, 0 => by simp [fCells]
  | f :: r, n + 1 => by
    rw [show (n + 1) * 3 = n * 3 + 1 + 1 + 1 from by omega]
    simp only [fCells, List.take_succ_cons]
    rw [fCells_take r n]
theorem fCells_drop : ∀ (L : List Fc) (n : Nat), fCells (L.drop n) = (fCells L).drop (n * 3)
  | [], n => by simp [fCells]
  | f :: r, 0 => by simp [fCells]
  | f :: r, n + 1 => by
    rw [show (n + 1) * 3 = n * 3 + 1 + 1 + 1 from by omega]
    simp only [fCells, List.drop_succ_cons]
    rw [fCells_drop r n]

/-- A list of files by value. -/
structure OneD (w : World) (A : Option Addr) (c : Nat) (L : List Fc) : Prop where
  le : L.length ≤ c
  cap : c ≤ maxLen
  noA : A = none → L.length = 0 ∧ c = 0
  lies : Lies w A (fCells L)
  each : ∀ f ∈ L, OneB w f.X f.c f.l
theorem OneD.later {w w' : World} {A : Option Addr} {c : Nat} {L : List Fc} (h : OneD w A c L) (hb : Below w.heap.size w w') : OneD w' A c L := ⟨h.le, h.cap, h.noA, h.lies.later hb, fun f hf => (h.each f hf).later hb⟩
theorem OneD.len {w : World} {A : Option Addr} {c : Nat} {L : List Fc} (h : OneD w A c L) : L.length ≤ 9223372036854775807 := by
  have h1 := h.le
  have h2 := h.cap
  unfold maxLen at h2
  omega
theorem OneD.nil (w : World) : OneD w none 0 [] := ⟨Nat.le_refl _, Nat.zero_le _, fun _ => ⟨rfl, rfl⟩, Lies.nil, fun _ h => by cases h⟩
/-- One of them: its cells. -/
theorem OneD.at {w : World} {A : Option Addr} {c : Nat} {L : List Fc} (h : OneD w A c L) (hne : L ≠ []) : ∃ b off, A = some ⟨b, off, none⟩ ∧ ∀ k x, L[k]? = some x → w.cell? ⟨b, off + k * 3, none⟩ = some (.int .i64 x.num) ∧ w.cell? ⟨b, off + k * 3 + 1, none⟩ = some (.slice x.X x.l.length x.c) ∧ w.cell? ⟨b, off + k * 3 + 2, none⟩ = some (.int .i64 x.s) := by
  obtain ⟨b, off, hA, hc⟩ := h.lies (fun e => hne (fCells_nil.1 e))
  refine ⟨b, off, hA, fun k x hx => ?_⟩
  obtain ⟨g0, g1, g2⟩ := fCells_get L x k hx
  exact ⟨hc _ _ g0, by rw [Nat.add_assoc]; exact hc _ _ g1, by rw [Nat.add_assoc]; exact hc _ _ g2⟩
theorem OneD.one {w : World} {A : Option Addr} {c : Nat} {L : List Fc} (h : OneD w A c L) {k : Nat} {x : Fc} (hx : L[k]? = some x) : OneB w x.X x.c x.l := h.each x (List.mem_of_getElem? hx)

/-- A file's bytes in memory of the call's own. -/
structure OwnB (w : World) (base : Nat) (e : TypeId) (f : Fc) : Prop where
  le : f.l.length ≤ f.c
  cap : f.c ≤ maxLen
  byte : ∀ x ∈ f.l, isB x
  noA : f.X = none → f.l.length = 0 ∧ f.c = 0
  at_ : ∀ a, f.X = some a → ∃ b cur, a = ⟨b, 0, none⟩ ∧ base ≤ b ∧ Blk w b e cur ∧ f.l.length ≤ cur.size ∧ cur.toList.take f.l.length = bCells f.l
section
variable {w w' : World} {base : Nat} {e : TypeId} {f : Fc}
theorem OwnB.of_own (h : w.ownsRow base e 1 (.slice f.X f.l.length f.c) f.l.length (bCells f.l)) (hb : ∀ x ∈ f.l, isB x) : OwnB w base e f := by
  obtain ⟨A, c, hv, h1, h2, h3, _⟩ := own_form h
  cases hv
  refine ⟨h1, h2, hb, h3, fun a ha => ?_⟩
  rcases h.2 with ⟨hv, _⟩ | ⟨g, cap, cur, hv, hg, hh, h4, h5, h6, h7⟩
  · injection hv with hv
    rw [ha] at hv
    cases hv
  · injection hv with hv h8 h9
    rw [ha] at hv
    injection hv with hv
    refine ⟨g, cur, hv, hg, hh, by omega, ?_⟩
    rw [Nat.mul_one] at h7
    exact h7
theorem OwnB.lt (h : OwnB w base e f) : ∀ k, f.blk = some k → base ≤ k ∧ k < w.heap.size := fun k hk => by
  unfold Fc.blk at hk
  cases hX : f.X with
  | none => rw [hX] at hk; cases hk
  | some a =>
    rw [hX] at hk
    obtain ⟨b, cur, rfl, h1, h2, _⟩ := h.at_ a hX
    injection hk with hk
    subst hk
    exact ⟨h1, h2.lt⟩
theorem OwnB.stays (h : OwnB w base e f) (hs : ∀ k, f.blk = some k → w'.heap[k]? = w.heap[k]?) : OwnB w' base e f :=
  ⟨h.le, h.cap, h.byte, h.noA, fun a ha => by
    obtain ⟨b, cur, rfl, h1, h2, h3⟩ := h.at_ a ha
    exact ⟨b, cur, rfl, h1, (hs b (by unfold Fc.blk; rw [ha]; rfl)).trans h2, h3⟩⟩
theorem OwnB.later (h : OwnB w base e f) (hb : Below w.heap.size w w') : OwnB w' base e f := h.stays fun k hk => hb.block k (h.lt k hk).2
theorem OwnB.lower {base' : Nat} (h : OwnB w base e f) (hb : base' ≤ base) : OwnB w base' e f :=
  ⟨h.le, h.cap, h.byte, h.noA, fun a ha => by
    obtain ⟨b, cur, h0, h1, h2⟩ := h.at_ a ha
    exact ⟨b, cur, h0, by omega, h2⟩⟩
theorem OwnB.lies (h : OwnB w base e f) : Lies w f.X (bCells f.l) := fun hne => by
  cases hX : f.X with
  | none =>
    have := (h.noA hX).1
    exact absurd (bCells_nil.2 (List.eq_nil_of_length_eq_zero this)) hne
  | some a =>
    obtain ⟨b, cur, rfl, h1, h2, h3, h4⟩ := h.at_ a hX
    refine ⟨b, 0, rfl, fun j u hu => ?_⟩
    rw [Nat.zero_add]
    refine h2.cell ?_
    rw [← h4, List.getElem?_take] at hu
    split at hu
    · simpa using hu
    · cases hu
theorem OwnB.one (h : OwnB w base e f) : OneB w f.X f.c f.l := ⟨h.le, h.cap, h.noA, h.lies, h.byte⟩
theorem OwnB.num (h : OwnB w base e f) (n s : Int) : OwnB w base e { f with num := n, s := s } := ⟨h.le, h.cap, h.byte, h.noA, h.at_⟩
/-- Its first bytes alone. -/
theorem OwnB.cut (h : OwnB w base e f) (n c' : Nat) (hn : n ≤ f.l.length) (h1 : n ≤ c') (h2 : c' ≤ f.c) : OwnB w base e { f with l := f.l.take n, c := c' } := by
  refine ⟨?_, Nat.le_trans h2 h.cap, fun x hx => h.byte x (List.mem_of_mem_take hx), fun hX => ?_, fun a ha => ?_⟩
  · show (f.l.take n).length ≤ c'
    rw [List.length_take]; omega
  · have := h.noA hX
    show (f.l.take n).length = 0 ∧ c' = 0
    rw [List.length_take]; omega
  · obtain ⟨b, cur, h3, h4, h5, h6, h7⟩ := h.at_ a ha
    refine ⟨b, cur, h3, h4, h5, ?_, ?_⟩
    · show (f.l.take n).length ≤ cur.size
      rw [List.length_take]; omega
    · show cur.toList.take (f.l.take n).length = bCells (f.l.take n)
      rw [List.length_take, Nat.min_eq_left hn]
      unfold bCells
      rw [List.map_take]
      have h8 : cur.toList.take f.l.length = f.l.map (Value.int .u8) := h7
      rw [← h8, List.take_take, Nat.min_eq_left hn]
/-- A byte of it is written anew. -/
theorem OwnB.put (h : OwnB w base e f) {b : Nat} {off : Nat} (hX : f.X = some ⟨b, off, none⟩) (i : Nat) (x : Int) (hx : isB x) : OwnB (w.setCell ⟨b, i, none⟩ (.int .u8 x)) base e { f with l := f.l.set i x } := by
  refine ⟨?_, h.cap, fun y hy => ?_, (fun hX' => by rw [hX] at hX'; cases hX'), fun a ha => ?_⟩
  · show (f.l.set i x).length ≤ f.c
    rw [List.length_set]; exact h.le
  · rcases List.mem_or_eq_of_mem_set hy with h1 | h1
    · exact h.byte y h1
    · rw [h1]; exact hx
  · obtain ⟨b', cur, h3, h4, h5, h6, h7⟩ := h.at_ a ha
    have hbb : b' = b := by
      rw [hX] at ha
      injection ha with ha
      subst ha
      injection h3 with h3
      exact h3.symm
    subst hbb
    refine ⟨b', cur.setIfInBounds i (.int .u8 x), h3, h4, h5.put i _, ?_, ?_⟩
    · show (f.l.set i x).length ≤ _
      rw [List.length_set, Array.size_setIfInBounds]; exact h6
    · show (cur.setIfInBounds i (.int .u8 x)).toList.take (f.l.set i x).length = bCells (f.l.set i x)
      rw [List.length_set, Array.toList_setIfInBounds, List.take_set, h7]
      unfold bCells
      rw [List.map_set]
end

/-- Files in memory of the call's own. -/
structure OwnD (w : World) (base : Nat) (t e : TypeId) (v : Value) (L : List Fc) : Prop where
  row : w.ownsRow base t 3 v L.length (fCells L)
  each : ∀ f ∈ L, OwnB w base e f
  apart : ∀ (i j : Nat) (x y : Fc) (b : Nat), i < j → L[i]? = some x → L[j]? = some y → x.blk = some b → y.blk ≠ some b
section
variable {w w' : World} {base : Nat} {t e : TypeId} {v : Value} {L : List Fc}
theorem OwnD.later (h : OwnD w base t e v L) (hb : Below w.heap.size w w') : OwnD w' base t e v L := ⟨own_later h.row hb, fun f hf => (h.each f hf).later hb, h.apart⟩
theorem OwnD.lower {base' : Nat} (h : OwnD w base t e v L) (hb : base' ≤ base) : OwnD w base' t e v L := ⟨own_base h.row hb, fun f hf => (h.each f hf).lower hb, h.apart⟩
theorem OwnD.one (h : OwnD w base t e v L) : ∃ A c, v = .slice A L.length c ∧ OneD w A c L := by
  obtain ⟨A, c, h1, h2, h3, h4, h5⟩ := own_form h.row
  exact ⟨A, c, h1, ⟨h2, h3, h4, h5, fun f hf => (h.each f hf).one⟩⟩
end

namespace Dk
/-- Files as they must be: numbers from 'least' on, rising, no more bytes together than 'left'. -/
def fmdF : Int → Int → List Fi → Bool
  | _, _, [] => true
  | least, left, f :: r => decide (least ≤ f.1 ∧ f.1 ≤ 1048576 ∧ 0 ≤ f.2.2 ∧ f.2.2 ≤ (f.2.1.length : Int) ∧ (f.2.1.length : Int) ≤ left) && fmdF (f.1 + 1) (left - f.2.1.length) r
def fmd (room : Int) (fs : List Fi) : Bool := decide (0 ≤ room ∧ room ≤ 16777216) && fmdF 0 room fs
def used : List Fi → Int
  | [] => 0
  | f :: r => (f.2.1.length : Int) + used r
theorem used_nonneg : ∀ fs, 0 ≤ used fs
  | [] => Int.le_refl _
  | f :: r => by have := used_nonneg r; show 0 ≤ (f.2.1.length : Int) + used r; omega
theorem used_append : ∀ a b, used (a ++ b) = used a + used b
  | [], b => by simp [used]
  | f :: r, b => by
    have := used_append r b
    show (f.2.1.length : Int) + used (r ++ b) = (f.2.1.length : Int) + used r + used b
    omega
/-- What is known of formed files. -/
theorem fmdF_facts : ∀ (fs : List Fi) (least left : Int), fmdF least left fs = true → (0 ≤ left → used fs ≤ left) ∧ (∀ f ∈ fs, least ≤ f.1 ∧ f.1 ≤ 1048576 ∧ 0 ≤ f.2.2 ∧ f.2.2 ≤ (f.2.1.length : Int)) ∧ fs.Pairwise (fun a b => a.1 < b.1) ∧ (least + (fs.length : Int) ≤ 1048577 ∨ fs = [])
  | [], least, left, _ => ⟨fun h => h, (fun _ h => by cases h), List.Pairwise.nil, .inr rfl⟩
  | f :: r, least, left, h => by
    unfold fmdF at h
    rw [Bool.and_eq_true, decide_eq_true_eq] at h
    obtain ⟨⟨h1, h2, h3, h4, h5⟩, h6⟩ := h
    obtain ⟨a1, a2, a3, a4⟩ := fmdF_facts r (f.1 + 1) (left - f.2.1.length) h6
    refine ⟨fun h0 => ?_, fun g hg => ?_, List.pairwise_cons.2 ⟨fun g hg => ?_, a3⟩, .inl ?_⟩
    · have := a1 (by omega)
      show (f.2.1.length : Int) + used r ≤ left
      omega
    · rcases List.mem_cons.1 hg with rfl | hg
      · exact ⟨h1, h2, h3, h4⟩
      · have := a2 g hg
        exact ⟨by omega, this.2⟩
    · have := a2 g hg
      omega
    · rw [List.length_cons]
      rcases a4 with h7 | rfl
      · push_cast; omega
      · simp; omega
structure Fmd (room : Int) (fs : List Fi) : Prop where
  r0 : 0 ≤ room
  r1 : room ≤ 16777216
  use : used fs ≤ room
  num : ∀ f ∈ fs, 0 ≤ f.1 ∧ f.1 ≤ 1048576 ∧ 0 ≤ f.2.2 ∧ f.2.2 ≤ (f.2.1.length : Int)
  up : fs.Pairwise (fun a b => a.1 < b.1)
  len : fs.length ≤ 1048577
theorem fmd_facts {room : Int} {fs : List Fi} (h : fmd room fs = true) : Fmd room fs := by
  unfold fmd at h
  rw [Bool.and_eq_true, decide_eq_true_eq] at h
  obtain ⟨⟨h1, h2⟩, h3⟩ := h
  obtain ⟨a1, a2, a3, a4⟩ := fmdF_facts fs 0 room h3
  exact ⟨h1, h2, a1 h1, a2, a3, by
    rcases a4 with h | h
    · omega
    · rw [h]; simp⟩
theorem used_mem {fs : List Fi} {f : Fi} (h : f ∈ fs) : (f.2.1.length : Int) ≤ used fs := by
  induction fs with
  | nil => cases h
  | cons g r ih =>
    have h0 := used_nonneg r
    rcases List.mem_cons.1 h with rfl | h
    · show (f.2.1.length : Int) ≤ (f.2.1.length : Int) + used r
      omega
    · have := ih h
      show (f.2.1.length : Int) ≤ (g.2.1.length : Int) + used r
      omega
/-- Formed, the other way. -/
theorem fmdF_mk : ∀ (fs : List Fi) (least left : Int), used fs ≤ left → (∀ f ∈ fs, least ≤ f.1 ∧ f.1 ≤ 1048576 ∧ 0 ≤ f.2.2 ∧ f.2.2 ≤ (f.2.1.length : Int)) → fs.Pairwise (fun a b => a.1 < b.1) → fmdF least left fs = true
  | [], _, _, _, _, _ => rfl
  | f :: r, least, left, h1, h2, h3 => by
    have hu := used_nonneg r
    have h1' : (f.2.1.length : Int) + used r ≤ left := h1
    obtain ⟨p1, p2⟩ := List.pairwise_cons.1 h3
    obtain ⟨q1, q2, q3, q4⟩ := h2 f (List.mem_cons_self ..)
    unfold fmdF
    rw [Bool.and_eq_true, decide_eq_true_eq]
    refine ⟨⟨q1, q2, q3, q4, by omega⟩, fmdF_mk r _ _ (by omega) (fun g hg => ?_) p2⟩
    have := h2 g (List.mem_cons_of_mem _ hg)
    have := p1 g hg
    exact ⟨by omega, by omega, by omega, by omega⟩
theorem fmd_mk {room : Int} {fs : List Fi} (h : Fmd room fs) : fmd room fs = true := by
  unfold fmd
  rw [Bool.and_eq_true, decide_eq_true_eq]
  exact ⟨⟨h.r0, h.r1⟩, fmdF_mk fs 0 room h.use h.num h.up⟩
end Dk
end Go.Proofs.YtkhggofcbdcliaaDoor
namespace Go.Proofs.YtkhggofcbdcliaaDoor
open Go.RowKit

theorem infoBy : (Tryd.prog.info? 5).map (fun i => (i.zero, i.size, i.bytes)) = some (some (.int .u8 0), 1, 1) := by kernel_rfl

/-- A list of bytes is answered, in memory of the call's own; what was there before is as it was. -/
def GivesB (l : List Int) (w : World) (e : Ending) (w' : World) : Prop :=
  ∃ v, e = .returned v ∧ w'.ownsRow w.heap.size 5 1 v l.length (bCells l) ∧ Below w.heap.size w w'

set_option maxHeartbeats 800000 in
theorem bcopy_any (A : Option Addr) (c1 : Nat) (l : List Int) (w : World) (hl : l.length ≤ 140737488355328) (h1 : OneB w A c1 l) :
    Calls Tryd.prog 26 #[.slice A l.length c1] w (GivesB l w) := by
  obtain ⟨i0, hi, hz0, hz1, hz2⟩ := info_parts infoBy
  have hown : (w.alloc (.cells #[] 5)).ownsRow w.heap.size 5 1 (.slice (some ⟨w.heap.size, 0, none⟩) 0 0) 0 [] :=
    ⟨rfl, .inr ⟨w.heap.size, 0, #[], rfl, Nat.le_refl _, heap_alloc_new w _, Nat.le_refl _, Nat.zero_le _, rfl, rfl⟩⟩
  have HA := Lib.hid h1.noA
  go_enter Tryd.func26, Tryd.ntmps26
  go_wp2_with (at_builtin; refine wpList_append_lies _ rfl _ _ 25 rfl w.heap.size 5 i0 (.int .u8 0) 1 1 Tryd.underlying25 hi hz0 hz1 hz2 rfl (by decide) _ 0 [] rfl hown A l.length c1 HA.out (bCells l) rfl (by rw [bCells_length, Nat.mul_one]) (h1.lies.alloc _) (bCells_one l) ?c3 ?c4 ?c5 ?_)
  case c3 => unfold maxLen; omega
  case c4 => omega
  case c5 => simp
  intro v' w1 hown1 hg1 _
  have hbw : Below w.heap.size w w1 := (below_new (Below.refl _ _) (.cells #[] 5)).grown hg1 (by simp) (by intro k hk; simp [Value.ownBlock] at hk; omega)
  try simp only [Nat.zero_add, List.nil_append] at hown1
  have HO := Lib.hid hown1
  clear hown hown1 hg1
  go_wp2
  go_ret
  exact ⟨_, rfl, HO.out, hbw⟩

set_option maxHeartbeats 800000 in
theorem bsame_any (A B : Option Addr) (c1 c2 : Nat) (l r : List Int) (w : World) (h1 : OneB w A c1 l) (h2 : OneB w B c2 r) :
    Calls Tryd.prog 25 #[.slice A l.length c1, .slice B r.length c2] w fun e w' => e = .returned (.bool (decide (l = r))) ∧ Below w.heap.size w w' := by
  have k1 := h1.text (P := Tryd.prog) Tryd.underlying25 Tryd.underlying5 Tryd.underlying9
  have k2 := h2.text (P := Tryd.prog) Tryd.underlying25 Tryd.underlying5 Tryd.underlying9
  have ke := str_eq h1.byte h2.byte
  obtain ⟨q, hq⟩ : ∃ q, decide (l = r) = q := ⟨_, rfl⟩
  rw [hq] at ke ⊢
  obtain ⟨s, hs⟩ : ∃ s, strOfNums l = s := ⟨_, rfl⟩
  obtain ⟨t, ht⟩ : ∃ t, strOfNums r = t := ⟨_, rfl⟩
  rw [hs] at k1 ke
  rw [ht] at k2 ke
  clear h1 h2 hq hs ht
  go_enter Tryd.func25, Tryd.ntmps25
  go_wp2
  go_ret
  exact ⟨by first | rfl | (rw [← ke]; rfl), Below.refl _ _⟩

namespace Pk
theorem val_nat : ∀ l : List Int, (∀ x ∈ l, isB x) → ∃ v : Nat, val l = (v : Int) ∧ v < 128 ^ l.length
  | [], _ => ⟨0, rfl, by simp⟩
  | b :: r, h => by
    obtain ⟨v, h1, h2⟩ := val_nat r (fun x hx => h x (List.mem_cons_of_mem _ hx))
    refine ⟨v * 128 + (b % 128).toNat, ?_, ?_⟩
    · show val r * 128 + b % 128 = _
      rw [h1]
      have : 0 ≤ b % 128 := Int.emod_nonneg _ (by omega)
      omega
    · rw [List.length_cons, Nat.pow_succ]
      have h3 : b % 128 < 128 := Int.emod_lt_of_pos _ (by omega)
      have h4 : 0 ≤ b % 128 := Int.emod_nonneg _ (by omega)
      omega
/-- The bytes up to place i, from place j on: the one at place j is put ahead. -/
theorem val_step (l : List Int) (i j : Nat) (hi : i < l.length) (hj : j < i + 1) : val ((l.take (i + 1)).drop j) = val ((l.take (i + 1)).drop (j + 1)) * 128 + l.getD j 0 % 128 := by
  have hlen : j < (l.take (i + 1)).length := by rw [List.length_take]; omega
  rw [List.drop_eq_getElem_cons hlen]
  show val ((l.take (i + 1)).drop (j + 1)) * 128 + (l.take (i + 1))[j] % 128 = _
  rw [List.getElem_take, List.getD_eq_getElem?_getD, List.getElem?_eq_getElem (by omega)]
  rfl
theorem val_bd (l : List Int) (i j : Nat) (h : ∀ x ∈ l, isB x) (hi : i ≤ 8) (hj : 1 ≤ j) : 0 ≤ val ((l.take (i + 1)).drop j) ∧ val ((l.take (i + 1)).drop j) < 72057594037927936 := by
  obtain ⟨v, h1, h2⟩ := val_nat ((l.take (i + 1)).drop j) (fun x hx => h x (List.mem_of_mem_take (List.mem_of_mem_drop hx)))
  have h3 : ((l.take (i + 1)).drop j).length ≤ 8 := by rw [List.length_drop, List.length_take]; omega
  have h4 : 128 ^ ((l.take (i + 1)).drop j).length ≤ 128 ^ 8 := Nat.pow_le_pow_right (by omega) h3
  have h5 : (128 : Nat) ^ 8 = 72057594037927936 := by decide
  rw [h1]
  omega
theorem num_nine {l : List Int} (h : lead 9 l = 9) : num l = (0, 0, 4) := by unfold num; rw [if_pos h]
theorem num_short {l : List Int} (h : lead 9 l = l.length) (h9 : l.length < 9) : num l = (0, 0, 5) := by unfold num; rw [if_neg (by omega), if_pos h]
theorem num_zero {l : List Int} (h9 : lead 9 l < 9) (hl : lead 9 l < l.length) (h0 : l.getD (lead 9 l) 0 = 0) (hp : 0 < lead 9 l) : num l = (0, 0, 4) := by unfold num; rw [if_neg (by omega), if_neg (by omega), if_pos ⟨h0, hp⟩]
theorem num_yes {l : List Int} (h9 : lead 9 l < 9) (hl : lead 9 l < l.length) (h : ¬ (l.getD (lead 9 l) 0 = 0 ∧ 0 < lead 9 l)) : num l = (val (l.take (lead 9 l + 1)), (lead 9 l : Int) + 1, 0) := by unfold num; rw [if_neg (by omega), if_neg (by omega), if_neg h]
def numV (r : Int × Int × Int) : Value := .tuple #[.int .i64 r.1, .int .i64 r.2.1, .int .i64 r.2.2]
end Pk

end Go.Proofs.YtkhggofcbdcliaaDoor
namespace Go.Proofs.YtkhggofcbdcliaaDoor
open Go.RowKit

namespace Dk
/-- Is n from 0 to m? -/
def win (n m : Int) : Bool := decide (0 ≤ n ∧ n ≤ m)
theorem win_yes {n m : Int} (h : win n m = true) : 0 ≤ n ∧ n ≤ m := of_decide_eq_true h
theorem win_no {n m : Int} (h : win n m = false) : ¬ (0 ≤ n ∧ n ≤ m) := of_decide_eq_false h
end Dk
/-- A disk by value. -/
def dkV (room : Int) (A : Option Addr) (n c : Nat) : Value := .agg #[.int .i64 room, .slice A n c]

set_option maxHeartbeats 400000 in
theorem within_any (n m : Int) (w : World) : Calls Tryd.prog 41 #[.int .i64 n, .int .i64 m] w fun e w' => e = .returned (.bool (Dk.win n m)) ∧ w' = w := by
  obtain ⟨q, hq⟩ : ∃ q, Dk.win n m = q := ⟨_, rfl⟩
  rw [hq]
  by_cases h0 : 0 ≤ n
  · by_cases h1 : n ≤ m
    · have : q = true := by rw [← hq]; exact decide_eq_true ⟨h0, h1⟩
      subst this
      have d0 : decide (0 ≤ n) = true := decide_eq_true h0
      have d1 : decide (n ≤ m) = true := decide_eq_true h1
      clear hq
      go_enter Tryd.func41, Tryd.ntmps41
      go_wp2
      go_ret
      exact ⟨rfl, rfl⟩
    · have : q = false := by rw [← hq]; exact decide_eq_false (fun h => h1 h.2)
      subst this
      have d0 : decide (0 ≤ n) = true := decide_eq_true h0
      have d1 : decide (n ≤ m) = false := decide_eq_false h1
      clear hq
      go_enter Tryd.func41, Tryd.ntmps41
      go_wp2
      go_ret
      exact ⟨rfl, rfl⟩
  · have : q = false := by rw [← hq]; exact decide_eq_false (fun h => h0 h.1)
    subst this
    have d0 : decide (0 ≤ n) = false := decide_eq_false h0
    clear hq
    go_enter Tryd.func41, Tryd.ntmps41
    go_wp2
    go_ret
    exact ⟨rfl, rfl⟩

theorem drop_at {α β : Type} (L : List α) (f : α → β) (k : Nat) (x : α) (h : L[k]? = some x) : (L.map f).drop k = f x :: (L.map f).drop (k + 1) := by
  obtain ⟨hk, hx⟩ := List.getElem?_eq_some_iff.1 h
  rw [List.drop_eq_getElem_cons (by rw [List.length_map]; exact hk), List.getElem_map, hx]

set_option maxRecDepth 100000 in
set_option maxHeartbeats 1600000 in
theorem dformed_any (room : Int) (A : Option Addr) (c : Nat) (L : List Fc) (w : World) (h : OneD w A c L) :
    Calls Tryd.prog 24 #[.agg #[.int .i64 room, .slice A L.length c]] w (Says (.bool (Dk.fmd room (L.map Fc.fi))) w) := by
  have hlen := h.len
  have HD := Lib.hid h
  clear h
  by_cases hr : Dk.win room 16777216 = true
  · obtain ⟨r0, r1⟩ := Dk.win_yes hr
    have hf : Dk.fmd room (L.map Fc.fi) = Dk.fmdF 0 room (L.map Fc.fi) := by
      unfold Dk.fmd
      rw [decide_eq_true (⟨r0, r1⟩ : 0 ≤ room ∧ room ≤ 16777216), Bool.true_and]
    rw [hf]
    obtain ⟨q, hq⟩ : ∃ q, Dk.fmdF 0 room (L.map Fc.fi) = q := ⟨_, rfl⟩
    rw [hq]
    have HQ := Lib.hid hq
    have W := Lib.hid (within_any room 16777216 (w.alloc (.cells #[.int .i64 room, .slice A L.length c] 24)))
    rw [hr] at W
    clear hf hq hr
    go_enter Tryd.func24, Tryd.ntmps24
    go_wp2_with fail
    refine W.out.mono ?_
    rintro e w' ⟨rfl, rfl⟩
    go_wp2_with fail
    go_loopw [3, 4, 16] (fun s3 s4 s16 wr => ∃ (k : Nat) (least left : Int), k ≤ L.length ∧ s16 = .int .i64 (k : Int) ∧ s4 = .int .i64 least ∧ s3 = .int .i64 left ∧ Dk.fmdF least left ((L.map Fc.fi).drop k) = q ∧ (0 ≤ least ∧ least ≤ 1048577) ∧ (0 ≤ left ∧ left ≤ 16777216) ∧ Below w.heap.size w wr) (fun _ _ s16 _ => L.length - (intOf s16).toNat)
    case atStart => exact ⟨0, 0, room, Nat.zero_le _, rfl, rfl, rfl, HQ.out, ⟨by omega, by omega⟩, ⟨r0, r1⟩, below_new (Below.refl _ _) _⟩
    case round =>
      obtain ⟨k, least, left, hk, rfl, rfl, rfl, hq, ⟨hl0, hl1⟩, ⟨hf0, hf1⟩, hbw⟩ := hrel
      by_cases hlt : k < L.length
      · have hne : L ≠ [] := fun e => by subst e; simp at hlt
        obtain ⟨b, off, hA, hc⟩ := (HD.out.later hbw).at hne
        subst hA
        obtain ⟨x, hx⟩ : ∃ x, L[k]? = some x := ⟨L[k], List.getElem?_eq_getElem hlt⟩
        obtain ⟨e0, e1, e2⟩ := hc k x hx
        rw [drop_at L Fc.fi k x hx] at hq
        have hxl := (HD.out.one hx).len
        have hstep : (decide (least ≤ x.num ∧ x.num ≤ 1048576 ∧ 0 ≤ x.s ∧ x.s ≤ (x.l.length : Int) ∧ (x.l.length : Int) ≤ left) && Dk.fmdF (x.num + 1) (left - x.l.length) ((L.map Fc.fi).drop (k + 1))) = q := hq
        have hi0 : (0 : Int) ≤ (k : Int) := by omega
        have hi1 : (k : Int) < (L.length : Int) := by omega
        obtain ⟨num, X, cx, l, sr⟩ := x
        dsimp only at e0 e1 e2 hstep hxl
        have W2 := fun w => within_any sr (l.length : Int) w
        have HST := Lib.hid hstep
        clear hq hstep hx hc hne
        by_cases t1 : num < least
        · have d1 : decide (num < least) = true := decide_eq_true t1
          have hqf : q = false := by
            rw [← HST.out, decide_eq_false (fun hh => by omega), Bool.false_and]
          subst hqf
          go_wp2
          go_ret
          exact ⟨rfl, below_new hbw _⟩
        · have d1 : decide (num < least) = false := decide_eq_false t1
          by_cases t2 : 1048576 < num
          · have d2 : decide (1048576 < num) = true := decide_eq_true t2
            have hqf : q = false := by
              rw [← HST.out, decide_eq_false (fun hh => by omega), Bool.false_and]
            subst hqf
            go_wp2
            go_ret
            exact ⟨rfl, below_new hbw _⟩
          · have d2 : decide (1048576 < num) = false := decide_eq_false t2
            by_cases t3 : Dk.win sr (l.length : Int) = true
            · obtain ⟨s0, s1⟩ := Dk.win_yes t3
              rw [t3] at W2
              have W3 := Lib.hid W2
              clear W2 t3
              by_cases t4 : left < (l.length : Int)
              · have d4 : decide (left < (l.length : Int)) = true := decide_eq_true t4
                have hqf : q = false := by
                  rw [← HST.out, decide_eq_false (fun hh => by omega), Bool.false_and]
                subst hqf
                go_wp2_with fail
                refine (W3.out _).mono ?_
                rintro e w' ⟨rfl, rfl⟩
                go_wp2
                go_ret
                exact ⟨rfl, below_new hbw _⟩
              · have d4 : decide (left < (l.length : Int)) = false := decide_eq_false t4
                have hnx : Dk.fmdF (num + 1) (left - l.length) ((L.map Fc.fi).drop (k + 1)) = q := by
                  rw [← HST.out, decide_eq_true (⟨by omega, by omega, s0, s1, by omega⟩ : least ≤ num ∧ num ≤ 1048576 ∧ 0 ≤ sr ∧ sr ≤ (l.length : Int) ∧ (l.length : Int) ≤ left), Bool.true_and]
                have HNX := Lib.hid hnx
                clear hnx HST
                go_wp2_with fail
                refine (W3.out _).mono ?_
                rintro e w' ⟨rfl, rfl⟩
                go_wp2_with fail
                go_roundw
                case rel => exact ⟨k + 1, num + 1, left - l.length, by omega, by first | rfl | go_num, by first | rfl | go_num, by first | rfl | go_num, HNX.out, ⟨by omega, by omega⟩, ⟨by omega, by omega⟩, below_new hbw _⟩
                case measure => simp [intOf]; omega
            · have t3' : Dk.win sr (l.length : Int) = false := by simpa using t3
              have hn3 := Dk.win_no t3'
              rw [t3'] at W2
              have W3 := Lib.hid W2
              have hqf : q = false := by
                rw [← HST.out, decide_eq_false (fun hh => hn3 ⟨hh.2.2.1, hh.2.2.2.1⟩), Bool.false_and]
              subst hqf
              clear W2 t3 t3' hn3
              go_wp2_with fail
              refine (W3.out _).mono ?_
              rintro e w' ⟨rfl, rfl⟩
              go_wp2
              go_ret
              exact ⟨rfl, below_new hbw _⟩
      · have hkl : k = L.length := by omega
        have hqt : q = true := by
          rw [← hq, List.drop_of_length_le (by rw [List.length_map]; omega)]
          rfl
        subst hqt
        clear hq
        have hd : decide ((k : Int) < (L.length : Int)) = false := decide_eq_false (by omega)
        clear hkl
        go_wp2
        go_ret
        exact ⟨rfl, hbw⟩
  · have hr' : Dk.win room 16777216 = false := by simpa using hr
    have hn := Dk.win_no hr'
    have hf : Dk.fmd room (L.map Fc.fi) = false := by
      unfold Dk.fmd
      rw [decide_eq_false hn, Bool.false_and]
    rw [hf]
    have W := Lib.hid (within_any room 16777216 (w.alloc (.cells #[.int .i64 room, .slice A L.length c] 24)))
    rw [hr'] at W
    clear hf hn hr hr'
    go_enter Tryd.func24, Tryd.ntmps24
    go_wp2_with fail
    refine W.out.mono ?_
    rintro e w' ⟨rfl, rfl⟩
    go_wp2
    go_ret
    exact ⟨rfl, below_new (Below.refl _ _) _⟩

namespace Dk
def usd (room : Int) (fs : List Fi) : Int := if fmd room fs = true then used fs else 0
theorem usd_yes {room : Int} {fs : List Fi} (h : fmd room fs = true) : usd room fs = used fs := if_pos h
theorem usd_no {room : Int} {fs : List Fi} (h : fmd room fs = false) : usd room fs = 0 := if_neg (by rw [h]; exact Bool.false_ne_true)
/-- The bytes of the first k files. -/
theorem used_step (fs : List Fi) (k : Nat) (x : Fi) (h : fs[k]? = some x) : used (fs.take (k + 1)) = used (fs.take k) + (x.2.1.length : Int) := by
  obtain ⟨hk, hx⟩ := List.getElem?_eq_some_iff.1 h
  rw [List.take_succ_eq_append_getElem hk, used_append, hx]
  show used (fs.take k) + ((x.2.1.length : Int) + 0) = _
  omega
theorem used_take (fs : List Fi) (k : Nat) : used (fs.take k) ≤ used fs := by
  conv => rhs; rw [← List.take_append_drop k fs, used_append]
  have := used_nonneg (fs.drop k)
  omega
end Dk

set_option maxRecDepth 100000 in
set_option maxHeartbeats 1600000 in
theorem dused_any (room : Int) (A : Option Addr) (c : Nat) (L : List Fc) (w : World) (h : OneD w A c L) :
    Calls Tryd.prog 40 #[.agg #[.int .i64 room, .slice A L.length c]] w (Says (.int .i64 (Dk.usd room (L.map Fc.fi))) w) := by
  have hlen := h.len
  have bn := below_new (Below.refl w.heap.size w) (.cells #[.int .i64 room, .slice A L.length c] 24)
  have N := Lib.hid (dformed_any room A c L _ (h.later bn))
  have HD := Lib.hid h
  clear h
  cases hq : Dk.fmd room (L.map Fc.fi) with
  | false =>
    rw [Dk.usd_no hq]
    rw [hq] at N
    clear hq
    go_enter Tryd.func40, Tryd.ntmps40
    go_wp2_with fail
    refine N.out.mono ?_
    rintro e w1 ⟨rfl, b1⟩
    go_wp2
    go_ret
    exact ⟨rfl, below_on bn b1⟩
  | true =>
    rw [Dk.usd_yes hq]
    rw [hq] at N
    have hF := Dk.fmd_facts hq
    have hu := hF.use
    have hr := hF.r1
    have HS := Lib.hid (fun k x => Dk.used_step (L.map Fc.fi) k x)
    have HT := Lib.hid (fun k => Dk.used_take (L.map Fc.fi) k)
    have HN := Lib.hid (fun fs => Dk.used_nonneg fs)
    obtain ⟨u, hU⟩ : ∃ u, Dk.used (L.map Fc.fi) = u := ⟨_, rfl⟩
    rw [hU] at hu HT ⊢
    have HU := Lib.hid hU
    clear hq hF hU
    go_enter Tryd.func40, Tryd.ntmps40
    go_wp2_with fail
    refine N.out.mono ?_
    rintro e w1 ⟨rfl, b1⟩
    have c1 := cell_later b1 ((Blk.new w 24 #[.int .i64 room, .slice A L.length c]).cell (i := 1) rfl)
    have bb := below_on bn b1
    go_wp2_with fail
    go_loopw [3, 12] (fun s3 s12 wr => ∃ (k : Nat), k ≤ L.length ∧ s12 = .int .i64 (k : Int) ∧ s3 = .int .i64 (Dk.used ((L.map Fc.fi).take k)) ∧ Below w.heap.size w wr) (fun _ s12 _ => L.length - (intOf s12).toNat)
    case atStart => exact ⟨0, Nat.zero_le _, rfl, rfl, bb⟩
    case round =>
      obtain ⟨k, hk, rfl, rfl, hbw⟩ := hrel
      by_cases hlt : k < L.length
      · have hne : L ≠ [] := fun e => by subst e; simp at hlt
        obtain ⟨b, off, hA, hc⟩ := (HD.out.later hbw).at hne
        subst hA
        obtain ⟨x, hx⟩ : ∃ x, L[k]? = some x := ⟨L[k], List.getElem?_eq_getElem hlt⟩
        obtain ⟨e0, e1, e2⟩ := hc k x hx
        have h1 := HS.out k x.fi (by rw [List.getElem?_map, hx]; rfl)
        have h2 := HT.out (k + 1)
        have h3 := HN.out ((L.map Fc.fi).take k)
        obtain ⟨p, hp⟩ : ∃ p, Dk.used ((L.map Fc.fi).take k) = p := ⟨_, rfl⟩
        obtain ⟨p2, hp2⟩ : ∃ p, Dk.used ((L.map Fc.fi).take (k + 1)) = p := ⟨_, rfl⟩
        have h1' : p2 = p + (x.l.length : Int) := by rw [← hp2, h1, hp]; rfl
        rw [hp] at h3 ⊢
        rw [hp2] at h2
        have HP2 := Lib.hid hp2
        have HP3 := Lib.hid h1'
        have h2' : p + (x.l.length : Int) ≤ u := by omega
        have hi0 : (0 : Int) ≤ (k : Int) := by omega
        have hi1 : (k : Int) < (L.length : Int) := by omega
        obtain ⟨num, X, cx, l, sr⟩ := x
        dsimp only at e0 e1 e2 h2'
        clear h1 h1' hp hp2 hx hc hne c1
        go_wp2_with fail
        go_roundw
        case rel => exact ⟨k + 1, by omega, by first | rfl | go_num, by rw [HP2.out, HP3.out], below_new hbw _⟩
        case measure => simp [intOf]; omega
      · have hall : Dk.used ((L.map Fc.fi).take k) = u := by rw [List.take_of_length_le (by rw [List.length_map]; omega)]; exact HU.out
        rw [hall]
        have hd : decide ((k : Int) < (L.length : Int)) = false := decide_eq_false (by omega)
        clear hall
        go_wp2
        go_ret
        exact ⟨rfl, hbw⟩

set_option maxRecDepth 100000 in
set_option maxHeartbeats 1600000 in
theorem rused_any (hform : ∀ (room : Int) (A : Option Addr) (c : Nat) (L : List Fc) (w : World), OneD w A c L → Calls Tryd.prog 31 #[.agg #[.int .i64 room, .slice A L.length c]] w (Says (.bool (Dk.fmd room (L.map Fc.fi))) w)) (room : Int) (A : Option Addr) (c : Nat) (L : List Fc) (w : World) (h : OneD w A c L) :
    Calls Tryd.prog 53 #[.agg #[.int .i64 room, .slice A L.length c]] w (Says (.int .i64 (Dk.usd room (L.map Fc.fi))) w) := by
  have hlen := h.len
  have bn := below_new (Below.refl w.heap.size w) (.cells #[.int .i64 room, .slice A L.length c] 24)
  have N := Lib.hid (hform room A c L _ (h.later bn))
  have HD := Lib.hid h
  clear h hform
  cases hq : Dk.fmd room (L.map Fc.fi) with
  | false =>
    rw [Dk.usd_no hq]
    rw [hq] at N
    clear hq
    go_enter Tryd.func53, Tryd.ntmps53
    go_wp2_with fail
    refine N.out.mono ?_
    rintro e w1 ⟨rfl, b1⟩
    go_wp2
    go_ret
    exact ⟨rfl, below_on bn b1⟩
  | true =>
    rw [Dk.usd_yes hq]
    rw [hq] at N
    have hF := Dk.fmd_facts hq
    have hu := hF.use
    have hr := hF.r1
    have HS := Lib.hid (fun k x => Dk.used_step (L.map Fc.fi) k x)
    have HT := Lib.hid (fun k => Dk.used_take (L.map Fc.fi) k)
    have HN := Lib.hid (fun fs => Dk.used_nonneg fs)
    obtain ⟨u, hU⟩ : ∃ u, Dk.used (L.map Fc.fi) = u := ⟨_, rfl⟩
    rw [hU] at hu HT ⊢
    have HU := Lib.hid hU
    clear hq hF hU
    go_enter Tryd.func53, Tryd.ntmps53
    go_wp2_with fail
    refine N.out.mono ?_
    rintro e w1 ⟨rfl, b1⟩
    have c1 := cell_later b1 ((Blk.new w 24 #[.int .i64 room, .slice A L.length c]).cell (i := 1) rfl)
    have bb := below_on bn b1
    have hsz := b1.size
    have C1 := Lib.hid c1
    clear c1
    go_wp2_with fail
    go_loopw [3, 4] (fun s3 s4 wr => ∃ (k : Nat), k ≤ L.length ∧ s4 = .int .i64 (k : Int) ∧ s3 = .int .i64 (Dk.used ((L.map Fc.fi).take k)) ∧ Below w.heap.size w wr ∧ wr.cell? ⟨w.heap.size, 1, none⟩ = some (.slice A L.length c)) (fun _ s4 _ => L.length - (intOf s4).toNat)
    case atStart => exact ⟨0, Nat.zero_le _, rfl, rfl, bb, C1.out⟩
    case round =>
      obtain ⟨k, hk, rfl, rfl, hbw, hc1⟩ := hrel
      by_cases hlt : k < L.length
      · have hne : L ≠ [] := fun e => by subst e; simp at hlt
        obtain ⟨b, off, hA, hc⟩ := (HD.out.later hbw).at hne
        subst hA
        obtain ⟨x, hx⟩ : ∃ x, L[k]? = some x := ⟨L[k], List.getElem?_eq_getElem hlt⟩
        obtain ⟨e0, e1, e2⟩ := hc k x hx
        have h1 := HS.out k x.fi (by rw [List.getElem?_map, hx]; rfl)
        have h2 := HT.out (k + 1)
        have h3 := HN.out ((L.map Fc.fi).take k)
        obtain ⟨p, hp⟩ : ∃ p, Dk.used ((L.map Fc.fi).take k) = p := ⟨_, rfl⟩
        obtain ⟨p2, hp2⟩ : ∃ p, Dk.used ((L.map Fc.fi).take (k + 1)) = p := ⟨_, rfl⟩
        have h1' : p2 = p + (x.l.length : Int) := by rw [← hp2, h1, hp]; rfl
        rw [hp] at h3 ⊢
        rw [hp2] at h2
        have HP2 := Lib.hid hp2
        have HP3 := Lib.hid h1'
        have h2' : p + (x.l.length : Int) ≤ u := by omega
        have hi0 : (0 : Int) ≤ (k : Int) := by omega
        have hi1 : (k : Int) < (L.length : Int) := by omega
        have HC := Lib.hid hc1
        obtain ⟨num, X, cx, l, sr⟩ := x
        dsimp only at e0 e1 e2 h2'
        clear h1 h1' hp hp2 hx hc hne
        go_wp2_with fail
        go_roundw
        case rel => exact ⟨k + 1, by omega, by first | rfl | go_num, by rw [HP2.out, HP3.out], hbw, HC.out⟩
        case measure => simp [intOf]; omega
      · have hall : Dk.used ((L.map Fc.fi).take k) = u := by rw [List.take_of_length_le (by rw [List.length_map]; omega)]; exact HU.out
        rw [hall]
        have hd : decide ((k : Int) < (L.length : Int)) = false := decide_eq_false (by omega)
        clear hall
        go_wp2
        go_ret
        exact ⟨rfl, hbw⟩
end Go.Proofs.YtkhggofcbdcliaaDoor
namespace Go.Proofs.YtkhggofcbdcliaaDoor
open Go.RowKit

set_option maxRecDepth 100000 in
set_option maxHeartbeats 20000000 in
theorem rformed_any (room : Int) (A : Option Addr) (c : Nat) (L : List Fc) (w : World) (h : OneD w A c L) :
    Calls Tryd.prog 31 #[.agg #[.int .i64 room, .slice A L.length c]] w (Says (.bool (Dk.fmd room (L.map Fc.fi))) w) := by
  have hlen := h.len
  have HD := Lib.hid h
  clear h
  by_cases hr : Dk.win room 16777216 = true
  · obtain ⟨r0, r1⟩ := Dk.win_yes hr
    have hf : Dk.fmd room (L.map Fc.fi) = Dk.fmdF 0 room (L.map Fc.fi) := by
      unfold Dk.fmd
      rw [decide_eq_true (⟨r0, r1⟩ : 0 ≤ room ∧ room ≤ 16777216), Bool.true_and]
    rw [hf]
    obtain ⟨q, hq⟩ : ∃ q, Dk.fmdF 0 room (L.map Fc.fi) = q := ⟨_, rfl⟩
    rw [hq]
    have HQ := Lib.hid hq
    have d0 : decide (room < 0) = false := decide_eq_false (by omega)
    have d1 : decide (16777216 < room) = false := decide_eq_false (by omega)
    have bn := below_new (Below.refl w.heap.size w) (.cells #[.int .i64 room, .slice A L.length c] 24)
    have C1 := Lib.hid ((Blk.new w 24 #[.int .i64 room, .slice A L.length c]).cell (i := 1) rfl)
    clear hf hq hr
    go_enter Tryd.func31, Tryd.ntmps31
    go_wp2_with fail
    go_loopw [3, 4] (fun s3 s4 wr => ∃ (k : Nat) (least left : Int), k ≤ L.length ∧ s4 = .int .i64 (k : Int) ∧ s3 = .int .i64 left ∧ Dk.fmdF least left ((L.map Fc.fi).drop k) = q ∧ (0 ≤ least ∧ least ≤ 1048577) ∧ (0 ≤ left ∧ left ≤ 16777216) ∧ (k = 0 → least = 0) ∧ (∀ x, 0 < k → L[k - 1]? = some x → least = x.num + 1) ∧ Below w.heap.size w wr ∧ wr.cell? ⟨w.heap.size, 1, none⟩ = some (.slice A L.length c)) (fun _ s4 _ => L.length - (intOf s4).toNat)
    case atStart => exact ⟨0, 0, room, Nat.zero_le _, rfl, rfl, HQ.out, ⟨by omega, by omega⟩, ⟨r0, r1⟩, fun _ => rfl, fun _ h => absurd h (by omega), bn, C1.out⟩
    case round =>
      obtain ⟨k, least, left, hk, rfl, rfl, hq, ⟨hl0, hl1⟩, ⟨hf0, hf1⟩, hz, hp, hbw, hc1⟩ := hrel
      by_cases hlt : k < L.length
      · have hne : L ≠ [] := fun e => by subst e; simp at hlt
        obtain ⟨b, off, hA, hc⟩ := (HD.out.later hbw).at hne
        subst hA
        obtain ⟨x, hx⟩ : ∃ x, L[k]? = some x := ⟨L[k], List.getElem?_eq_getElem hlt⟩
        obtain ⟨y, hy⟩ : ∃ y, L[k - 1]? = some y := ⟨L[k - 1], List.getElem?_eq_getElem (by omega)⟩
        obtain ⟨e0, e1, e2⟩ := hc k x hx
        obtain ⟨f0, -, -⟩ := hc (k - 1) y hy
        have hpy := fun h => hp y h hy
        rw [drop_at L Fc.fi k x hx] at hq
        have hxl := (HD.out.one hx).len
        have hstep : (decide (least ≤ x.num ∧ x.num ≤ 1048576 ∧ 0 ≤ x.s ∧ x.s ≤ (x.l.length : Int) ∧ (x.l.length : Int) ≤ left) && Dk.fmdF (x.num + 1) (left - x.l.length) ((L.map Fc.fi).drop (k + 1))) = q := hq
        have hi0 : (0 : Int) ≤ (k : Int) := by omega
        have hi1 : (k : Int) < (L.length : Int) := by omega
        have HX := Lib.hid hx
        obtain ⟨num, X, cx, l, sr⟩ := x
        obtain ⟨yn, Y, cy, yl, ys⟩ := y
        dsimp only at e0 e1 e2 hstep hxl f0 hpy
        have HST := Lib.hid hstep
        have HC := Lib.hid hc1
        -- which test is the first that tells
        have hno : ¬ (least ≤ num ∧ num ≤ 1048576 ∧ 0 ≤ sr ∧ sr ≤ (l.length : Int) ∧ (l.length : Int) ≤ left) → q = false := fun h => by
          rw [← HST.out, decide_eq_false h, Bool.false_and]
        have hyes : (least ≤ num ∧ num ≤ 1048576 ∧ 0 ≤ sr ∧ sr ≤ (l.length : Int) ∧ (l.length : Int) ≤ left) → Dk.fmdF (num + 1) (left - l.length) ((L.map Fc.fi).drop (k + 1)) = q := fun h => by
          rw [← HST.out, decide_eq_true h, Bool.true_and]
        have HNO := Lib.hid hno
        have HYES := Lib.hid hyes
        obtain ⟨W1, hW1⟩ : ∃ W1, wr.alloc (.cells #[.int .i64 num, .slice X l.length cx, .int .i64 sr] 50) = W1 := ⟨_, rfl⟩
        have hb1 : Below wr.heap.size wr W1 := by rw [← hW1]; exact below_new (Below.refl _ _) _
        have hB1 : Blk W1 wr.heap.size 50 #[.int .i64 num, .slice X l.length cx, .int .i64 sr] := by rw [← hW1]; exact Blk.new wr _ _
        have g0 := hB1.cell (i := 0) rfl
        have g1 := hB1.cell (i := 1) rfl
        have g2 := hB1.cell (i := 2) rfl
        have f1 := cell_later hb1 f0
        have h1 := cell_later hb1 hc1
        have BN := Lib.hid (below_on hbw hb1)
        have HB1 := Lib.hid hb1
        have HW1 := Lib.hid hW1
        clear hb1 hB1 hW1 f0
        clear hq hstep hx hy hc hne hp HST hno hyes
        by_cases t1 : num < 0
        · have dt1 : decide (num < 0) = true := decide_eq_true t1
          have hqf := HNO.out (fun hh => by omega)
          subst hqf
          clear hz hpy
          go_wp2_with fail
          rw [HW1.out]
          go_quiet (fail)
          go_wp2
          go_ret
          exact ⟨rfl, below_drewN BN.out _⟩
        have dt1 : decide (num < 0) = false := decide_eq_false t1
        by_cases t2 : 1048576 < num
        · have dt2 : decide (1048576 < num) = true := decide_eq_true t2
          have hqf := HNO.out (fun hh => by omega)
          subst hqf
          clear hz hpy
          go_wp2_with fail
          rw [HW1.out]
          go_quiet (fail)
          go_wp2
          go_ret
          exact ⟨rfl, below_drewN BN.out _⟩
        have dt2 : decide (1048576 < num) = false := decide_eq_false t2
        by_cases tk : 0 < k
        · have dk : decide ((0 : Int) < (k : Int)) = true := decide_eq_true (by omega)
          have hle := hpy tk
          have k0 : (0 : Int) ≤ (k : Int) - 1 := by omega
          have k1 : (k : Int) - 1 < (L.length : Int) := by omega
          have kw : IntKind.i64.wrap ((k : Int) - 1) = (k : Int) - 1 := IntWalk.i64_in _ (by omega)
          have kt : ((k : Int) - 1).toNat = k - 1 := by omega
          by_cases tp : num ≤ yn
          · have dtp : decide (num ≤ yn) = true := decide_eq_true tp
            have hqf := HNO.out (fun hh => by omega)
            subst hqf
            clear hz hpy
            go_wp2_with fail
            rw [HW1.out]
            go_quiet (fail)
            go_wp2
            go_ret
            exact ⟨rfl, below_drewN BN.out _⟩
          have dtp : decide (num ≤ yn) = false := decide_eq_false tp
          by_cases t3 : sr < 0
          · have dt3 : decide (sr < 0) = true := decide_eq_true t3
            have hqf := HNO.out (fun hh => by omega)
            subst hqf
            clear hz hpy
            go_wp2_with fail
            rw [HW1.out]
            go_quiet (fail)
            go_wp2
            go_ret
            exact ⟨rfl, below_drewN BN.out _⟩
          have dt3 : decide (sr < 0) = false := decide_eq_false t3
          by_cases t4 : (l.length : Int) < sr
          · have dt4 : decide ((l.length : Int) < sr) = true := decide_eq_true t4
            have hqf := HNO.out (fun hh => by omega)
            subst hqf
            clear hz hpy
            go_wp2_with fail
            rw [HW1.out]
            go_quiet (fail)
            go_wp2
            go_ret
            exact ⟨rfl, below_drewN BN.out _⟩
          have dt4 : decide ((l.length : Int) < sr) = false := decide_eq_false t4
          by_cases t5 : left < (l.length : Int)
          · have dt5 : decide (left < (l.length : Int)) = true := decide_eq_true t5
            have hqf := HNO.out (fun hh => by omega)
            subst hqf
            clear hz hpy
            go_wp2_with fail
            rw [HW1.out]
            go_quiet (fail)
            go_wp2
            go_ret
            exact ⟨rfl, below_drewN BN.out _⟩
          have dt5 : decide (left < (l.length : Int)) = false := decide_eq_false t5
          have hnx := HYES.out ⟨by omega, by omega, by omega, by omega, by omega⟩
          have HNX := Lib.hid hnx
          clear hnx hz hpy
          go_wp2_with fail
          rw [HW1.out]
          go_quiet (fail)
          go_wp2_with fail
          go_roundw
          case rel => exact ⟨k + 1, num + 1, left - l.length, by omega, by first | rfl | go_num, by first | rfl | go_num, HNX.out, ⟨by omega, by omega⟩, ⟨by omega, by omega⟩, (fun h => by omega), (fun x _ hx2 => by rw [Nat.add_sub_cancel, HX.out] at hx2; cases hx2; rfl), below_drewN BN.out _, cell_later (below_drewN HB1.out _) HC.out⟩
          case measure => simp [intOf]; omega
        · have dk : decide ((0 : Int) < (k : Int)) = false := decide_eq_false (by omega)
          have hle := hz (by omega)
          by_cases t3 : sr < 0
          · have dt3 : decide (sr < 0) = true := decide_eq_true t3
            have hqf := HNO.out (fun hh => by omega)
            subst hqf
            clear hz hpy
            go_wp2_with fail
            rw [HW1.out]
            go_quiet (fail)
            go_wp2
            go_ret
            exact ⟨rfl, below_drewN BN.out _⟩
          have dt3 : decide (sr < 0) = false := decide_eq_false t3
          by_cases t4 : (l.length : Int) < sr
          · have dt4 : decide ((l.length : Int) < sr) = true := decide_eq_true t4
            have hqf := HNO.out (fun hh => by omega)
            subst hqf
            clear hz hpy
            go_wp2_with fail
            rw [HW1.out]
            go_quiet (fail)
            go_wp2
            go_ret
            exact ⟨rfl, below_drewN BN.out _⟩
          have dt4 : decide ((l.length : Int) < sr) = false := decide_eq_false t4
          by_cases t5 : left < (l.length : Int)
          · have dt5 : decide (left < (l.length : Int)) = true := decide_eq_true t5
            have hqf := HNO.out (fun hh => by omega)
            subst hqf
            clear hz hpy
            go_wp2_with fail
            rw [HW1.out]
            go_quiet (fail)
            go_wp2
            go_ret
            exact ⟨rfl, below_drewN BN.out _⟩
          have dt5 : decide (left < (l.length : Int)) = false := decide_eq_false t5
          have hnx := HYES.out ⟨by omega, by omega, by omega, by omega, by omega⟩
          have HNX := Lib.hid hnx
          clear hnx hz hpy
          go_wp2_with fail
          rw [HW1.out]
          go_quiet (fail)
          go_wp2_with fail
          go_roundw
          case rel => exact ⟨k + 1, num + 1, left - l.length, by omega, by first | rfl | go_num, by first | rfl | go_num, HNX.out, ⟨by omega, by omega⟩, ⟨by omega, by omega⟩, (fun h => by omega), (fun x _ hx2 => by rw [Nat.add_sub_cancel, HX.out] at hx2; cases hx2; rfl), below_drewN BN.out _, cell_later (below_drewN HB1.out _) HC.out⟩
          case measure => simp [intOf]; omega
      · have hkl : k = L.length := by omega
        have hqt : q = true := by
          rw [← hq, List.drop_of_length_le (by rw [List.length_map]; omega)]
          rfl
        subst hqt
        clear hq hz hp
        have hd : decide ((k : Int) < (L.length : Int)) = false := decide_eq_false (by omega)
        clear hkl
        go_wp2
        go_ret
        exact ⟨rfl, hbw⟩
  · have hr' : Dk.win room 16777216 = false := by simpa using hr
    have hn := Dk.win_no hr'
    have hf : Dk.fmd room (L.map Fc.fi) = false := by
      unfold Dk.fmd
      rw [decide_eq_false hn, Bool.false_and]
    rw [hf]
    clear hf hr hr'
    by_cases h0 : room < 0
    · have d0 : decide (room < 0) = true := decide_eq_true h0
      clear hn
      go_enter Tryd.func31, Tryd.ntmps31
      go_wp2
      go_ret
      exact ⟨rfl, below_new (Below.refl _ _) _⟩
    · have d0 : decide (room < 0) = false := decide_eq_false h0
      have d1 : decide (16777216 < room) = true := decide_eq_true (by omega)
      clear hn
      go_enter Tryd.func31, Tryd.ntmps31
      go_wp2
      go_ret
      exact ⟨rfl, below_new (Below.refl _ _) _⟩
end Go.Proofs.YtkhggofcbdcliaaDoor
