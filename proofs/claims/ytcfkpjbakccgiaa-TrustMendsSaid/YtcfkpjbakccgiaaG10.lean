/-
  A slice as an argument, opened: elements of any make, with something known of each one and of its datum.
  Plain mathematics of zones: which are formed, where an object stands, the zones of a function from objects, what a note makes of them; zones where they lie. Nothing of the program is imported.
  Zones as an argument, opened, and how many there can be; a list of stamps or spans, and how many.
  What telltaleref10's at and Formed answer.
-/
import Derived.Test.YtcfkpjbakccgiaaG01
import Derived.Lib.SmallJoins
import Derived.Test.YtcfkpjbakccgiaaG09
import Derived.Test.YtcfkpjbakccgiaaG02
import Derived.Test.YtcfkpjbakccgiaaG03
import Derived.Test.YtcfkpjbakccgiaaG08
import Derived.Test.YtcfkpjbakccgiaaG07
import Derived.Lib.QuietBelow
namespace Go.Proofs.Ytcfkpjbakccgiaa
open Go.ChangeShapes Go.WideShapes Go.RowKit Go.Deep

set_option maxRecDepth 100000
theorem list3 {cs : List Value} (h : cs.length = 3) : ∃ a0 a1 a2, cs = [a0, a1, a2] := by
  match cs, h with
  | [a0, a1, a2], _ => exact ⟨a0, a1, a2, rfl⟩
theorem list2 {cs : List Value} (h : cs.length = 2) : ∃ a0 a1, cs = [a0, a1] := by
  match cs, h with
  | [a0, a1], _ => exact ⟨a0, a1, rfl⟩

section
variable {H : Type} {enc : TypeId × Value → H} {w : World}
/-- The datum of a list of k things, of each of which something is known. -/
def LenG (d : DataW H) (k : Nat) : Prop := k = 0 ∨ ∃ elems spare, d = .slice elems spare ∧ elems.length = k
/-- A slice whose elements' cells are known by 'f', at its own cell; and something of each element and of its datum. -/
theorem open_list_with {P : Program} {α : Type} (z : α) (f : α → List Value) (good : α → DataW H → Prop) {size : Nat} (hf : ∀ a, (f a).length = size) {t e : TypeId} {fuel0 : Nat} {cs0 : List Value} {y : DataW H × List MemPlace}
    (ht : P.underlying t = some (.slice e)) (hC : P.cellsOf e = size) (hsz : 0 < size)
    (helem : ∀ (fuel : Nat) (cs : List Value) (x : DataW H × List MemPlace), DataW.trod enc P w 0 (fun _ => true) true fuel e cs = some x → ∃ a, cs = f a ∧ good a x.1)
    (hfu : DataW.trod enc P w 0 (fun _ => true) true fuel0 t cs0 = some y) :
    ∃ (A : Option Addr) (cap : Nat) (l : List α), cs0 = [.slice A l.length cap] ∧ l.length ≤ cap ∧ cap ≤ maxLen ∧ (A = none → l.length = 0 ∧ cap = 0) ∧ Lies w A (l.flatMap f) ∧
      (l = [] ∨ ∃ elems spare, y.1 = .slice elems spare ∧ elems.length = l.length ∧ ∀ a ∈ l, ∃ d ∈ elems, good a d) := by
  rcases open_slice ht hfu with ⟨hcs, hx⟩ | ⟨a, len, cap, m, n, D, Pl, hcs, _, hl, hm, hmm, hx, hi⟩
  · subst hcs hx
    exact ⟨none, 0, [], rfl, Nat.le_refl _, Nat.zero_le _, fun _ => ⟨rfl, rfl⟩, Lies.nil, .inl rfl⟩
  · simp at hmm
    subst hmm
    obtain ⟨g, hg⟩ := pick (n := len) (p := fun i s => good s (D i) ∧ ∀ j, j < size → w.cell? (a.add (i * size + j)) = (f s)[j]?) z (fun i hi' => by
      obtain ⟨cs', hc, ht'⟩ := hi i (by omega)
      rw [hC] at hc
      obtain ⟨s, rfl, hs⟩ := helem _ _ _ ht'
      obtain ⟨_, _, hcell⟩ := World.cells?_some hc
      refine ⟨s, hs, fun j hj => ?_⟩
      rw [← hcell j hj, Go.Deep.add_add])
    refine ⟨some a, m, (List.range len).map g, by simpa using hcs, by simpa using hl, hm, (fun h => by cases h), (fun hne => ?_), .inr ⟨_, _, by rw [hx], by simp, fun s hs => ?_⟩⟩
    · have hpos : 0 < len := by
        rcases Nat.eq_zero_or_pos len with h0 | h0
        · subst h0; simp at hne
        · exact h0
      obtain ⟨b, off, spot⟩ := a
      have h00 := (hg 0 hpos).2 0 hsz
      have hspot : spot = none := by
        have hlen := hf (g 0)
        rw [List.getElem?_eq_getElem (by omega)] at h00
        simpa [Addr.add] using World.cell?_spot h00
      subst hspot
      refine ⟨b, off, rfl, fun j u hu => ?_⟩
      obtain ⟨i, r, s, h1, h2, h3, h4⟩ := flat_get f hf _ j u hu
      have hil : i < len := by
        have := (List.getElem?_eq_some_iff.1 h1).1
        simpa using this
      simp [hil] at h1
      subst h1
      rw [← Go.WideShapes.add_plain, h3, (hg i hil).2 r h2]
      exact h4
    · simp at hs
      obtain ⟨i, hil, rfl⟩ := hs
      exact ⟨D i, List.mem_map.2 ⟨i, List.mem_range.2 hil, rfl⟩, (hg i hil).1⟩
theorem dk_weightsAll (P : Program) (e : TypeId) : ∀ l : List (DataW H), DataW.weightsAll P e l = l.flatMap (DataW.weights P e)
  | [] => rfl
  | d :: r => by rw [List.flatMap_cons, ← dk_weightsAll P e r]; rfl
end
end Go.Proofs.Ytcfkpjbakccgiaa
namespace Go.Proofs.Ytcfkpjbakccgiaa
open Go.RowKit

/-- A zone: its first object, its last one, its vector. -/
abbrev Zn := Int × Int × List (Int × Int)
/-- A zone where it lies. -/
structure Zc where
  lo : Int
  hi : Int
  X : Option Addr
  c : Nat
  l : List (Int × Int)
def Zc.zn (z : Zc) : Zn := (z.lo, z.hi, z.l)
def zCells : List Zc → List Value
  | [] => []
  | z :: r => .int .i64 z.lo :: .int .i64 z.hi :: .slice z.X z.l.length z.c :: zCells r
theorem zCells_length (L : List Zc) : (zCells L).length = L.length * 3 := by
  induction L with
  | nil => rfl
  | cons f r ih => simp [zCells, ih]; omega
theorem zCells_append (l r : List Zc) : zCells (l ++ r) = zCells l ++ zCells r := by
  induction l with
  | nil => rfl
  | cons f l ih => simp [zCells, ih]
theorem zCells_nil {L : List Zc} : zCells L = [] ↔ L = [] := by cases L <;> simp [zCells]
theorem zCells_one (L : List Zc) : ∀ u ∈ zCells L, u.oneCell' = true := by
  induction L with
  | nil => intro u hu; cases hu
  | cons f r ih =>
    intro u hu
    simp only [zCells, List.mem_cons] at hu
    rcases hu with rfl | rfl | rfl | hu
    · rfl
    · rfl
    · rfl
    · exact ih u hu
theorem zCells_get (L : List Zc) : ∀ (k : Nat) (x : Zc), L[k]? = some x → (zCells L)[k * 3]? = some (.int .i64 x.lo) ∧ (zCells L)[k * 3 + 1]? = some (.int .i64 x.hi) ∧ (zCells L)[k * 3 + 2]? = some (.slice x.X x.l.length x.c) := by
  induction L with
  | nil => intro k x h; simp at h
  | cons f r ih =>
    intro k x h
    cases k with
    | zero =>
      simp at h
      subst h
      exact ⟨rfl, rfl, rfl⟩
    | succ k =>
      have := ih k x (by simpa using h)
      rw [show (k + 1) * 3 = k * 3 + 3 from by omega]
      simpa [zCells] using this

namespace Tr
/-- Is the zone at place j as it must be? -/
def okAt (zs : List Zn) (j : Nat) : Prop :=
  (0 ≤ (zs.getD j (0, 0, [])).1 ∧ (zs.getD j (0, 0, [])).1 ≤ (zs.getD j (0, 0, [])).2.1 ∧ (zs.getD j (0, 0, [])).2.1 ≤ 255) ∧ Ve.fmd (zs.getD j (0, 0, [])).2.2 = true ∧
    (0 < j → (zs.getD (j - 1) (0, 0, [])).2.1 < (zs.getD j (0, 0, [])).1 ∧ ((zs.getD (j - 1) (0, 0, [])).2.1 = (zs.getD j (0, 0, [])).1 - 1 → (zs.getD (j - 1) (0, 0, [])).2.2 ≠ (zs.getD j (0, 0, [])).2.2))
instance (zs : List Zn) (j : Nat) : Decidable (okAt zs j) := by unfold okAt; infer_instance
def fmTo (zs : List Zn) (k : Nat) : Prop := ∀ j, j < k → okAt zs j
def fmd (zs : List Zn) : Bool := decide (∀ j : Fin zs.length, okAt zs j.val)
theorem fmd_iff (zs : List Zn) : fmd zs = true ↔ fmTo zs zs.length := by
  unfold fmd fmTo
  rw [decide_eq_true_iff]
  exact ⟨fun h n hn => h ⟨n, hn⟩, fun h n => h n.val n.isLt⟩
theorem fmd_no {zs : List Zn} (k : Nat) (hk : k < zs.length) (h : ¬ okAt zs k) : fmd zs = false := by
  cases hc : fmd zs with
  | false => rfl
  | true => exact absurd ((fmd_iff zs).1 hc k hk) h

/-- Does a zone hold an object? -/
def holds (z : Zn) (o : Int) : Bool := decide (z.1 ≤ o ∧ o ≤ z.2.1)
/-- The place of an object's zone; -1: none. -/
def atI : List Zn → Int → Int
  | [], _ => -1
  | z :: r, o => if holds z o = true then 0 else (if atI r o = -1 then -1 else atI r o + 1)
/-- The vector of an object's zone. -/
def at_ (zs : List Zn) (o : Int) : Option (List (Int × Int)) := (zs.find? fun z => holds z o).map fun z => z.2.2
theorem atI_cons (z : Zn) (r : List Zn) (o : Int) : atI (z :: r) o = if holds z o = true then 0 else (if atI r o = -1 then -1 else atI r o + 1) := rfl
theorem at_cons (z : Zn) (r : List Zn) (o : Int) : at_ (z :: r) o = if holds z o = true then some z.2.2 else at_ r o := by
  unfold at_
  rw [List.find?_cons]
  cases h : holds z o <;> simp
theorem atI_ge (zs : List Zn) (o : Int) : -1 ≤ atI zs o := by
  induction zs with
  | nil => exact Int.le_refl _
  | cons z r ih => rw [atI_cons]; split <;> (try split) <;> omega
/-- What stands at the place. -/
theorem at_ways (zs : List Zn) (o : Int) : (atI zs o = -1 ∧ at_ zs o = none ∧ ∀ j, j < zs.length → holds (zs.getD j (0, 0, [])) o = false) ∨ (∃ k : Nat, k < zs.length ∧ atI zs o = (k : Int) ∧ at_ zs o = some (zs.getD k (0, 0, [])).2.2 ∧ holds (zs.getD k (0, 0, [])) o = true ∧ ∀ j, j < k → holds (zs.getD j (0, 0, [])) o = false) := by
  induction zs with
  | nil => exact .inl ⟨rfl, rfl, fun j hj => by cases hj⟩
  | cons z r ih =>
    by_cases hz : holds z o = true
    · refine .inr ⟨0, by simp, ?_, ?_, hz, fun j hj => by cases hj⟩
      · rw [atI_cons, if_pos hz]; rfl
      · rw [at_cons, if_pos hz]; rfl
    · have hz' : holds z o = false := by simpa using hz
      rcases ih with ⟨h1, h2, h3⟩ | ⟨k, h1, h2, h3, h4, h5⟩
      · refine .inl ⟨?_, ?_, fun j hj => ?_⟩
        · rw [atI_cons, if_neg hz, if_pos h1]
        · rw [at_cons, if_neg hz]; exact h2
        · cases j with
          | zero => exact hz'
          | succ j => exact h3 j (by simpa using hj)
      · refine .inr ⟨k + 1, by simpa using h1, ?_, ?_, h4, fun j hj => ?_⟩
        · rw [atI_cons, if_neg hz, if_neg (by omega), h2]; omega
        · rw [at_cons, if_neg hz]; exact h3
        · cases j with
          | zero => exact hz'
          | succ j => exact h5 j (by omega)
theorem atI_none {zs : List Zn} {o : Int} (h : ∀ j, j < zs.length → holds (zs.getD j (0, 0, [])) o = false) : atI zs o = -1 := by
  rcases at_ways zs o with ⟨h1, -, -⟩ | ⟨k, h1, -, -, h4, -⟩
  · exact h1
  · rw [h k h1] at h4; cases h4
theorem atI_some {zs : List Zn} {o : Int} {k : Nat} (hk : k < zs.length) (h : holds (zs.getD k (0, 0, [])) o = true) (hb : ∀ j, j < k → holds (zs.getD j (0, 0, [])) o = false) : atI zs o = (k : Int) := by
  rcases at_ways zs o with ⟨-, -, h1⟩ | ⟨i, h1, h2, -, h4, h5⟩
  · rw [h1 k hk] at h; cases h
  · rcases Nat.lt_trichotomy i k with hl | rfl | hl
    · rw [hb i hl] at h4; cases h4
    · exact h2
    · rw [h5 k hl] at h; cases h

/-- The reach of an object: of formed zones. -/
def rch (zs : List Zn) (known : List (Int × Int)) (o : Int) : List (Int × Int) := (at_ zs o).getD known
def rchR (zs : List Zn) (known : List (Int × Int)) (o : Int) : List (Int × Int) := if fmd zs = true ∧ Ve.fmd known = true ∧ 0 ≤ o ∧ o ≤ 255 then rch zs known o else []
/-- The objects in zones. -/
def blr (zs : List Zn) : List (Int × Int) := if fmd zs = true then Sp.ofL (fun o => (at_ zs (o : Int)).isSome) else []
/-- The reaches of the first k objects that a set has. -/
def rchs (zs : List Zn) (known : List (Int × Int)) (f : Nat → Bool) : Nat → List (List (Int × Int))
  | 0 => []
  | k + 1 => if f k = true then rchs zs known f k ++ [rch zs known (k : Int)] else rchs zs known f k
def sncR (zs : List Zn) (known it : List (Int × Int)) : List (Int × Int) :=
  if fmd zs = true ∧ Ve.fmd known = true then (if (rchs zs known (Sp.inL it) 256).length = 0 then known else Ve.meetL (rchs zs known (Sp.inL it) 256)) else []

/-- A reach stretched, node by node. -/
def str (c s e : Nat → Int) (k : Nat) : Int := if s k ≤ c k then (if c k < e k then e k else c k) else c k
def strd (v : List (Int × Int)) (n : Note) (o : Int) : List (Int × Int) :=
  if (Nt.at_ n.ws o).2 = true ∧ hasOf (Ve.ofL (str (Ve.cnt v) (Ve.cnt n.s) (Ve.cnt n.e))) (Nt.at_ n.ws o).1.1 (Nt.at_ n.ws o).1.2.1 = false then v else Ve.ofL (str (Ve.cnt v) (Ve.cnt n.s) (Ve.cnt n.e))
/-- An object's reach behind a note. -/
def sho (zs : List Zn) (known : List (Int × Int)) (n : Note) (o : Nat) : List (Int × Int) := if Sp.inL n.b o = true then rch zs known (o : Int) else strd (rch zs known (o : Int)) n (o : Int)
/-- The zone that it is in then. -/
def zof (zs : List Zn) (known : List (Int × Int)) (n : Note) (o : Nat) : Option (List (Int × Int)) :=
  if Ve.cov (Ve.cnt (sho zs known n o)) (Ve.cnt (Ve.joinL [known, n.e])) = true then none else some (sho zs known n o)
/-- Does the last zone go on at object k with a vector? -/
def goesOn (zs : List Zn) (k : Nat) (v : List (Int × Int)) : Bool := decide (0 < zs.length ∧ (zs.getD (zs.length - 1) (0, 0, [])).2.1 = (k : Int) - 1 ∧ (zs.getD (zs.length - 1) (0, 0, [])).2.2 = v)
def ext (zs : List Zn) (k : Nat) : List Zn := zs.dropLast ++ [((zs.getD (zs.length - 1) (0, 0, [])).1, (k : Int), (zs.getD (zs.length - 1) (0, 0, [])).2.2)]
/-- The zones of the first k objects. -/
def mkTo (f : Nat → Option (List (Int × Int))) : Nat → List Zn
  | 0 => []
  | k + 1 => match f k with
    | none => mkTo f k
    | some v => if goesOn (mkTo f k) k v = true then ext (mkTo f k) k else mkTo f k ++ [((k : Int), (k : Int), v)]
abbrev Ans3 := List Zn × List (Int × Int) × Int
/-- What Take answers. -/
def tkR (zs : List Zn) (known : List (Int × Int)) (n : Note) : Ans3 :=
  if fmd zs = true ∧ Ve.fmd known = true ∧ Nt.fmd n = true then (if Ve.cov (Ve.cnt known) (Ve.cnt n.s) = true then (mkTo (zof zs known n) 256, Ve.joinL [known, n.e], 0) else ([], [], 3)) else ([], [], 1)
end Tr

/-- Zones by value. -/
structure OneZ (w : World) (A : Option Addr) (c : Nat) (L : List Zc) : Prop where
  le : L.length ≤ c
  cap : c ≤ maxLen
  noA : A = none → L.length = 0 ∧ c = 0
  lies : Lies w A (zCells L)
  each : ∀ z ∈ L, OneL w z.X z.c z.l
theorem OneZ.later {w w' : World} {A : Option Addr} {c : Nat} {L : List Zc} (h : OneZ w A c L) (hb : Below w.heap.size w w') : OneZ w' A c L := ⟨h.le, h.cap, h.noA, h.lies.later hb, fun f hf => (h.each f hf).later hb⟩
theorem OneZ.len {w : World} {A : Option Addr} {c : Nat} {L : List Zc} (h : OneZ w A c L) : L.length ≤ 9223372036854775807 := by
  have h1 := h.le
  have h2 := h.cap
  unfold maxLen at h2
  omega
theorem OneZ.nil (w : World) : OneZ w none 0 [] := ⟨Nat.le_refl _, Nat.zero_le _, fun _ => ⟨rfl, rfl⟩, Lies.nil, fun _ h => by cases h⟩
theorem OneZ.at {w : World} {A : Option Addr} {c : Nat} {L : List Zc} (h : OneZ w A c L) (hne : L ≠ []) : ∃ b off, A = some ⟨b, off, none⟩ ∧ ∀ k x, L[k]? = some x → w.cell? ⟨b, off + k * 3, none⟩ = some (.int .i64 x.lo) ∧ w.cell? ⟨b, off + k * 3 + 1, none⟩ = some (.int .i64 x.hi) ∧ w.cell? ⟨b, off + k * 3 + 2, none⟩ = some (.slice x.X x.l.length x.c) := by
  obtain ⟨b, off, hA, hc⟩ := h.lies (fun e => hne (zCells_nil.1 e))
  refine ⟨b, off, hA, fun k x hx => ?_⟩
  obtain ⟨h1, h2, h3⟩ := zCells_get L k x hx
  exact ⟨hc _ _ h1, (Nat.add_assoc off (k * 3) 1) ▸ hc _ _ h2, (Nat.add_assoc off (k * 3) 2) ▸ hc _ _ h3⟩
theorem OneZ.one {w : World} {A : Option Addr} {c : Nat} {L : List Zc} (h : OneZ w A c L) {k : Nat} {x : Zc} (hx : L[k]? = some x) : OneL w x.X x.c x.l := h.each x (List.mem_of_getElem? hx)
theorem zn_getD {L : List Zc} {k : Nat} {x : Zc} (hx : L[k]? = some x) : (L.map Zc.zn).getD k (0, 0, []) = x.zn := by
  rw [List.getD_eq_getElem?_getD, List.getElem?_map, hx]; rfl
/-- Zones are answered; what was there before is as it was. -/
def GivesZ (zs : List Zn) (w : World) (e : Ending) (w' : World) : Prop := ∃ A c L, e = .returned (.slice A (List.length L) c) ∧ OneZ w' A c L ∧ L.map Zc.zn = zs ∧ Below w.heap.size w w'
/-- What Take answers: zones, a vector, an error. -/
def GivesT (r : Tr.Ans3) (w : World) (e : Ending) (w' : World) : Prop :=
  ∃ A c L B cb, e = .returned (.tuple #[.slice A (List.length L) c, .slice B r.2.1.length cb, .int .i64 r.2.2]) ∧ OneZ w' A c L ∧ L.map Zc.zn = r.1 ∧ OneL w' B cb r.2.1 ∧ Below w.heap.size w w'
end Go.Proofs.Ytcfkpjbakccgiaa
namespace Go.Proofs.Ytcfkpjbakccgiaa
open Go.ChangeShapes Go.WideShapes Go.RowKit Go.Deep

set_option maxRecDepth 100000
section
variable {H : Type} {enc : TypeId × Value → H} {w : World}
theorem znInt : Try.prog.cellsOf 3 = 1 := by kernel_rfl
theorem znSt : Try.prog.cellsOf 53 = 2 := by kernel_rfl
theorem znSp : Try.prog.cellsOf 55 = 2 := by kernel_rfl
theorem znLS : Try.prog.cellsOf 23 = 1 := by kernel_rfl
theorem znZn : Try.prog.cellsOf 57 = 3 := by kernel_rfl
theorem znLZ : Try.prog.cellsOf 22 = 1 := by kernel_rfl
theorem znBytesS : Try.prog.bytesOf 53 = 16 := by kernel_rfl
theorem znBytesZ : Try.prog.bytesOf 57 = 40 := by kernel_rfl
theorem zn_stampE (fuel : Nat) (cs : List Value) (x : DataW H × List MemPlace) (h : DataW.trod enc Try.prog w 0 (fun _ => true) true fuel 53 cs = some x) : ∃ a : Int × Int, cs = stCells [a] := by
  obtain ⟨y0, y1, m, hx, hl, q0, q1⟩ := trod_struct2 Try.underlying53 h
  rw [znSt] at hl
  obtain ⟨a0, a1, rfl⟩ := list2 hl
  dsimp only at q0 q1
  rw [znInt] at q0 q1
  obtain ⟨n, e0, _, _⟩ := DataW.trod_int Try.underlying3 q0
  obtain ⟨s, e1, _, _⟩ := DataW.trod_int Try.underlying3 q1
  simp at e0 e1
  subst e0 e1
  exact ⟨(n, s), rfl⟩
theorem zn_flat (l : List (Int × Int)) : l.flatMap (fun n => stCells [n]) = stCells l := by
  induction l with
  | nil => rfl
  | cons s r ih =>
    rw [List.flatMap_cons, ih]
    rfl
theorem zn_vecE {fuel : Nat} {cs : List Value} {x : DataW H × List MemPlace} (h : DataW.trod enc Try.prog w 0 (fun _ => true) true fuel 23 cs = some x) : ∃ A c l, cs = [.slice A (List.length l) c] ∧ OneL w A c l ∧ LenG x.1 l.length := by
  obtain ⟨A, c, l, h1, h2, h3, h4, h5, h6⟩ := open_list_with ((0, 0) : Int × Int) (fun n => stCells [n]) (fun _ _ => True) (size := 2) (fun _ => rfl) Try.underlying23 znSt (by decide) (fun fuel cs x h => (zn_stampE fuel cs x h).imp fun _ h => ⟨h, trivial⟩) h
  rw [zn_flat] at h5
  refine ⟨A, c, l, h1, ⟨h2, h3, h4, h5⟩, ?_⟩
  rcases h6 with rfl | ⟨el, sp, h7, h8, _⟩
  · exact .inl rfl
  · exact .inr ⟨el, sp, h7, h8⟩
/-- What is known of a zone and of its datum. -/
def ZoneG (w : World) (z : Zc) (d : DataW H) : Prop := OneL w z.X z.c z.l ∧ ∃ d0 d1, d = .agg [d0, d1] ∧ LenG d1 z.l.length
def Zc.zero : Zc := ⟨0, 0, none, 0, []⟩
theorem zn_zoneE (fuel : Nat) (cs : List Value) (x : DataW H × List MemPlace) (h : DataW.trod enc Try.prog w 0 (fun _ => true) true fuel 57 cs = some x) : ∃ z : Zc, cs = zCells [z] ∧ ZoneG w z x.1 := by
  obtain ⟨y0, y1, m, hx, hl, q0, q1⟩ := trod_struct2 Try.underlying57 h
  rw [znZn] at hl
  obtain ⟨a0, a1, a2, rfl⟩ := list3 hl
  dsimp only at q0 q1
  rw [znSp] at q0
  rw [znLS] at q1
  obtain ⟨z0, z1, m2, hx2, hl2, r0, r1⟩ := trod_struct2 Try.underlying55 q0
  dsimp only at r0 r1
  rw [znInt] at r0 r1
  obtain ⟨n, e0, _, _⟩ := DataW.trod_int Try.underlying3 r0
  obtain ⟨s, e1, _, _⟩ := DataW.trod_int Try.underlying3 r1
  obtain ⟨X, c, l, e2, o1, g1⟩ := zn_vecE q1
  simp at e0 e1 e2
  subst e0 e1 e2
  exact ⟨⟨n, s, X, c, l⟩, rfl, o1, _, _, congrArg Prod.fst hx, g1⟩
theorem zCells_flat (l : List Zc) : l.flatMap (fun f => zCells [f]) = zCells l := by
  induction l with
  | nil => rfl
  | cons s r ih =>
    rw [List.flatMap_cons, ih]
    rfl
/-- Zones by value. -/
theorem open_zones {r : Reach} {b0 : Nat} {v : Value} {d : DataW H} {p : List MemPlace} (hv : Value.okWide Try.prog w r b0 22 v) (h : DataW.Trod enc Try.prog w 0 (fun _ => true) true 22 v d p) :
    ∃ (A : Option Addr) (c : Nat) (L : List Zc), v = .slice A L.length c ∧ OneZ w A c L ∧ (L = [] ∨ ∃ elems spare, d = .slice elems spare ∧ elems.length = L.length ∧ ∀ f ∈ L, ∃ x ∈ elems, ZoneG w f x) := by
  obtain ⟨a0, len0, cap0, rfl⟩ := okWide_slice Try.underlying22 hv
  obtain ⟨fuel, hf⟩ := h
  obtain ⟨A, c, L, e1, h2, h3, h4, h5, h6⟩ := open_list_with Zc.zero (fun f => zCells [f]) (fun f d => ZoneG w f d) (size := 3) (fun _ => rfl) Try.underlying22 znZn (by decide) (fun fuel cs x h => zn_zoneE fuel cs x h) hf
  rw [zCells_flat] at h5
  have hve : Value.slice a0 len0 cap0 = .slice A L.length c := by simpa [Value.cells] using e1
  refine ⟨A, c, L, hve, ⟨h2, h3, h4, h5, fun f hf2 => ?_⟩, h6⟩
  rcases h6 with rfl | ⟨_, _, _, _, h7⟩
  · cases hf2
  · obtain ⟨_, _, h8⟩ := h7 f hf2
    exact h8.1
/-- How much they can be. -/
theorem fit_zones {ts : List TypeId} {ds : List (DataW H)} (h : (DataW.weightsEach Try.prog ts ds).all (· ≤ reachBytes) = true) {j : Nat} {d : DataW H} {L : List Zc} (ht : ts[j]? = some 22) (hd : ds[j]? = some d)
    (h6 : L = [] ∨ ∃ elems spare, d = .slice elems spare ∧ elems.length = L.length ∧ ∀ f ∈ L, ∃ x ∈ elems, ZoneG w f x) : L.length * 40 ≤ 140737488355328 ∧ ∀ z ∈ L, z.l.length * 16 ≤ 140737488355328 := by
  rcases h6 with rfl | ⟨elems, spare, rfl, hl, h7⟩
  · exact ⟨by simp, fun _ h => by cases h⟩
  · have top : ∀ k, k ∈ DataW.weights Try.prog 22 (.slice elems spare) → k ≤ reachBytes := fun k hk => by
      simpa using List.all_eq_true.1 h _ (DataW.weights_mem_each ht hd _ hk)
    refine ⟨?_, fun f hf => ?_⟩
    · have h1 := top ((elems.length + spare.length) * Try.prog.bytesOf 57) (by unfold DataW.weights; rw [Try.underlying22]; exact List.mem_cons_self ..)
      rw [znBytesZ] at h1
      simp only [reachBytes] at h1
      omega
    · obtain ⟨x, hx, -, q0, q1, rfl, z⟩ := h7 f hf
      rcases z with z | ⟨el, sp, rfl, z⟩
      · omega
      · have h1 := top ((el.length + sp.length) * Try.prog.bytesOf 53) (by
          unfold DataW.weights
          rw [Try.underlying22]
          refine List.mem_cons_of_mem _ (List.mem_append_left _ ?_)
          rw [dk_weightsAll]
          refine List.mem_flatMap.2 ⟨_, hx, ?_⟩
          unfold DataW.weights
          rw [Try.underlying57]
          refine DataW.weights_mem_each (j := 1) rfl rfl _ ?_
          unfold DataW.weights
          rw [Try.underlying23]
          exact List.mem_cons_self ..)
        rw [znBytesS] at h1
        simp only [reachBytes] at h1
        omega
theorem zn_spanE (fuel : Nat) (cs : List Value) (x : DataW H × List MemPlace) (h : DataW.trod enc Try.prog w 0 (fun _ => true) true fuel 55 cs = some x) : ∃ a : Int × Int, cs = stCells [a] := by
  obtain ⟨y0, y1, m, hx, hl, q0, q1⟩ := trod_struct2 Try.underlying55 h
  rw [znSp] at hl
  obtain ⟨a0, a1, rfl⟩ := list2 hl
  dsimp only at q0 q1
  rw [znInt] at q0 q1
  obtain ⟨n, e0, _, _⟩ := DataW.trod_int Try.underlying3 q0
  obtain ⟨s, e1, _, _⟩ := DataW.trod_int Try.underlying3 q1
  simp at e0 e1
  subst e0 e1
  exact ⟨(n, s), rfl⟩
theorem zn_setE {fuel : Nat} {cs : List Value} {x : DataW H × List MemPlace} (h : DataW.trod enc Try.prog w 0 (fun _ => true) true fuel 28 cs = some x) : ∃ A c l, cs = [.slice A (List.length l) c] ∧ OneL w A c l := by
  obtain ⟨A, c, l, h1, h2, h3, h4, h5, h6⟩ := open_list_with ((0, 0) : Int × Int) (fun n => stCells [n]) (fun _ _ => True) (size := 2) (fun _ => rfl) Try.underlying28 znSp (by decide) (fun fuel cs x h => (zn_spanE fuel cs x h).imp fun _ h => ⟨h, trivial⟩) h
  rw [zn_flat] at h5
  exact ⟨A, c, l, h1, h2, h3, h4, h5⟩
theorem znLP : Try.prog.cellsOf 28 = 1 := by kernel_rfl
theorem znPair : Try.prog.cellsOf 46 = 2 := by kernel_rfl
theorem znUnd : Try.prog.underlying 46 = some (.array 2 28) := by kernel_rfl
/-- Two lists of spans in an array, by value. -/
theorem open_pair {r : Reach} {b0 : Nat} {v : Value} {d : DataW H} {p : List MemPlace} (hv : Value.okWide Try.prog w r b0 46 v) (h : DataW.Trod enc Try.prog w 0 (fun _ => true) true 46 v d p) :
    ∃ (A B : Option Addr) (c e : Nat) (l m : List (Int × Int)), v = .agg #[.slice A l.length c, .slice B m.length e] ∧ OneL w A c l ∧ OneL w B e m := by
  simp only [Value.okWide, znUnd] at hv
  obtain ⟨cs, rfl, _⟩ := hv
  obtain ⟨fuel, hf⟩ := h
  obtain ⟨xs, m, _, _, hl, hxl, hx⟩ := DataW.trod_array znUnd hf
  have hcs : (Value.agg cs).cells.toList = cs.toList := rfl
  rw [hcs] at hl hx
  rw [znPair] at hl
  rw [znLP] at hx
  obtain ⟨a0, a1, hcl⟩ := list2 hl
  rw [hcl] at hx
  obtain ⟨x0, x1, rfl⟩ : ∃ x0 x1, xs = [x0, x1] := by
    match xs, hxl with
    | [x0, x1], _ => exact ⟨x0, x1, rfl⟩
  have e0 := hx 0 (by omega)
  have e1 := hx 1 (by omega)
  simp at e0 e1
  obtain ⟨A, c, l, h0, o0⟩ := zn_setE e0
  obtain ⟨B, e, k, h1, o1⟩ := zn_setE e1
  simp at h0 h1
  subst h0 h1
  exact ⟨A, B, c, e, l, k, congrArg Value.agg (Array.toList_inj.1 hcl), o0, o1⟩
end
end Go.Proofs.Ytcfkpjbakccgiaa
namespace Go.Proofs.Ytcfkpjbakccgiaa
open Go.RowKit

set_option maxRecDepth 100000 in
set_option maxHeartbeats 1600000 in
theorem zat_any (A : Option Addr) (c : Nat) (L : List Zc) (o : Int) (w : World) (h : OneZ w A c L) :
    Calls Try.prog 39 #[.slice A L.length c, .int .i64 o] w (Says (.int .i64 (Tr.atI (L.map Zc.zn) o)) w) := by
  have hlen := h.len
  have HD := Lib.hid h
  obtain ⟨r, hr⟩ : ∃ r, Tr.atI (L.map Zc.zn) o = r := ⟨_, rfl⟩
  rw [hr]
  have HR := Lib.hid hr
  clear h hr
  go_enter Try.func39, Try.ntmps39
  go_wp2_with fail
  go_loopw [5] (fun s5 wr => ∃ (k : Nat), k ≤ L.length ∧ s5 = .int .i64 (k : Int) ∧ (∀ (u : Nat), u < k → Tr.holds ((L.map Zc.zn).getD u (0, 0, [])) o = false) ∧ Below w.heap.size w wr) (fun s5 _ => L.length - (intOf s5).toNat)
  case atStart => exact ⟨0, Nat.zero_le _, rfl, fun u hu => by omega, Below.refl _ _⟩
  case round =>
    obtain ⟨k, hk, rfl, hno, hbw⟩ := hrel
    have HNO := Lib.hid hno
    clear hno
    by_cases hlt : k < L.length
    · have hne : L ≠ [] := fun e => by subst e; simp at hlt
      obtain ⟨b, off, hA, hc⟩ := (HD.out.later hbw).at hne
      subst hA
      obtain ⟨x, hx⟩ : ∃ x, L[k]? = some x := ⟨L[k], List.getElem?_eq_getElem hlt⟩
      obtain ⟨e0, e1, -⟩ := hc k x hx
      have hg := zn_getD hx
      have hi0 : (0 : Int) ≤ (k : Int) := by omega
      have hi1 : (k : Int) < (L.length : Int) := by omega
      obtain ⟨lo, hi, X, cx, l⟩ := x
      dsimp only at e0 e1
      have hh : Tr.holds ((L.map Zc.zn).getD k (0, 0, [])) o = decide (lo ≤ o ∧ o ≤ hi) := by rw [hg]; rfl
      have HH := Lib.hid hh
      clear hx hc hne hg hh
      have hnext : ¬ (lo ≤ o ∧ o ≤ hi) → ∀ (u : Nat), u < k + 1 → Tr.holds ((L.map Zc.zn).getD u (0, 0, [])) o = false := fun hn u hu => by
        by_cases e : u = k
        · subst e
          rw [HH.out, decide_eq_false hn]
        · exact HNO.out u (by omega)
      have HNX := Lib.hid hnext
      clear hnext
      by_cases t1 : lo ≤ o
      · have d1 : decide (lo ≤ o) = true := decide_eq_true t1
        by_cases t2 : o ≤ hi
        · have d2 : decide (o ≤ hi) = true := decide_eq_true t2
          have hrk : r = (k : Int) := by
            rw [← HR.out]
            exact Tr.atI_some (by rw [List.length_map]; exact hlt) (by rw [HH.out, decide_eq_true (⟨t1, t2⟩ : lo ≤ o ∧ o ≤ hi)]) HNO.out
          subst hrk
          clear t1 t2
          go_wp2
          go_ret
          exact ⟨rfl, hbw⟩
        · have d2 : decide (o ≤ hi) = false := decide_eq_false t2
          have NX := Lib.hid (HNX.out (fun h => t2 h.2))
          clear t1 t2
          go_wp2_with fail
          go_roundw
          case rel => exact ⟨k + 1, by omega, by first | rfl | go_num, NX.out, hbw⟩
          case measure => simp [intOf]; omega
      · have d1 : decide (lo ≤ o) = false := decide_eq_false t1
        have NX := Lib.hid (HNX.out (fun h => t1 h.1))
        clear t1
        go_wp2_with fail
        go_roundw
        case rel => exact ⟨k + 1, by omega, by first | rfl | go_num, NX.out, hbw⟩
        case measure => simp [intOf]; omega
    · have hd : decide ((k : Int) < (L.length : Int)) = false := decide_eq_false (by omega)
      have hrk : r = -1 := by
        rw [← HR.out]
        exact Tr.atI_none (fun j hj => HNO.out j (by rw [List.length_map] at hj; omega))
      subst hrk
      go_wp2
      go_ret
      exact ⟨rfl, hbw⟩

set_option maxRecDepth 100000 in
set_option maxHeartbeats 6400000 in
theorem zformed_any (A : Option Addr) (c : Nat) (L : List Zc) (w : World) (h : OneZ w A c L) :
    Calls Try.prog 12 #[.slice A L.length c] w (Says (.bool (Tr.fmd (L.map Zc.zn))) w) := by
  have hlen := h.len
  have HD := Lib.hid h
  obtain ⟨q, hq⟩ : ∃ q, Tr.fmd (L.map Zc.zn) = q := ⟨_, rfl⟩
  rw [hq]
  have HQ := Lib.hid hq
  clear h hq
  go_enter Try.func12, Try.ntmps12
  go_wp2_with fail
  go_loopw [3] (fun s3 wr => ∃ (k : Nat), k ≤ L.length ∧ s3 = .int .i64 (k : Int) ∧ Tr.fmTo (L.map Zc.zn) k ∧ Below w.heap.size w wr) (fun s3 _ => L.length - (intOf s3).toNat)
  case atStart => exact ⟨0, Nat.zero_le _, rfl, fun u hu => by omega, Below.refl _ _⟩
  case round =>
    obtain ⟨k, hk, rfl, hall, hbw⟩ := hrel
    have HALL := Lib.hid hall
    clear hall
    by_cases hlt : k < L.length
    · have hne : L ≠ [] := fun e => by subst e; simp at hlt
      have HO := Lib.hid (HD.out.later hbw)
      obtain ⟨b, off, hA, hc⟩ := HO.out.at hne
      subst hA
      obtain ⟨x, hx⟩ : ∃ x, L[k]? = some x := ⟨L[k], List.getElem?_eq_getElem hlt⟩
      obtain ⟨e0, e1, e2⟩ := hc k x hx
      have hg := zn_getD hx
      have hi0 : (0 : Int) ≤ (k : Int) := by omega
      have hi1 : (k : Int) < (L.length : Int) := by omega
      have hxo := HO.out.one hx
      have HC := Lib.hid hc
      obtain ⟨lo, hi, X, cx, l⟩ := x
      dsimp only at e0 e1 e2 hxo
      have hok : Tr.okAt (L.map Zc.zn) k ↔ ((0 ≤ lo ∧ lo ≤ hi ∧ hi ≤ 255) ∧ Ve.fmd l = true ∧ (0 < k → ((L.map Zc.zn).getD (k - 1) (0, 0, [])).2.1 < lo ∧ (((L.map Zc.zn).getD (k - 1) (0, 0, [])).2.1 = lo - 1 → ((L.map Zc.zn).getD (k - 1) (0, 0, [])).2.2 ≠ l))) := by
        unfold Tr.okAt
        rw [hg]
        rfl
      have NO := Lib.hid (fun (hn : ¬ ((0 ≤ lo ∧ lo ≤ hi ∧ hi ≤ 255) ∧ Ve.fmd l = true ∧ (0 < k → ((L.map Zc.zn).getD (k - 1) (0, 0, [])).2.1 < lo ∧ (((L.map Zc.zn).getD (k - 1) (0, 0, [])).2.1 = lo - 1 → ((L.map Zc.zn).getD (k - 1) (0, 0, [])).2.2 ≠ l)))) => (show q = false from by
        rw [← HQ.out]
        exact Tr.fmd_no k (by rw [List.length_map]; exact hlt) (fun hh => hn (hok.1 hh))))
      have NX := Lib.hid (fun (hn : ((0 ≤ lo ∧ lo ≤ hi ∧ hi ≤ 255) ∧ Ve.fmd l = true ∧ (0 < k → ((L.map Zc.zn).getD (k - 1) (0, 0, [])).2.1 < lo ∧ (((L.map Zc.zn).getD (k - 1) (0, 0, [])).2.1 = lo - 1 → ((L.map Zc.zn).getD (k - 1) (0, 0, [])).2.2 ≠ l)))) => (show Tr.fmTo (L.map Zc.zn) (k + 1) from fun u hu => by
        by_cases e : u = k
        · subst e; exact hok.2 hn
        · exact HALL.out u (by omega)))
      obtain ⟨W1, hW1⟩ : ∃ W1, wr.alloc (.cells #[.int .i64 lo, .int .i64 hi] 55) = W1 := ⟨_, rfl⟩
      have hb1 : Below wr.heap.size wr W1 := by rw [← hW1]; exact below_new (Below.refl _ _) _
      have XB : Blk W1 wr.heap.size 55 #[.int .i64 lo, .int .i64 hi] := by rw [← hW1]; exact Blk.new wr _ _
      have hx1 := hxo.later hb1
      have RF := rformed_any X cx l W1 hx1.len hx1.stamps
      obtain ⟨f, hf⟩ : ∃ f, Ve.fmd l = f := ⟨_, rfl⟩
      rw [hf] at RF
      have NF := Lib.hid RF
      have HF := Lib.hid hf
      have BN := Lib.hid (below_on hbw hb1)
      have HB1 := Lib.hid hb1
      have HXB := Lib.hid XB
      have HX1 := Lib.hid hx1
      have HX := Lib.hid hx
      have k0 := XB.cell (i := 0) rfl
      have k1 := XB.cell (i := 1) rfl
      have HE2 := Lib.hid e2
      have g2 := cell_later hb1 e2
      clear hg hok hc hne hxo hx hb1 XB hx1 RF hf e2
      go_upto_region 5 with (fail)
      try rw [hW1]
      clear hW1 e0 e1
      by_cases t1 : lo < 0
      · have d1 : decide (lo < 0) = true := decide_eq_true t1
        have hqf := NO.out (fun h => by omega)
        subst hqf
        go_wp2
        go_ret
        exact ⟨rfl, BN.out⟩
      have d1 : decide (lo < 0) = false := decide_eq_false t1
      by_cases t2 : hi < lo
      · have d2 : decide (hi < lo) = true := decide_eq_true t2
        have hqf := NO.out (fun h => by omega)
        subst hqf
        go_wp2
        go_ret
        exact ⟨rfl, BN.out⟩
      have d2 : decide (hi < lo) = false := decide_eq_false t2
      by_cases t3 : 255 < hi
      · have d3 : decide (255 < hi) = true := decide_eq_true t3
        have hqf := NO.out (fun h => by omega)
        subst hqf
        go_wp2
        go_ret
        exact ⟨rfl, BN.out⟩
      have d3 : decide (255 < hi) = false := decide_eq_false t3
      have T := Lib.hid (⟨by omega, by omega, by omega⟩ : 0 ≤ lo ∧ lo ≤ hi ∧ hi ≤ 255)
      cases f with
      | false =>
        have hqf := NO.out (fun h => by have := h.2.1; rw [HF.out] at this; cases this)
        subst hqf
        clear t1 t2 t3
        go_wp2_with fail
        refine NF.out.mono ?_
        rintro e w2 ⟨rfl, b2⟩
        have BB := Lib.hid (below_on BN.out b2)
        clear b2 g2 k0 k1
        go_wp2
        go_ret
        exact ⟨rfl, BB.out⟩
      | true =>
      clear t1 t2 t3
      go_wp2_with fail
      refine NF.out.mono ?_
      rintro e w2 ⟨rfl, b2⟩
      have hb2 := below_on HB1.out b2
      have BB := Lib.hid (below_on BN.out b2)
      have m0 : ∀ d os, (Sort.grow (redrawn w2 d) os).cell? ⟨wr.heap.size, 0, none⟩ = some (.int .i64 lo) := cell_regrown ((HXB.out.later b2).cell rfl)
      have m2 : ∀ d os, (Sort.grow (redrawn w2 d) os).cell? ⟨b, off + k * 3 + 2, none⟩ = some (.slice X l.length cx) := cell_regrown (cell_later hb2 HE2.out)
      have HX2 := Lib.hid (HX1.out.later b2)
      clear NF k0 k1 g2 HX1 HXB
      cases k with
      | zero =>
        simp only [Nat.zero_mul, Nat.add_zero] at m2
        have HT := Lib.hid (NX.out ⟨T.out, HF.out, fun h => absurd h (by omega)⟩)
        go_wp2_with fail
        refine wp_region_quiet_below (by kernel_rfl) (by kernel_rfl) ?_
        repeat (first | go_big_quiet_step (fail) | quiet_step (fail))
        refine wpQuiet_nil ?_
        intro _ hw'
        obtain ⟨⟨dq, osq⟩, hw''⟩ := hw'
        subst hw''
        go_wp2_with fail
        go_roundw
        case rel => exact ⟨_, by omega, by first | rfl | go_num, HT.out, below_on BB.out (below_regrown w2 dq osq)⟩
        case measure => simp [intOf]; omega
      | succ m =>
        obtain ⟨y, hy⟩ : ∃ y, L[m]? = some y := ⟨L[m], List.getElem?_eq_getElem (by omega)⟩
        have hgy : (L.map Zc.zn).getD (m + 1 - 1) (0, 0, []) = y.zn := zn_getD hy
        have hyo := (HO.out.one hy).later hb2
        obtain ⟨-, f1, f2⟩ := HC.out m y hy
        obtain ⟨ylo, yhi, Y, cy, yl⟩ := y
        dsimp only at f1 f2 hyo
        have hg2 : ((L.map Zc.zn).getD (m + 1 - 1) (0, 0, [])).2.1 = yhi := by rw [hgy]; rfl
        have hg3 : ((L.map Zc.zn).getD (m + 1 - 1) (0, 0, [])).2.2 = yl := by rw [hgy]; rfl
        rw [hg2, hg3] at NO NX
        have m1 : ∀ d os, (Sort.grow (redrawn w2 d) os).cell? ⟨b, off + m * 3 + 1, none⟩ = some (.int .i64 yhi) := cell_regrown (cell_later hb2 f1)
        have m3 : ∀ d os, (Sort.grow (redrawn w2 d) os).cell? ⟨b, off + m * 3 + 2, none⟩ = some (.slice Y yl.length cy) := cell_regrown (cell_later hb2 f2)
        have hm1 : ((m + 1 : Nat) : Int) - 1 = (m : Int) := by omega
        have hj0 : (0 : Int) ≤ (m : Int) := by omega
        have hj1 : (m : Int) < (L.length : Int) := by omega
        have hgt : decide ((0 : Int) < ((m + 1 : Nat) : Int)) = true := decide_eq_true (by omega)
        obtain ⟨sm, hsm⟩ : ∃ sm, decide (yl = l) = sm := ⟨_, rfl⟩
        have CS := Lib.hid (fun d os => (show Calls Try.prog 16 #[.slice Y yl.length cy, .slice X l.length cx] (Sort.grow (redrawn w2 d) os) (fun e w'' => e = .returned (.bool sm) ∧ ∃ p : Regrown, w'' = Sort.grow (redrawn w2 p.d) p.os) from by
          rw [← hsm]
          have h1 := hyo.later (below_regrown w2 d os)
          have h2 := HX2.out.later (below_regrown w2 d os)
          exact Calls.regrown_of (rsame_any Y X cy cx yl l _ h1.len h1.stamps h2.stamps)))
        have HSM := Lib.hid hsm
        clear hy hgy hg2 hg3 f1 f2 hyo hsm
        by_cases t4 : lo ≤ yhi
        · have d4 : decide (lo ≤ yhi) = true := decide_eq_true t4
          have hqf := NO.out (fun h => by have := (h.2.2 (by omega)).1; omega)
          subst hqf
          clear t4
          go_wp2_with fail
          refine wp_region_quiet_below (by kernel_rfl) (by kernel_rfl) ?_
          repeat (first | go_big_quiet_step (exact CS.out _ _) | quiet_step (exact CS.out _ _))
          refine wpQuiet_nil ?_
          intro _ hw'
          obtain ⟨⟨dq, osq⟩, hw''⟩ := hw'
          subst hw''
          go_wp2
          go_ret
          exact ⟨rfl, below_on BB.out (below_regrown w2 dq osq)⟩
        · have d4 : decide (lo ≤ yhi) = false := decide_eq_false t4
          have T4 := Lib.hid t4
          by_cases t5 : yhi = lo - 1
          · have d5 : (yhi == lo - 1) = true := by rw [beq_iff_eq]; exact t5
            have d5' : decide (yhi = lo - 1) = true := decide_eq_true t5
            have lw : IntKind.i64.wrap (lo - 1) = lo - 1 := IntWalk.i64_in _ (by have := T.out; omega)
            have T5 := Lib.hid t5
            clear t4 t5
            cases sm with
            | true =>
              have hqf := NO.out (fun h => (h.2.2 (by omega)).2 T5.out (of_decide_eq_true HSM.out))
              subst hqf
              have T0 := T.out
              go_wp2_with fail
              refine wp_region_quiet_below (by kernel_rfl) (by kernel_rfl) ?_
              repeat (first | go_big_quiet_step (exact CS.out _ _) | quiet_step (exact CS.out _ _))
              refine wpQuiet_nil ?_
              intro _ hw'
              obtain ⟨⟨dq, osq⟩, hw''⟩ := hw'
              subst hw''
              go_wp2
              go_ret
              exact ⟨rfl, below_on BB.out (below_regrown w2 dq osq)⟩
            | false =>
              have HT := Lib.hid (NX.out ⟨T.out, HF.out, fun _ => ⟨by have := T4.out; omega, fun _ => of_decide_eq_false HSM.out⟩⟩)
              have T0 := T.out
              go_wp2_with fail
              refine wp_region_quiet_below (by kernel_rfl) (by kernel_rfl) ?_
              repeat (first | go_big_quiet_step (exact CS.out _ _) | quiet_step (exact CS.out _ _))
              refine wpQuiet_nil ?_
              intro _ hw'
              obtain ⟨⟨dq, osq⟩, hw''⟩ := hw'
              subst hw''
              go_wp2_with fail
              go_roundw
              case rel => exact ⟨_, by omega, by first | rfl | go_num, HT.out, below_on BB.out (below_regrown w2 dq osq)⟩
              case measure => simp [intOf]; omega
          · have d5 : (yhi == lo - 1) = false := by rw [beq_eq_false_iff_ne]; exact t5
            have d5' : decide (yhi = lo - 1) = false := decide_eq_false t5
            have lw : IntKind.i64.wrap (lo - 1) = lo - 1 := IntWalk.i64_in _ (by have := T.out; omega)
            have HT := Lib.hid (NX.out ⟨T.out, HF.out, fun _ => ⟨by omega, fun h => absurd h t5⟩⟩)
            have T0 := T.out
            clear t4 t5
            go_wp2_with fail
            refine wp_region_quiet_below (by kernel_rfl) (by kernel_rfl) ?_
            repeat (first | go_big_quiet_step (exact CS.out _ _) | quiet_step (exact CS.out _ _))
            refine wpQuiet_nil ?_
            intro _ hw'
            obtain ⟨⟨dq, osq⟩, hw''⟩ := hw'
            subst hw''
            go_wp2_with fail
            go_roundw
            case rel => exact ⟨_, by omega, by first | rfl | go_num, HT.out, below_on BB.out (below_regrown w2 dq osq)⟩
            case measure => simp [intOf]; omega
    · have hd : decide ((k : Int) < (L.length : Int)) = false := decide_eq_false (by omega)
      have hkl : k = L.length := by omega
      have hqt : q = true := by
        rw [← HQ.out]
        exact (Tr.fmd_iff _).2 (by rw [List.length_map, ← hkl]; exact HALL.out)
      subst hqt
      clear hkl
      go_wp2
      go_ret
      exact ⟨rfl, hbw⟩
end Go.Proofs.Ytcfkpjbakccgiaa
