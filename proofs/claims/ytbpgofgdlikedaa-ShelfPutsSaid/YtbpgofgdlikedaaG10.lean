/-
  What stamp.Right and its helper answer, for all stamps; each leaves the memory that was there as it was.
  Plain mathematics of shelves: which are formed, what is got, put, within; an array of 256 writes.
  The mathematics of shelves' laws: what is put is the newest of each object, in any order.
  What a round of a loop over a function keeps; loads and stores of a whole block within a fence. Nothing of the program is imported.
-/
import Derived.Test.YtbpgofgdlikedaaProg
import Derived.Test.YtbpgofgdlikedaaG06
import Derived.Tactics
import Derived.Tactics2
import Derived.WalkKit
import Derived.WalkSpells
import Derived.OwnWalk
import Derived.Deep.QuietTactic
import Derived.BigQuiet
import Derived.Deep.RegionHeld3
import Derived.KernelRfl
import Derived.Lib.Hide
import Derived.Test.YtbpgofgdlikedaaG09
import Derived.RangeFuncFrom
import Derived.RangeFuncNested
import Derived.RangeFuncBound
import Derived.RangeFuncCalls
import Derived.RangeFuncLeaves
import Derived.RangeFuncWrites
import Derived.Maps.AppendAt
import Derived.Shelf.Abstract
import Derived.Shelf.RegionOpen
import Derived.OwnWalkIn
import Derived.TacticsInMore
import Derived.LoopNIn
import Derived.LoopIn
import Derived.Laws.CopyOwn
import Derived.Test.YtbpgofgdlikedaaG01
namespace Go.Proofs.Ytbpgofgdlikedaa
open Go.RowKit

theorem rightNode_any (n : Int) (w : World) : Calls Try.prog 38 #[.int .i64 n] w fun e w' => e = .returned (.bool (St.rgtN n)) ∧ w = w' := by
  by_cases h0 : 0 ≤ n
  · by_cases h1 : n < 64
    · go_enter Try.func38, Try.ntmps38
      go_wp2
      go_ret
      rw [show St.rgtN n = true from decide_eq_true (by omega)]; exact ⟨rfl, rfl⟩
    · go_enter Try.func38, Try.ntmps38
      go_wp2
      go_ret
      rw [show St.rgtN n = false from decide_eq_false (by omega)]; exact ⟨rfl, rfl⟩
  · go_enter Try.func38, Try.ntmps38
    go_wp2
    go_ret
    rw [show St.rgtN n = false from decide_eq_false (by omega)]; exact ⟨rfl, rfl⟩

/-- stamp.Right. -/
theorem right_any (c n : Int) (w : World) :
    Calls Try.prog 32 #[.agg #[.int .i64 c, .int .i64 n]] w fun e w' => e = .returned (.bool (St.rgt c n)) ∧ Below w.heap.size w w' := by
  by_cases h : 1 ≤ c
  · have h1 : decide (1 ≤ c) = true := decide_eq_true h
    have h2 : St.rgt c n = St.rgtN n := by unfold St.rgt St.rgtN; simp [h]
    have H2 := Lib.hid h2; clear h2
    go_enter Try.func32, Try.ntmps32
    go_wp2_with (go_at_call 38; refine (rightNode_any _ _).mono ?_; rintro e w' ⟨rfl, rfl⟩)
    go_ret
    rw [H2.out]
    exact ⟨rfl, by repeat (first | exact Below.refl _ _ | exact Nat.le_refl _ | (apply Below.drew) | (refine Below.alloc ?_ ?_ _) | (refine Below.setCell ?_ ?_ _) | (simp; done) | (simp; omega))⟩
  · have h1 : decide (1 ≤ c) = false := decide_eq_false h
    have h2 : St.rgt c n = false := by unfold St.rgt; simp [h]
    have H2 := Lib.hid h2; clear h2
    go_enter Try.func32, Try.ntmps32
    go_wp2_with (go_at_call 38; refine (rightNode_any _ _).mono ?_; rintro e w' ⟨rfl, rfl⟩)
    go_ret
    rw [H2.out]
    exact ⟨rfl, by repeat (first | exact Below.refl _ _ | exact Nat.le_refl _ | (apply Below.drew) | (refine Below.alloc ?_ ?_ _) | (refine Below.setCell ?_ ?_ _) | (simp; done) | (simp; omega))⟩

end Go.Proofs.Ytbpgofgdlikedaa
namespace Go.Proofs.Ytbpgofgdlikedaa
open Go.RowKit

namespace Sf
/-- May a write stand there? -/
def right (x : Wr) : Bool := decide (0 ≤ x.2.2.1) && (decide (x.2.2.1 ≤ 255) && St.rgt x.1 x.2.1)
theorem right_iff (x : Wr) : right x = true ↔ 0 ≤ x.2.2.1 ∧ x.2.2.1 ≤ 255 ∧ St.rgt x.1 x.2.1 = true := by unfold right; simp
/-- Is the write at this place as it must be? -/
def ok (l : List Wr) (j : Nat) : Prop := right (l.getD j Nt.zeroW) = true ∧ (0 < j → Nt.obj l (j - 1) < Nt.obj l j)
instance (l : List Wr) (j : Nat) : Decidable (ok l j) := by unfold ok; exact inferInstance
/-- Is it a shelf as it must be? -/
def fmd (l : List Wr) : Bool := decide (∀ j : Fin l.length, ok l j.val)
theorem fmd_iff (l : List Wr) : fmd l = true ↔ ∀ j, j < l.length → ok l j := by
  unfold fmd
  rw [decide_eq_true_iff]
  exact ⟨fun h j hj => h ⟨j, hj⟩, fun h j => h j.val j.isLt⟩
theorem fmd_no {l : List Wr} (k : Nat) (hk : k < l.length) (h : ¬ ok l k) : fmd l = false := by
  cases hc : fmd l with
  | false => rfl
  | true => exact absurd ((fmd_iff l).1 hc k hk) h
theorem fmd_nil : fmd [] = true := (fmd_iff _).2 fun j hj => by simp at hj
theorem getD_lt {l : List Wr} {k : Nat} (hk : k < l.length) : l.getD k Nt.zeroW = l[k] := by rw [List.getD_eq_getElem?_getD, List.getElem?_eq_getElem hk]; rfl
theorem obj_up {l : List Wr} (h : ∀ j, j < l.length → ok l j) (i : Nat) : ∀ d, i + d + 1 < l.length → Nt.obj l i < Nt.obj l (i + d + 1)
  | 0, hl => (h (i + 1) hl).2 (by omega)
  | d + 1, hl => by
    have h1 := obj_up h i d (by omega)
    have h2 := (h (i + d + 1 + 1) hl).2 (by omega)
    rw [show i + d + 1 + 1 - 1 = i + d + 1 from by omega] at h2
    rw [show i + (d + 1) + 1 = i + d + 1 + 1 from by omega]
    omega
theorem fmd_list (l : List Wr) : fmd l = true ↔ (∀ x ∈ l, right x = true) ∧ l.Pairwise (fun x y => x.2.2.1 < y.2.2.1) := by
  rw [fmd_iff]
  constructor
  · intro h
    refine ⟨fun x hx => ?_, ?_⟩
    · obtain ⟨j, hj, rfl⟩ := List.mem_iff_getElem.1 hx
      have := (h j hj).1
      rw [getD_lt hj] at this
      exact this
    · rw [List.pairwise_iff_getElem]
      intro i j hi hj hij
      have := obj_up h i (j - i - 1) (by omega)
      rw [show i + (j - i - 1) + 1 = j from by omega] at this
      unfold Nt.obj at this
      rw [getD_lt hi, getD_lt hj] at this
      exact this
  · rintro ⟨h1, h2⟩ j hj
    refine ⟨by rw [getD_lt hj]; exact h1 _ (List.getElem_mem hj), fun h0 => ?_⟩
    have := (List.pairwise_iff_getElem.1 h2) (j - 1) j (by omega) hj (by omega)
    unfold Nt.obj
    rw [getD_lt hj, getD_lt (show j - 1 < l.length by omega)]
    exact this
/-- An object's write, and the error. -/
def getR (l : List Wr) (o : Int) : Wr × Int := if fmd l = true then (if (Nt.at_ l o).2 = true then ((Nt.at_ l o).1, 0) else (Nt.zeroW, 8)) else (Nt.zeroW, 1)
/-- Which write is known of each object. -/
abbrev Mp := Nat → Option Wr
def set1 (f : Mp) (x : Wr) : Mp := fun j => if (j : Int) = x.2.2.1 then some x else f j
/-- The newer of what is known and a write. -/
def newer (x : Wr) : Option Wr → Wr
  | none => x
  | some y => if St.cmpS y.1 y.2.1 x.1 x.2.1 < 0 then x else y
def put1 (f : Mp) (x : Wr) : Mp := fun j => if (j : Int) = x.2.2.1 then some (newer x (f j)) else f j
def none_ : Mp := fun _ => none
def of (l : List Wr) : Mp := l.foldl set1 none_
def puts (f : Mp) (l : List Wr) : Mp := l.foldl put1 f
/-- What is known of the first k objects. -/
def outTo (f : Mp) (k : Nat) : List Wr := (List.range k).filterMap f
theorem outTo_some {f : Mp} {k : Nat} {x : Wr} (h : f k = some x) : outTo f (k + 1) = outTo f k ++ [x] := by
  unfold outTo
  rw [List.range_succ, List.filterMap_append]
  simp [h]
theorem outTo_none {f : Mp} {k : Nat} (h : f k = none) : outTo f (k + 1) = outTo f k := by
  unfold outTo
  rw [List.range_succ, List.filterMap_append]
  simp [h]
theorem outTo_len (f : Mp) (k : Nat) : (outTo f k).length ≤ k := by
  have := List.length_filterMap_le f (List.range k)
  rwa [List.length_range] at this
/-- Writes are put in, and the error. -/
def putR (l list : List Wr) : List Wr × Int := if fmd l = true then (if list.all right = true then (outTo (puts (of l) list) 256, 0) else ([], 1)) else ([], 1)
/-- Those of some objects, and the error. -/
def withR (l : List Wr) (set : List (Int × Int)) : List Wr × Int := if fmd l = true then (l.filter fun x => Sp.inL set x.2.2.1.toNat, 0) else ([], 1)
theorem foldl_take {α β : Type} (g : β → α → β) (b : β) (l : List α) (k : Nat) (h : k < l.length) : (l.take (k + 1)).foldl g b = g ((l.take k).foldl g b) l[k] := by
  rw [List.take_succ_eq_append_getElem h, List.foldl_append]
  rfl

/-- The cells of a write, one by one. -/
def fld (x : Wr) : Nat → Value
  | 0 => .int .i64 x.1
  | 1 => .int .i64 x.2.1
  | 2 => .int .i64 x.2.2.1
  | _ => .bool x.2.2.2
/-- An array of 256 writes. -/
def arr (f : Nat → Wr) : Array Value := ((List.range 1024).map fun i => fld (f (i / 4)) (i % 4)).toArray
theorem arr_size (f : Nat → Wr) : (arr f).size = 1024 := by simp [arr]
theorem arr_get (f : Nat → Wr) (i : Nat) (h : i < 1024) : (arr f)[i]? = some (fld (f (i / 4)) (i % 4)) := by simp [arr, h]
theorem arr_ext {f g : Nat → Wr} (h : ∀ i, i < 256 → f i = g i) : arr f = arr g := by
  refine congrArg List.toArray (List.map_congr_left ?_)
  intro i hi
  rw [h (i / 4) (by have := List.mem_range.1 hi; omega)]
theorem arr_set (f : Nat → Wr) (j : Nat) (x : Wr) (h : j < 256) : ((((arr f).setIfInBounds (j * 4) (.int .i64 x.1)).setIfInBounds (j * 4 + 1) (.int .i64 x.2.1)).setIfInBounds (j * 4 + 2) (.int .i64 x.2.2.1)).setIfInBounds (j * 4 + 3) (.bool x.2.2.2) = arr (fun i => if i = j then x else f i) := by
  apply Array.ext_getElem?
  intro i
  by_cases hi : i < 1024
  · rw [arr_get _ i hi]
    simp only [Array.getElem?_setIfInBounds, Array.size_setIfInBounds, arr_size, arr_get _ i hi]
    by_cases e : i / 4 = j
    · have : i = j * 4 ∨ i = j * 4 + 1 ∨ i = j * 4 + 2 ∨ i = j * 4 + 3 := by omega
      rcases this with rfl | rfl | rfl | rfl
      · have h1 : j * 4 / 4 = j := by omega
        have h2 : j * 4 % 4 = 0 := by omega
        simp [h1, h2, fld]
        omega
      · have h1 : (j * 4 + 1) / 4 = j := by omega
        have h2 : (j * 4 + 1) % 4 = 1 := by omega
        simp [h1, h2, fld]
        omega
      · have h1 : (j * 4 + 2) / 4 = j := by omega
        have h2 : (j * 4 + 2) % 4 = 2 := by omega
        simp [h1, h2, fld]
        omega
      · have h1 : (j * 4 + 3) / 4 = j := by omega
        have h2 : (j * 4 + 3) % 4 = 3 := by omega
        simp [h1, h2, fld]
        omega
    · rw [if_neg (by omega), if_neg (by omega), if_neg (by omega), if_neg (by omega), if_neg e]
  · rw [Array.getElem?_eq_none (by simp [arr_size]; omega), Array.getElem?_eq_none (by rw [arr_size]; omega)]
theorem one_arr (f : Nat → Wr) : (arr f).all (·.oneCell') = true := by
  rw [Array.all_eq_true_iff_forall_mem]
  intro x hx
  unfold arr at hx
  simp at hx
  obtain ⟨i, _, rfl⟩ := hx
  have : i % 4 = 0 ∨ i % 4 = 1 ∨ i % 4 = 2 ∨ i % 4 = 3 := by omega
  rcases this with h | h | h | h <;> rw [h] <;> rfl
end Sf

/-- A list of writes and an error's number are answered; what was there before is as it was. -/
def AnsWE (l : List Wr) (x : Int) (w : World) (e : Ending) (w' : World) : Prop := ∃ A c, e = .returned (.tuple #[.slice A l.length c, .int .i64 x]) ∧ OneW w' A c l ∧ Below w.heap.size w w'
end Go.Proofs.Ytbpgofgdlikedaa
namespace Go.Proofs.Ytbpgofgdlikedaa
open Go.RowKit

namespace Sf
/-- What is known of each object is of that object, and right. -/
def Keyed (f : Mp) : Prop := ∀ j x, f j = some x → x.2.2.1 = (j : Int) ∧ j < 256 ∧ right x = true
theorem keyed_none : Keyed none_ := fun j x h => by cases h
theorem Keyed.set {f : Mp} (h : Keyed f) {x : Wr} (hx : right x = true) : Keyed (set1 f x) := fun j y hy => by
  unfold set1 at hy
  by_cases e : (j : Int) = x.2.2.1
  · rw [if_pos e] at hy
    injection hy with hy
    subst hy
    have := (right_iff x).1 hx
    exact ⟨e.symm, by omega, hx⟩
  · rw [if_neg e] at hy
    exact h j y hy
theorem newer_or (x : Wr) (y : Option Wr) : newer x y = x ∨ some (newer x y) = y := by
  cases y with
  | none => exact .inl rfl
  | some y =>
    show (if St.cmpS y.1 y.2.1 x.1 x.2.1 < 0 then x else y) = x ∨ some (if St.cmpS y.1 y.2.1 x.1 x.2.1 < 0 then x else y) = some y
    split
    · exact .inl rfl
    · exact .inr rfl
theorem Keyed.put {f : Mp} (h : Keyed f) {x : Wr} (hx : right x = true) : Keyed (put1 f x) := fun j y hy => by
  unfold put1 at hy
  by_cases e : (j : Int) = x.2.2.1
  · rw [if_pos e] at hy
    injection hy with hy
    subst hy
    rcases newer_or x (f j) with h2 | h2
    · rw [h2]
      have := (right_iff x).1 hx
      exact ⟨e.symm, by omega, hx⟩
    · exact h j _ h2.symm
  · rw [if_neg e] at hy
    exact h j y hy
theorem Keyed.sets {f : Mp} (h : Keyed f) : ∀ (l : List Wr), (∀ x ∈ l, right x = true) → Keyed (l.foldl set1 f)
  | [], _ => h
  | x :: r, hr => (h.set (hr x (by simp))).sets r fun y hy => hr y (by simp [hy])
theorem Keyed.puts {f : Mp} (h : Keyed f) : ∀ (l : List Wr), (∀ x ∈ l, right x = true) → Keyed (Sf.puts f l)
  | [], _ => h
  | x :: r, hr => Keyed.puts (f := put1 f x) (h.put (hr x (by simp))) r fun y hy => hr y (by simp [hy])
theorem keyed_of {l : List Wr} (h : fmd l = true) : Keyed (of l) := keyed_none.sets l ((fmd_list l).1 h).1
theorem mem_outTo {f : Mp} {k : Nat} {x : Wr} : x ∈ outTo f k ↔ ∃ j, j < k ∧ f j = some x := by
  unfold outTo
  rw [List.mem_filterMap]
  simp
theorem fmd_outTo {f : Mp} (h : Keyed f) : fmd (outTo f 256) = true := by
  rw [fmd_list]
  refine ⟨fun x hx => ?_, ?_⟩
  · obtain ⟨j, _, hj⟩ := mem_outTo.1 hx
    exact (h j x hj).2.2
  · unfold outTo
    rw [List.pairwise_filterMap]
    refine List.Pairwise.imp ?_ (List.pairwise_lt_range (n := 256))
    intro i j hij x hx y hy
    have h1 := (h i x hx).1
    have h2 := (h j y hy).1
    omega
/-- Which writes are known: an object's, and none else. -/
theorem of_iff {l : List Wr} (h : fmd l = true) (j : Nat) (x : Wr) : of l j = some x ↔ x ∈ l ∧ x.2.2.1 = (j : Int) := by
  have hp := ((fmd_list l).1 h).2
  clear h
  unfold of
  suffices H : ∀ (r : List Wr) (f : Mp), r.Pairwise (fun x y => x.2.2.1 < y.2.2.1) → (r.foldl set1 f j = some x ↔ (x ∈ r ∧ x.2.2.1 = (j : Int)) ∨ ((∀ y ∈ r, y.2.2.1 ≠ (j : Int)) ∧ f j = some x)) by
    rw [H l none_ hp]
    constructor
    · rintro (h | ⟨_, h⟩)
      · exact h
      · cases h
    · exact .inl
  intro r
  induction r with
  | nil => intro f _; simp
  | cons y r ih =>
    intro f hr
    rw [List.pairwise_cons] at hr
    rw [List.foldl_cons, ih _ hr.2]
    unfold set1
    by_cases e : (j : Int) = y.2.2.1
    · rw [if_pos e]
      constructor
      · rintro (⟨h1, h2⟩ | ⟨h1, h2⟩)
        · exact .inl ⟨by simp [h1], h2⟩
        · injection h2 with h2
          subst h2
          exact .inl ⟨by simp, e.symm⟩
      · rintro (⟨h1, h2⟩ | ⟨h1, h2⟩)
        · rcases List.mem_cons.1 h1 with rfl | h1
          · exact .inr ⟨fun z hz => by have := hr.1 z hz; omega, rfl⟩
          · exact .inl ⟨h1, h2⟩
        · exact absurd e.symm (h1 y (by simp))
    · rw [if_neg e]
      constructor
      · rintro (⟨h1, h2⟩ | ⟨h1, h2⟩)
        · exact .inl ⟨by simp [h1], h2⟩
        · exact .inr ⟨fun z hz => by rcases List.mem_cons.1 hz with rfl | hz; exact fun q => e q.symm; exact h1 z hz, h2⟩
      · rintro (⟨h1, h2⟩ | ⟨h1, h2⟩)
        · rcases List.mem_cons.1 h1 with rfl | h1
          · exact absurd h2.symm e
          · exact .inl ⟨h1, h2⟩
        · exact .inr ⟨fun z hz => h1 z (by simp [hz]), h2⟩
theorem of_out {f : Mp} (h : Keyed f) : of (outTo f 256) = f := by
  funext j
  have hi := of_iff (fmd_outTo h) j
  cases hf : f j with
  | some x => exact (hi x).2 ⟨mem_outTo.2 ⟨j, (h j x hf).2.1, hf⟩, (h j x hf).1⟩
  | none =>
    cases ho : of (outTo f 256) j with
    | none => rfl
    | some x =>
      obtain ⟨h1, h2⟩ := (hi x).1 ho
      obtain ⟨k, _, hk⟩ := mem_outTo.1 h1
      have := (h k x hk).1
      have : k = j := by omega
      subst this
      rw [hf] at hk
      cases hk
theorem sorted_ext {l r : List Wr} (hl : l.Pairwise (fun x y => x.2.2.1 < y.2.2.1)) (hr : r.Pairwise (fun x y => x.2.2.1 < y.2.2.1)) (h : ∀ x, x ∈ l ↔ x ∈ r) : l = r := by
  induction l generalizing r with
  | nil =>
    cases r with
    | nil => rfl
    | cons y r => have := (h y).2 (by simp); simp at this
  | cons x l ih =>
    cases r with
    | nil => have := (h x).1 (by simp); simp at this
    | cons y r =>
      rw [List.pairwise_cons] at hl hr
      have e : x = y := by
        rcases List.mem_cons.1 ((h x).1 (by simp)) with e | hx
        · exact e
        · rcases List.mem_cons.1 ((h y).2 (by simp)) with e | hy
          · exact e.symm
          · have h1 := hr.1 x hx
            have h2 := hl.1 y hy
            omega
      subst e
      congr 1
      refine ih hl.2 hr.2 fun z => ?_
      constructor
      · intro hz
        rcases List.mem_cons.1 ((h z).1 (by simp [hz])) with e | h1
        · subst e; have := hl.1 z hz; omega
        · exact h1
      · intro hz
        rcases List.mem_cons.1 ((h z).2 (by simp [hz])) with e | h1
        · subst e; have := hr.1 z hz; omega
        · exact h1
theorem out_of {l : List Wr} (h : fmd l = true) : outTo (of l) 256 = l := by
  have hk := keyed_of h
  refine sorted_ext ((fmd_list _).1 (fmd_outTo hk)).2 ((fmd_list l).1 h).2 fun x => ?_
  rw [mem_outTo]
  constructor
  · rintro ⟨j, _, hj⟩
    exact ((of_iff h j x).1 hj).1
  · intro hx
    have hr := (right_iff x).1 (((fmd_list l).1 h).1 x hx)
    exact ⟨x.2.2.1.toNat, by omega, (of_iff h _ x).2 ⟨hx, by omega⟩⟩
theorem fmd_len {l : List Wr} (h : fmd l = true) : l.length ≤ 256 := by
  have := outTo_len (of l) 256
  rwa [out_of h] at this
theorem fmd_obj {l : List Wr} (h : fmd l = true) (k : Nat) (hk : k < l.length) : 0 ≤ Nt.obj l k ∧ Nt.obj l k ≤ 255 := by
  have := (right_iff _).1 ((fmd_iff l).1 h k hk).1
  exact ⟨this.1, this.2.1⟩
/-- The write of an object among those known. -/
theorem at_out {f : Mp} (h : Keyed f) (o : Int) : Nt.at_ (outTo f 256) o = (match (if 0 ≤ o then f o.toNat else none) with | some x => (x, true) | none => (Nt.zeroW, false)) := by
  unfold Nt.at_
  cases hq : (outTo f 256).find? (fun x => decide (x.2.2.1 = o)) with
  | some x =>
    have h1 := List.find?_some hq
    have h2 := List.mem_of_find?_eq_some hq
    simp at h1
    obtain ⟨j, _, hj⟩ := mem_outTo.1 h2
    have h3 := (h j x hj).1
    rw [if_pos (show 0 ≤ o by omega), show o.toNat = j by omega, hj]
  | none =>
    rw [List.find?_eq_none] at hq
    by_cases h0 : 0 ≤ o
    · rw [if_pos h0]
      cases hf : f o.toNat with
      | none => rfl
      | some x =>
        have h1 := h _ x hf
        have h2 := hq x (mem_outTo.2 ⟨_, h1.2.1, hf⟩)
        simp at h2
        omega
    · rw [if_neg h0]
/-- Each object's is the newest of all that were put. -/
def Best (f : Mp) (l : List Wr) : Prop := ∀ j : Nat, (∀ y, f j = some y → y ∈ l ∧ y.2.2.1 = (j : Int) ∧ ∀ p ∈ l, p.2.2.1 = (j : Int) → St.cmpS p.1 p.2.1 y.1 y.2.1 ≤ 0) ∧ (f j = none → ∀ p ∈ l, p.2.2.1 ≠ (j : Int))
theorem best_none : Best none_ [] := fun j => ⟨(fun y h => by cases h), (fun _ p hp => by simp at hp)⟩
theorem cmp_self (x : Wr) : St.cmpS x.1 x.2.1 x.1 x.2.1 = 0 := St.cmpS_zero.2 ⟨rfl, rfl⟩
theorem Best.put {f : Mp} {l : List Wr} (h : Best f l) (x : Wr) : Best (put1 f x) (l ++ [x]) := fun j => by
  obtain ⟨h1, h2⟩ := h j
  unfold put1
  by_cases e : (j : Int) = x.2.2.1
  · rw [if_pos e]
    refine ⟨fun y hy => ?_, fun hn => by cases hn⟩
    injection hy with hy
    cases hf : f j with
    | none =>
      rw [hf] at hy
      have hy : x = y := hy
      subst hy
      refine ⟨by simp, e.symm, fun p hp ho => ?_⟩
      rcases List.mem_append.1 hp with hp | hp
      · exact absurd ho (h2 hf p hp)
      · obtain rfl : p = x := by simpa using hp
        rw [cmp_self]
        omega
    | some z =>
      obtain ⟨q1, q2, q3⟩ := h1 z hf
      rw [hf] at hy
      have hy : (if St.cmpS z.1 z.2.1 x.1 x.2.1 < 0 then x else z) = y := hy
      by_cases c : St.cmpS z.1 z.2.1 x.1 x.2.1 < 0
      · rw [if_pos c] at hy
        subst hy
        refine ⟨by simp, e.symm, fun p hp ho => ?_⟩
        rcases List.mem_append.1 hp with hp | hp
        · exact St.cmpS_trans (q3 p hp ho) (by omega)
        · obtain rfl : p = x := by simpa using hp
          rw [cmp_self]
          omega
      · rw [if_neg c] at hy
        subst hy
        refine ⟨by simp [q1], q2, fun p hp ho => ?_⟩
        rcases List.mem_append.1 hp with hp | hp
        · exact q3 p hp ho
        · obtain rfl : p = x := by simpa using hp
          have := St.cmpS_neg z.1 z.2.1 p.1 p.2.1
          omega
  · rw [if_neg e]
    refine ⟨fun y hy => ?_, fun hn p hp => ?_⟩
    · obtain ⟨q1, q2, q3⟩ := h1 y hy
      refine ⟨by simp [q1], q2, fun p hp ho => ?_⟩
      rcases List.mem_append.1 hp with hp | hp
      · exact q3 p hp ho
      · obtain rfl : p = x := by simpa using hp
        exact absurd ho.symm e
    · rcases List.mem_append.1 hp with hp | hp
      · exact h2 hn p hp
      · obtain rfl : p = x := by simpa using hp
        exact fun q => e q.symm
theorem Best.puts {f : Mp} : ∀ (r l : List Wr), Best f l → Best (Sf.puts f r) (l ++ r)
  | [], l, h => by rw [List.append_nil]; exact h
  | x :: r, l, h => by
    have := Best.puts (f := put1 f x) r (l ++ [x]) (h.put x)
    rwa [List.append_assoc] at this
theorem puts_append (f : Mp) (l r : List Wr) : Sf.puts f (l ++ r) = Sf.puts (Sf.puts f l) r := by unfold Sf.puts; rw [List.foldl_append]
theorem putR_nil {l : List Wr} (h : l.all right = true) : putR [] l = (outTo (Sf.puts none_ l) 256, 0) := by
  unfold putR
  rw [if_pos fmd_nil, if_pos h]
  rfl
theorem putR_nil_no {l : List Wr} (h : ¬ l.all right = true) : putR [] l = ([], 1) := by
  unfold putR
  rw [if_pos fmd_nil, if_neg h]
theorem all_right {l : List Wr} (h : l.all right = true) : ∀ x ∈ l, right x = true := List.all_eq_true.1 h
theorem putR_two {l r : List Wr} (h : l.all right = true) (h2 : r.all right = true) : putR (putR [] l).1 r = (outTo (Sf.puts none_ (l ++ r)) 256, 0) := by
  have hk := keyed_none.puts l (all_right h)
  rw [putR_nil h]
  unfold putR
  rw [if_pos (fmd_outTo hk), if_pos h2, of_out hk, puts_append]
theorem putR_two_no {l r : List Wr} (h : l.all right = true) (h2 : ¬ r.all right = true) : putR (putR [] l).1 r = ([], 1) := by
  have hk := keyed_none.puts l (all_right h)
  rw [putR_nil h]
  unfold putR
  rw [if_pos (fmd_outTo hk), if_neg h2]
theorem putR_ways (l r : List Wr) : (putR l r).2 = 0 ∧ fmd (putR l r).1 = true ∨ (putR l r) = ([], 1) := by
  unfold putR
  by_cases h : fmd l = true
  · rw [if_pos h]
    by_cases h2 : r.all right = true
    · rw [if_pos h2]
      exact .inl ⟨rfl, fmd_outTo ((keyed_of h).puts r (all_right h2))⟩
    · rw [if_neg h2]
      exact .inr rfl
  · rw [if_neg h]
    exact .inr rfl
/-- In either order an object's write has the same stamp. -/
theorem best_same {f g : Mp} {l r : List Wr} (hf : Best f (l ++ r)) (hg : Best g (r ++ l)) (j : Nat) : (f j = none ∧ g j = none) ∨ ∃ x y, f j = some x ∧ g j = some y ∧ x.1 = y.1 ∧ x.2.1 = y.2.1 := by
  have hm : ∀ p, p ∈ l ++ r ↔ p ∈ r ++ l := fun p => by simp [or_comm]
  cases ef : f j with
  | none =>
    have h1 := (hf j).2 ef
    cases eg : g j with
    | none => exact .inl ⟨rfl, rfl⟩
    | some y =>
      obtain ⟨q1, q2, _⟩ := (hg j).1 y eg
      exact absurd q2 (h1 y ((hm y).2 q1))
  | some x =>
    obtain ⟨q1, q2, q3⟩ := (hf j).1 x ef
    cases eg : g j with
    | none => exact absurd q2 ((hg j).2 eg x ((hm x).1 q1))
    | some y =>
      obtain ⟨p1, p2, p3⟩ := (hg j).1 y eg
      have h1 := q3 y ((hm y).2 p1) p2
      have h2 := p3 x ((hm x).1 q1) q2
      have h3 := St.cmpS_neg x.1 x.2.1 y.1 y.2.1
      have h4 : St.cmpS x.1 x.2.1 y.1 y.2.1 = 0 := by omega
      exact .inr ⟨x, y, rfl, rfl, (St.cmpS_zero.1 h4).1, (St.cmpS_zero.1 h4).2⟩
end Sf
end Go.Proofs.Ytbpgofgdlikedaa
namespace Go.Proofs.Ytbpgofgdlikedaa
open Go.RowKit Go.Shelf
attribute [local go_sem] Oper.semAt_some

section
variable {F : Fence} {n : Nat} {P : Program} {ops : Array Oper} {rest : List Oper} {o : Oper} {a : Act} {w : World} {Q : Exit → Act → World → Prop}
theorem in_load_row (hgd : o.guard = none) (ty : TypeId) (x : Operand) (ho : o.op = .load ty x)
    (g : Nat) (hx : a.eval x = .pointer (some ⟨g, 0, none⟩)) (t : TypeId) (cs : Array Value) (d : TypeDesc) (hg : Blk w g t cs)
    (hu : P.underlying ty = some d) (hd : (match d with | .struct _ | .array _ _ => true | _ => false) = true) (hi : (P.info? ty).map (·.size) = some cs.size)
    (h : wpListIn F n P ops Q rest (a.put o.dst (.agg cs)) w) : wpListIn F n P ops Q (o :: rest) a w := by
  refine wpListIn_plain hgd fun K hK => ?_
  unfold Oper.wpIn
  refine ⟨by simp [Oper.about, ho], ?_⟩
  rw [Oper.semAt_plain F _ _ (by rw [ho]; intro c hc; cases hc)]
  simp only [execOp, ho, hx, Instr.loadAt, Instr.sureAddr, Sem.run_bind, Sem.run_pure, Result.andThen_ok, run_loadVar_row w g t ty cs (0, 0) d hg hu hd hi]
  exact hK _ _ h
theorem in_store_row (hgd : o.guard = none) (ty : TypeId) (x y : Operand) (ho : o.op = .store ty x y)
    (g : Nat) (cells : Array Value) (hx : a.eval x = .pointer (some ⟨g, 0, none⟩)) (hy : a.eval y = .agg cells)
    (t : TypeId) (old : Array Value) (hg : Blk w g t old) (hi : (P.info? ty).map (·.size) = some cells.size)
    (hold : old.size = cells.size) (h1 : cells.all (·.oneCell') = true)
    (h : wpListIn F n P ops Q rest (a.put o.dst undef) (w.setRow g cells)) : wpListIn F n P ops Q (o :: rest) a w := by
  refine wpListIn_plain hgd fun K hK => ?_
  unfold Oper.wpIn
  refine ⟨by simp [Oper.about, ho], ?_⟩
  rw [Oper.semAt_plain F _ _ (by rw [ho]; intro c hc; cases hc)]
  simp only [execOp, ho, hx, hy, Instr.storeAt, Instr.sureAddr, Sem.run_bind, Sem.run_pure, Result.andThen_ok, run_storeVar_row w g t ty old cells hg hi hold h1]
  exact hK _ _ h
end

/-- What a round keeps: all that lay before the statement's call, and the blocks from B to E (the iterator's own). -/
def Keep (n₀ B E : Nat) (W W' : World) : Prop := Below n₀ W W' ∧ ∀ k, B ≤ k → k < E → W'.heap[k]? = W.heap[k]?
theorem Keep.refl (n₀ B E : Nat) (W : World) : Keep n₀ B E W W := ⟨Below.refl _ _, fun _ _ _ => rfl⟩
theorem Keep.trans {n₀ B E : Nat} {W1 W2 W3 : World} (h : Keep n₀ B E W1 W2) (h' : Keep n₀ B E W2 W3) : Keep n₀ B E W1 W3 := ⟨h.1.trans h'.1, fun k h1 h2 => (h'.2 k h1 h2).trans (h.2 k h1 h2)⟩

def Mark (D : Nat) : Deferred := { target := .collected D, args := #[] }
/-- The marks that have been left: each has its own block, which holds no call. -/
def Marks (n₀ : Nat) (Ds : List Nat) (W : World) : Prop := Ds.Nodup ∧ ∀ D ∈ Ds, n₀ ≤ D ∧ W.heap[D]? = some (.deferred (some []))
theorem Marks.nil (n₀ : Nat) (W : World) : Marks n₀ [] W := ⟨List.nodup_nil, fun _ h => by cases h⟩
theorem Marks.lt {n₀ : Nat} {Ds : List Nat} {W : World} (h : Marks n₀ Ds W) : ∀ D ∈ Ds, D < W.heap.size := fun D hD => (Array.getElem?_eq_some_iff.1 (h.2 D hD).2).1
theorem Marks.later {n₀ : Nat} {Ds : List Nat} {W W' : World} (h : Marks n₀ Ds W) (hb : Below W.heap.size W W') : Marks n₀ Ds W' := ⟨h.1, fun D hD => ⟨(h.2 D hD).1, (hb.block D (h.lt D hD)).trans (h.2 D hD).2⟩⟩
theorem Marks.others {n₀ : Nat} {Ds : List Nat} {W W' : World} (h : Marks n₀ Ds W) (hb : KeepsOthers W W') : Marks n₀ Ds W' := ⟨h.1, fun D hD => ⟨(h.2 D hD).1, hb.same D _ (h.2 D hD).2 rfl⟩⟩
theorem Marks.cons {n₀ D : Nat} {Ds : List Nat} {W : World} (h : Marks n₀ Ds W) (hn : n₀ ≤ D) (hD : D ∉ Ds) (hK : W.heap[D]? = some (.deferred (some []))) : Marks n₀ (D :: Ds) W :=
  ⟨List.nodup_cons.2 ⟨hD, h.1⟩, fun k hk => by
    rcases List.mem_cons.1 hk with rfl | hk
    · exact ⟨hn, hK⟩
    · exact h.2 k hk⟩
theorem marks_own {β : Type} {n₀ B : Nat} {Ds : List Nat} (hlt : ∀ D ∈ Ds, D < B) : OwnFrom (β := β) B (fun _ W => Marks n₀ Ds W) := fun _ A C row hs hg hr =>
  ⟨hs.1, fun D hD => ⟨(hs.2 D hD).1, (hg.block D (hs.lt D hD) (fun e => by have := (hr D e.symm).1; have := hlt D hD; omega)).trans (hs.2 D hD).2⟩⟩
theorem blk_own {β : Type} (g : Nat) (t : TypeId) (f : β → Array Value) : Own (fun s W => Blk W g t (f s)) := fun s A C row hs hg hr =>
  (hg.block g hs.lt (fun e => by
    obtain ⟨o, ho, hc⟩ := hr g e.symm
    rw [show A.heap[g]? = _ from hs] at ho
    cases ho
    cases hc)).trans hs

/-- The function's return: all its marks are taken up. -/
theorem leaves_marks {P : Program} {F : Fence} {n : Nat} {fn : Func} {tmps : Array Value} {R : Ending → World → Prop} {n₀ : Nat} (Q : World → Prop)
    (hQ : ∀ w D, Q w → n₀ ≤ D → w.heap[D]? = some (.deferred (some [])) → Q (w.putObj D (.deferred none)))
    (hR : ∀ w, Q w → LeavesInM F n P fn tmps R [] .returning w) : ∀ (Ds : List Nat) (w : World), Marks n₀ Ds w → Q w → LeavesInM F n P fn tmps R (Ds.map Mark) .returning w
  | [], w, _, h => hR w h
  | D :: Ds, w, hm, h => by
    have hD := hm.2 D (List.mem_cons_self ..)
    have hnd := List.nodup_cons.1 hm.1
    refine ⟨by simp, .inl ⟨D, _, rfl, run_takeDeferred hD.2, ?_⟩⟩
    refine leaves_marks Q hQ hR Ds _ ⟨hnd.2, fun k hk => ⟨(hm.2 k (List.mem_cons_of_mem _ hk)).1, ?_⟩⟩ (hQ w D h hD.1 hD.2)
    have hne : D ≠ k := fun e => hnd.1 (by rw [e]; exact hk)
    exact (World.putObj_heap_other (fun e => hne e.symm)).trans (hm.2 k (List.mem_cons_of_mem _ hk)).2

end Go.Proofs.Ytbpgofgdlikedaa
