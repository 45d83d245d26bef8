/-
  A byte of one body is written: the bodies stay, but for that byte. Nothing of the program is imported.
-/
import Derived.Test.YtmccednfaemiaaaCaOwn
namespace Go.Proofs.Ytmccednfaemiaaa
open Go.RowKit

namespace Ca
def pokeL (X : Option Addr) (v : List Int) (b p : Nat) (y : Int) : List Int := match X with
  | some a => if a.block = b ∧ a.off ≤ p then v.set (p - a.off) y else v
  | none => v
theorem pokeL_len (X : Option Addr) (v : List Int) (b p : Nat) (y : Int) : (pokeL X v b p y).length = v.length := by
  unfold pokeL
  cases X with
  | none => rfl
  | some a => dsimp only; split <;> simp
def pokeC (b p : Nat) (y : Int) (z : Bc) : Bc := ⟨z.X, z.d, ⟨z.b.o, z.b.c, z.b.n, pokeL z.X z.b.v b p y⟩⟩
theorem cells_poke (b p : Nat) (y : Int) : ∀ L : List Bc, cells (L.map (pokeC b p y)) = cells L
  | [] => rfl
  | z :: r => by
    rw [List.map_cons, cells_cons, cells_cons, cells_poke b p y r]
    congr 1
    show [Value.int .i64 z.b.o, .int .i64 z.b.c, .int .i64 z.b.n, .slice z.X (pokeL z.X z.b.v b p y).length z.d] = cell z
    rw [pokeL_len]
    rfl
theorem cells_noB (L : List Bc) : ∀ u ∈ cells L, ∀ x, u ≠ .int .u8 x := by
  intro u hu x e
  obtain ⟨z, _, hz⟩ := List.mem_flatMap.1 hu
  subst e
  simp [cell] at hz
end Ca
theorem OneB.poke {w : World} {X : Option Addr} {d : Nat} {v : List Int} (h : OneB w X d v) {b p : Nat} {old y : Int} (hc : w.cell? ⟨b, p, none⟩ = some (.int .u8 old)) (hy : isB y) : OneB (w.setCell ⟨b, p, none⟩ (.int .u8 y)) X d (Ca.pokeL X v b p y) := by
  refine ⟨by rw [Ca.pokeL_len]; exact h.le, h.cap, fun e => by rw [Ca.pokeL_len]; exact h.noA e, fun hne => ?_, fun x hx => ?_⟩
  · have hv : v ≠ [] := fun e => hne (by
      rw [bCells_nil]
      have := Ca.pokeL_len X v b p y
      rw [e] at this
      rw [e]
      exact List.eq_nil_of_length_eq_zero this)
    obtain ⟨b', off', hX, hl⟩ := h.lies (fun e => hv (bCells_nil.1 e))
    refine ⟨b', off', hX, fun j u hu => ?_⟩
    subst hX
    unfold Ca.pokeL at hu
    dsimp only at hu
    by_cases hh : b' = b ∧ off' ≤ p
    · rw [if_pos hh] at hu
      unfold bCells at hu
      rw [List.getElem?_map] at hu
      by_cases hj : j = p - off'
      · subst hj
        have hlt : p - off' < v.length := by
          rcases Nat.lt_or_ge (p - off') v.length with h1 | h1
          · exact h1
          · rw [List.getElem?_eq_none (by rw [List.length_set]; exact h1)] at hu
            cases hu
        rw [List.getElem?_set_self hlt] at hu
        injection hu with hu
        subst hu
        obtain ⟨rfl, h2⟩ := hh
        rw [show off' + (p - off') = p from by omega]
        exact World.cell?_setCell_same' _ _ _ (by rw [hc]; rfl)
      · rw [List.getElem?_set_ne (fun e => hj e.symm)] at hu
        have h3 := hl j u (by unfold bCells; rw [List.getElem?_map]; exact hu)
        rw [World.cell?_setCell_other (h := fun e => by
          injection e with e1 e2
          omega)]
        exact h3
    · rw [if_neg hh] at hu
      have h3 := hl j u hu
      rw [World.cell?_setCell_other (h := fun e => by
        injection e with e1 e2
        exact hh ⟨e1.symm, by omega⟩)]
      exact h3
  · unfold Ca.pokeL at hx
    cases X with
    | none => exact h.byte x hx
    | some a =>
      dsimp only at hx
      split at hx
      · rcases List.mem_or_eq_of_mem_set hx with h1 | h1
        · exact h.byte x h1
        · rw [h1]; exact hy
      · exact h.byte x hx
theorem OwnC.poke {w : World} {base : Nat} {A : Option Addr} {c : Nat} {P : List Bc} (h : OwnC w base A c P) {b p : Nat} {old y : Int} (hc : w.cell? ⟨b, p, none⟩ = some (.int .u8 old)) (hy : isB y) :
    OwnC (w.setCell ⟨b, p, none⟩ (.int .u8 y)) base A c (P.map (Ca.pokeC b p y)) := by
  refine ⟨⟨by rw [List.length_map]; exact h.one.le, h.one.cap, fun e => by rw [List.length_map]; exact h.one.noA e, fun hne => ?_, fun z hz => ?_⟩, h.row, fun z hz b' off' e => ?_⟩
  · rw [Ca.cells_poke] at hne ⊢
    obtain ⟨rb, ro, hA, hl⟩ := h.one.lies hne
    refine ⟨rb, ro, hA, fun j u hu => ?_⟩
    have h1 := hl j u hu
    rw [World.cell?_setCell_other (h := fun e => by
      rw [← e, hc] at h1
      injection h1 with h1
      exact Ca.cells_noB P u (List.mem_of_getElem? hu) old h1.symm)]
    exact h1
  · obtain ⟨z', hz', rfl⟩ := List.mem_map.1 hz
    exact (h.one.each z' hz').poke hc hy
  · obtain ⟨z', hz', rfl⟩ := List.mem_map.1 hz
    obtain ⟨h1, h2, h3⟩ := h.byte z' hz' b' off' e
    exact ⟨h1, by rw [World.size_setCell]; exact h2, fun i => by rw [World.frozen?_setCell]; exact h3 i⟩
/-- Of two lists of bodies: the same slices, the same lengths. -/
def Ca.shape (z : Bc) : Option Addr × Nat × Nat := (z.X, z.d, z.b.v.length)
theorem Ca.shape_poke (b p : Nat) (y : Int) (P : List Bc) : (P.map (Ca.pokeC b p y)).map Ca.shape = P.map Ca.shape := by
  rw [List.map_map]
  refine List.map_congr_left fun z _ => ?_
  show (z.X, z.d, (Ca.pokeL z.X z.b.v b p y).length) = (z.X, z.d, z.b.v.length)
  rw [Ca.pokeL_len]
theorem Ca.shape_len {P Q : List Bc} (h : P.map Ca.shape = Q.map Ca.shape) : P.length = Q.length := by have := congrArg List.length h; simpa using this
theorem Ca.shape_at {P Q : List Bc} (h : P.map Ca.shape = Q.map Ca.shape) (k : Nat) (hk : k < Q.length) : (P.getD k Bc.zero).X = (Q.getD k Bc.zero).X ∧ (P.getD k Bc.zero).d = (Q.getD k Bc.zero).d ∧ (P.getD k Bc.zero).b.v.length = (Q.getD k Bc.zero).b.v.length := by
  have hl := Ca.shape_len h
  have h1 : (P.map Ca.shape)[k]? = (Q.map Ca.shape)[k]? := by rw [h]
  rw [List.getElem?_map, List.getElem?_map, List.getElem?_eq_getElem hk, List.getElem?_eq_getElem (by omega)] at h1
  rw [Ca.getD_lt hk, Ca.getD_lt (by omega)]
  injection h1 with h1
  injection h1 with h1 h2
  injection h2 with h2 h3
  exact ⟨h1, h2, h3⟩
end Go.Proofs.Ytmccednfaemiaaa
