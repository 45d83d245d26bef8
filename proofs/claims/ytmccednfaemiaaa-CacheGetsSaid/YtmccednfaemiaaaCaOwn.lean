/-
  A row of bodies in memory of the call's own, each one's bytes in a block of bytes: appending to it. Nothing of the program is imported.
-/
import Derived.Test.YtmccednfaemiaaaCaPlain
namespace Go.Proofs.Ytmccednfaemiaaa
open Go.RowKit

/-- How great bodies may be that are copied. -/
structure Fits (L : List Bc) : Prop where
  n : L.length * 48 ≤ 140737488355328
  each : ∀ z ∈ L, z.b.v.length ≤ 140737488355328
theorem Ca.used_mem {l : List Bd} : ∀ {x : Bd}, x ∈ l → x.v.length ≤ used l := by
  induction l with
  | nil => intro x hx; cases hx
  | cons y r ih =>
    intro x hx
    simp only [used]
    rcases List.mem_cons.1 hx with rfl | hx
    · omega
    · have := ih hx; omega
theorem Fits.of_small {L : List Bc} (h : L.length + Ca.used (L.map Bc.b) < 1048576) : Fits L :=
  ⟨by omega, fun z hz => by have := Ca.used_mem (List.mem_map_of_mem (f := Bc.b) hz); omega⟩

/-- A row of another kind stays where a row is appended to. -/
theorem ca_apart {w w1 : World} {n size n' size' : Nat} {e e' : TypeId} {v v' : Value} {xs xs' : List Value} {base base' : Nat} (h : w.ownsRow base e size v n xs) (h' : w.ownsRow base' e' size' v' n' xs') (hne : e ≠ e') (hg : w.grownBy w1 v'.ownBlock) : w1.ownsRow base e size v n xs :=
  own_stays h fun k hk => hg.block k (own_lt h k hk) (fun e2 => own_apart h h' hne k hk e2)

/-- A row of bodies, and each one's bytes, in memory of the call's own. -/
structure OwnRC (w : World) (base : Nat) (t e : TypeId) (v : Value) (M : List Bc) : Prop where
  row : w.ownsRow base t 4 v M.length (Ca.cells M)
  each : ∀ z ∈ M, w.ownsRow base e 1 (.slice z.X z.b.v.length z.d) z.b.v.length (bCells z.b.v) ∧ ∀ x ∈ z.b.v, isB x
section
variable {w w' : World} {base : Nat} {t e : TypeId} {v : Value} {M : List Bc}
theorem OwnRC.nil (w : World) (base : Nat) (t e : TypeId) : OwnRC w base t e (.slice none 0 0) [] := ⟨⟨rfl, .inl ⟨rfl, rfl⟩⟩, fun z h => by cases h⟩
theorem OwnRC.later (h : OwnRC w base t e v M) (hb : Below w.heap.size w w') : OwnRC w' base t e v M := ⟨own_later h.row hb, fun z hz => ⟨own_later (h.each z hz).1 hb, (h.each z hz).2⟩⟩
theorem OwnRC.lower {base' : Nat} (h : OwnRC w base t e v M) (hb : base' ≤ base) : OwnRC w base' t e v M := ⟨own_base h.row hb, fun z hz => ⟨own_base (h.each z hz).1 hb, (h.each z hz).2⟩⟩
/-- What is appended: a body whose bytes are the call's own. -/
theorem OwnRC.snoc {w1 : World} {v' : Value} (hne : t ≠ e) (h : OwnRC w base t e v M) (hg : w.grownBy w1 v.ownBlock) (z : Bc) (hz : w.ownsRow base e 1 (.slice z.X z.b.v.length z.d) z.b.v.length (bCells z.b.v)) (hb : ∀ x ∈ z.b.v, isB x)
    (hr : w1.ownsRow base t 4 v' (M.length + 1) (Ca.cells M ++ Ca.cell z)) : OwnRC w1 base t e v' (M ++ [z]) := by
  refine ⟨?_, fun y hy => ?_⟩
  · rw [Ca.cells_append, show Ca.cells [z] = Ca.cell z from List.append_nil _, List.length_append]
    exact hr
  · rcases List.mem_append.1 hy with hy | hy
    · exact ⟨ca_apart (h.each y hy).1 h.row (fun e2 => hne e2.symm) hg, (h.each y hy).2⟩
    · rw [List.mem_singleton] at hy
      subst hy
      exact ⟨ca_apart hz h.row (fun e2 => hne e2.symm) hg, hb⟩
theorem OwnRC.form (h : OwnRC w base t e v M) : ∃ A c, v = .slice A M.length c ∧ OwnC w base A c M := by
  obtain ⟨A, c, rfl, h1, h2, h3, h4⟩ := own_form h.row
  refine ⟨A, c, rfl, ⟨⟨h1, h2, h3, h4, fun z hz => ?_⟩, fun b off hA => ?_, fun z hz b off hX => ?_⟩⟩
  · obtain ⟨A', c', hv, ho⟩ := OneB.of_own (h.each z hz).1 (h.each z hz).2
    injection hv with e1 e2 e3
    subst e1 e3
    exact ho
  · subst hA
    exact own_ge h.row b rfl
  · obtain ⟨hz1, hz2⟩ := h.each z hz
    rw [hX] at hz1
    have h5 := own_ge hz1 b rfl
    have h6 := own_lt hz1 b rfl
    refine ⟨h5, h6, fun i => ?_⟩
    rcases hz1.2 with ⟨hv, _⟩ | ⟨g, cap, cur, hv, _, hh, _⟩
    · cases hv
    · injection hv with hv
      injection hv with hv
      injection hv with hv1 hv2
      subst hv1 hv2
      simp [World.frozen?, hh]
end
end Go.Proofs.Ytmccednfaemiaaa
