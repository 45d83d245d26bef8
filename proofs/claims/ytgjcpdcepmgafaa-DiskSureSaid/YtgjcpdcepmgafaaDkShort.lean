/-
  What disk's shorten does, and the changes: only, and those that Sync, Cut make.
-/
import Derived.Test.YtgjcpdcepmgafaaDkChg
import Derived.BigRegion
import Derived.WalkSmall
import Derived.Shelf.Abstract
namespace Go.Proofs.Ytgjcpdcepmgafaa
open Go.RowKit

section
variable {W : World} {n0 N cap g i : Nat} {t : TypeId} {Lk : List Fc} {f : Fc}
/-- A file's slice, its sure ones, written anew within the row. -/
theorem row_put1 (hr : W.ownsRow n0 t 3 (.slice (some ⟨g, 0, none⟩) N cap) N (fCells Lk)) (hx : Lk[i]? = some f) (X : Option Addr) (c : Nat) (l : List Int) :
    (W.setCell ⟨g, i * 3 + 1, none⟩ (.slice X l.length c)).ownsRow n0 t 3 (.slice (some ⟨g, 0, none⟩) N cap) N (fCells (Lk.set i { f with X := X, c := c, l := l })) := by
  have h := own_put hr (i * 3 + 1) (.slice X l.length c)
  rw [fCells_set1 f X c l Lk i hx] at h
  exact h
theorem row_put2 (hr : W.ownsRow n0 t 3 (.slice (some ⟨g, 0, none⟩) N cap) N (fCells Lk)) (hx : Lk[i]? = some f) (s : Int) :
    (W.setCell ⟨g, i * 3 + 2, none⟩ (.int .i64 s)).ownsRow n0 t 3 (.slice (some ⟨g, 0, none⟩) N cap) N (fCells (Lk.set i { f with s := s })) := by
  have h := own_put hr (i * 3 + 2) (.int .i64 s)
  rw [fCells_set2 f s Lk i hx] at h
  exact h
theorem row_cells (hr : W.ownsRow n0 t 3 (.slice (some ⟨g, 0, none⟩) N cap) N (fCells Lk)) (hx : Lk[i]? = some f) :
    W.cell? ⟨g, i * 3, none⟩ = some (.int .i64 f.num) ∧ W.cell? ⟨g, i * 3 + 1, none⟩ = some (.slice f.X f.l.length f.c) ∧ W.cell? ⟨g, i * 3 + 2, none⟩ = some (.int .i64 f.s) ∧ W.frozen? ⟨g, i * 3 + 1, none⟩ = false ∧ W.frozen? ⟨g, i * 3 + 2, none⟩ = false := by
  obtain ⟨q0, q1, q2⟩ := fCells_get Lk f i hx
  exact ⟨own_cell_at hr q0, own_cell_at hr q1, own_cell_at hr q2, own_free_at hr _, own_free_at hr _⟩
end
/-- A file cut to its first n bytes. -/
def Fc.cut (f : Fc) (n : Nat) : Fc := { f with l := f.l.take n, c := n, s := min f.s n }
/-- The world behind a cut. -/
def cutW (W : World) (g i n : Nat) (f : Fc) : World := (W.drew.setCell ⟨g, i * 3 + 1, none⟩ (.slice f.X n n)).setCell ⟨g, i * 3 + 2, none⟩ (.int .i64 (min f.s n))

set_option maxRecDepth 100000 in
set_option maxHeartbeats 6400000 in
theorem shorten_any (g i n : Nat) (f : Fc) (W : World) (h1 : W.cell? ⟨g, i * 3 + 1, none⟩ = some (.slice f.X f.l.length f.c)) (h2 : W.cell? ⟨g, i * 3 + 2, none⟩ = some (.int .i64 f.s)) (h3 : W.frozen? ⟨g, i * 3 + 1, none⟩ = false) (h4 : W.frozen? ⟨g, i * 3 + 2, none⟩ = false)
    (hn : n ≤ f.l.length) (hl : f.l.length ≤ f.c) (hc : f.c ≤ 9223372036854775807) (hX : f.X = none → f.c = 0) :
    Calls Try.prog 38 #[.pointer (some ⟨g, i * 3, none⟩), .int .i64 (n : Int)] W fun e w' => e = .returned (.tuple #[]) ∧ w' = cutW W g i n f := by
  obtain ⟨num, X, c, l, s⟩ := f
  dsimp only at h1 h2 hn hl hc hX
  unfold cutW
  dsimp only
  obtain ⟨W1, hW1⟩ : ∃ W1, W.drew = W1 := ⟨_, rfl⟩
  have e1 : W1.cell? ⟨g, i * 3 + 1, none⟩ = some (.slice X l.length c) := by rw [← hW1]; exact h1
  have e2 : W1.cell? ⟨g, i * 3 + 2, none⟩ = some (.int .i64 s) := by rw [← hW1]; exact h2
  have e3 : W1.frozen? ⟨g, i * 3 + 1, none⟩ = false := by rw [← hW1]; exact h3
  have e4 : W1.frozen? ⟨g, i * 3 + 2, none⟩ = false := by rw [← hW1]; exact h4
  have i0 : (0 : Int) ≤ (n : Int) := by omega
  have i1 : (n : Int) ≤ (l.length : Int) := by omega
  have i2 : (n : Int) ≤ (c : Int) := by omega
  cases X with
  | none =>
    obtain rfl : c = 0 := hX rfl
    obtain rfl : n = 0 := by omega
    clear hX hW1 e1 e2 e3 e4
    go_enter Try.func38, Try.ntmps38
    go_region
    go_wp2
    go_end0
    exact ⟨rfl, rfl⟩
  | some a =>
    clear hX hW1 e1 e2 e3 e4
    go_enter Try.func38, Try.ntmps38
    go_region
    go_wp2
    go_end0
    exact ⟨rfl, rfl⟩

/-- What is told of the files that have been changed, where each becomes what G says; all memory below n0 is as it was. -/
def JB (n0 : Nat) (w : World) (fs : List Fi) (G : Fi → Fi) (done : List Fc) (W : World) : Prop := Below n0 w W ∧ done.map Fc.fi = (fs.take done.length).map G
theorem JB.stab {n0 : Nat} {w : World} {fs : List Fi} {G : Fi → Fi} (done : List Fc) (W W' : World) (h : JB n0 w fs G done W) (hb : Below n0 W W') : JB n0 w fs G done W' := ⟨h.1.trans hb, h.2⟩
theorem JB.snoc {n0 i : Nat} {w W w' : World} {fs : List Fi} {G : Fi → Fi} {done : List Fc} {f f' : Fc} (h : JB n0 w fs G done W) (hb : Below n0 W w') (hi : done.length = i) (hf : fs[i]? = some f.fi) (hG : f'.fi = G f.fi) : JB n0 w fs G (done ++ [f']) w' := by
  refine ⟨h.1.trans hb, ?_⟩
  subst hi
  obtain ⟨h1, h2⟩ := List.getElem?_eq_some_iff.1 hf
  rw [List.map_append, h.2, List.length_append, List.length_singleton, List.take_succ_eq_append_getElem h1, List.map_append, h2]
  simp [hG]
theorem JB.start (n0 : Nat) (w : World) (fs : List Fi) (G : Fi → Fi) : JB n0 w fs G [] w := ⟨Below.refl _ _, rfl⟩
theorem JB.done {n0 : Nat} {w W : World} {fs : List Fi} {G : Fi → Fi} {done : List Fc} (h : JB n0 w fs G done W) (hl : done.length = fs.length) : done.map Fc.fi = fs.map G := by
  rw [h.2, hl, List.take_length]

section
variable {n0 N cap g i : Nat} {J : List Fc → World → Prop} {done Lk : List Fc} {f : Fc} {W w' : World}
/-- A file that stays as it is. -/
theorem chgd_same (k : Nat) (hJ : J (done ++ [f]) (W.drewN k)) (hr : W.ownsRow (n0 + 2) 43 3 (.slice (some ⟨g, 0, none⟩) N cap) N (fCells Lk)) (hx : Lk[i]? = some f) (ho : OwnB W (n0 + 2) 5 f) : Chgd n0 N cap g i J done Lk f f W (W.drewN k) := by
  refine ⟨hJ, Nat.le_refl _, ?_, ho.stays (fun _ _ => rfl), .inl rfl, fun b _ _ _ _ => rfl⟩
  have : Lk.set i f = Lk := by
    apply List.ext_getElem?
    intro j
    by_cases e : i = j
    · subst e
      rw [List.getElem?_set_self (List.getElem?_eq_some_iff.1 hx).1, hx]
    · rw [List.getElem?_set_ne e]
  rw [this]
  exact hr
/-- A file that is cut. -/
theorem chgd_cut (n : Nat) (hn : n ≤ f.l.length) (hJ : J (done ++ [f.cut n]) (cutW W g i n f)) (hr : W.ownsRow (n0 + 2) 43 3 (.slice (some ⟨g, 0, none⟩) N cap) N (fCells Lk)) (hx : Lk[i]? = some f) (ho : OwnB W (n0 + 2) 5 f) : Chgd n0 N cap g i J done Lk f (f.cut n) W (cutW W g i n f) := by
  have hi := (List.getElem?_eq_some_iff.1 hx).1
  have hne := ho.off_row hr (by decide)
  refine ⟨hJ, by simp [cutW], ?_, ?_, .inl rfl, fun b _ _ hb _ => ?_⟩
  · have hr' : W.drew.ownsRow (n0 + 2) 43 3 (.slice (some ⟨g, 0, none⟩) N cap) N (fCells Lk) := hr
    have r1 := row_put1 hr' hx f.X n (f.l.take n)
    rw [show (f.l.take n).length = n from by rw [List.length_take]; omega] at r1
    have r2 := row_put2 r1 (f := { f with X := f.X, c := n, l := f.l.take n }) (i := i) (List.getElem?_set_self hi) (min f.s n)
    rw [List.set_set] at r2
    exact r2
  · have h1 : OwnB W.drew (n0 + 2) 5 f := ho.stays (fun _ _ => rfl)
    exact (((h1.cut n n hn (Nat.le_refl _) (Nat.le_trans hn ho.le)).num f.num (min f.s n)).far (p := ⟨g, i * 3 + 1, none⟩) hne _).far (p := ⟨g, i * 3 + 2, none⟩) hne _
  · exact (Below.heap_setCell _ _ _ _ hb).trans (Below.heap_setCell _ _ _ _ hb)
end
theorem cutW_below {n0 g i n : Nat} {f : Fc} {W : World} (hg : n0 ≤ g) : Below n0 W (cutW W g i n f) := (((Below.refl n0 W).drew).setCell (p := ⟨g, i * 3 + 1, none⟩) hg _).setCell (p := ⟨g, i * 3 + 2, none⟩) hg _

theorem sync1_any (g i : Nat) (f : Fc) (W : World) (h1 : W.cell? ⟨g, i * 3 + 1, none⟩ = some (.slice f.X f.l.length f.c)) (h2 : W.cell? ⟨g, i * 3 + 2, none⟩ = some (.int .i64 f.s)) (h4 : W.frozen? ⟨g, i * 3 + 2, none⟩ = false) :
    Calls Try.prog 43 #[.pointer (some ⟨g, i * 3, none⟩)] W fun e w' => e = .returned (.tuple #[]) ∧ w' = W.setCell ⟨g, i * 3 + 2, none⟩ (.int .i64 (f.l.length : Int)) := by
  obtain ⟨num, X, c, l, s⟩ := f
  dsimp only at h1 h2
  go_enter Try.func43, Try.ntmps43
  go_wp2
  go_end0
  exact ⟨rfl, rfl⟩
namespace Dk
def syn1 (f : Fi) : Fi := (f.1, f.2.1, (f.2.1.length : Int))
def syn (fs : List Fi) : List Fi := fs.map syn1
def cut1 (num : Int) (n : Nat) (f : Fi) : Fi := if f.1 = num then (f.1, f.2.1.take n, min f.2.2 n) else f
def app1 (num : Int) (b : List Int) (f : Fi) : Fi := if f.1 = num then (f.1, f.2.1 ++ b, f.2.2) else f
end Dk
theorem syncChg (n0 N : Nat) (w : World) (fs : List Fi) : Chg n0 N fs 43 #[] (JB n0 w fs Dk.syn1) := by
  intro done Lk f g i cap W hJ hi hf hN hx hsz hr hs ho
  obtain ⟨-, q1, q2, -, q4⟩ := row_cells hr hx
  have hg := own_base_le hr
  have hne : f.blk ≠ some g := ho.off_row hr (by decide)
  refine (sync1_any g i f W q1 q2 q4).mono ?_
  rintro e w' ⟨rfl, rfl⟩
  refine ⟨rfl, { f with s := (f.l.length : Int) }, ?_⟩
  exact ⟨hJ.snoc ((Below.refl _ _).setCell (p := ⟨g, i * 3 + 2, none⟩) (by show n0 ≤ g; omega) _) hi hf rfl, by simp, row_put2 hr hx _, (ho.num f.num (f.l.length : Int)).far (p := ⟨g, i * 3 + 2, none⟩) hne _, .inl rfl, fun b _ _ hb _ => Below.heap_setCell _ _ _ _ hb⟩

set_option maxHeartbeats 1600000 in
theorem only_no (g i : Nat) (num number : Int) (pn pc : Nat) (W : World) (h0 : W.cell? ⟨g, i * 3, none⟩ = some (.int .i64 num)) (h1 : W.cell? ⟨pn, 0, none⟩ = some (.int .i64 number)) (hne : num ≠ number) :
    Calls Try.prog 46 (#[.pointer (some ⟨g, i * 3, none⟩)] ++ #[.pointer (some ⟨pn, 0, none⟩), .pointer (some ⟨pc, 0, none⟩)]) W fun e w' => e = .returned (.tuple #[]) ∧ ∃ k, w' = W.drewN k := by
  have d : (num == number) = false := beq_eq_false_iff_ne.2 hne
  show Calls Try.prog 46 #[.pointer (some ⟨g, i * 3, none⟩), .pointer (some ⟨pn, 0, none⟩), .pointer (some ⟨pc, 0, none⟩)] W _
  clear hne
  go_enter Try.func46, Try.ntmps46
  go_wp2_with fail
  go_quiet (fail)
  go_wp2
  go_end0
  exact ⟨rfl, _, rfl⟩
set_option maxHeartbeats 1600000 in
theorem only_yes (g i : Nat) (number : Int) (pn pc fn : Nat) (lb : Array Value) (eg : ∀ args w, (callFunc fn args).run Try.prog w = .ok (.enter fn args) w) (W : World) (Q : Ending → World → Prop) (h0 : W.cell? ⟨g, i * 3, none⟩ = some (.int .i64 number)) (h1 : W.cell? ⟨pn, 0, none⟩ = some (.int .i64 number))
    (h2 : W.cell? ⟨pc, 0, none⟩ = some (.func (.func fn) #[] lb)) (hQ : ∀ k, Calls Try.prog fn (#[.pointer (some ⟨g, i * 3, none⟩)] ++ lb) (W.drewN k) fun e w' => e = .returned (.tuple #[]) ∧ Q (.returned (.tuple #[])) w') :
    Calls Try.prog 46 (#[.pointer (some ⟨g, i * 3, none⟩)] ++ #[.pointer (some ⟨pn, 0, none⟩), .pointer (some ⟨pc, 0, none⟩)]) W Q := by
  show Calls Try.prog 46 #[.pointer (some ⟨g, i * 3, none⟩), .pointer (some ⟨pn, 0, none⟩), .pointer (some ⟨pc, 0, none⟩)] W _
  have HQ := Lib.hid hQ
  clear hQ
  go_enter Try.func46, Try.ntmps46
  go_wp2_with fail
  go_quiet (fail)
  have h2' : (W.drewN nq).cell? ⟨pc, 0, none⟩ = some (.func (.func fn) #[] lb) := h2
  go_wp2_with fail
  go_at_fn fn
  refine (HQ.out nq).mono ?_
  rintro e w4 ⟨rfl, hq⟩
  have H := Lib.hid hq
  clear hq
  go_wp2
  go_end0
  exact H.out
end Go.Proofs.Ytgjcpdcepmgafaa
