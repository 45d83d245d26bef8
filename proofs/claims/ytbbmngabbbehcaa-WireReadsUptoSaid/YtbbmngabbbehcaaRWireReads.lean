/-
  A message's bytes, read thing by thing as the reference reads them: each thing as it must be.
  What the reference's Decode answers.
  The law WireReads, walked.
  For all bytes, the law WireReads returns true and leaves its arguments as they were. One condition: the arguments together hold at most 1048576 values (the second form).
-/
import Derived.Test.YtbbmngabbbehcaaG20
import Derived.Test.YtbbmngabbbehcaaG28
import Derived.Test.YtbbmngabbbehcaaG15
import Derived.Test.YtbbmngabbbehcaaG26
import Derived.Test.YtbbmngabbbehcaaG14
import Derived.Test.YtbbmngabbbehcaaG27
import Derived.Deep.CutBlock
import Derived.Test.YtbbmngabbbehcaaG30
import Derived.Test.YtbbmngabbbehcaaRows
import Derived.Test.YtbbmngabbbehcaaG31
import Derived.JoinedCond
import Derived.OpenShut
import Derived.WalkKit
import Derived.ProofKit
import Derived.SizedLaws
namespace Go.Proofs.Ytbbmngabbbehcaa
open Go.RowKit
namespace Wi
/-- A message's bytes behind its kind and its nodes, read, each thing as it must be. -/
def ptailf (k f t : Nat) (l : List Int) (a : Nat) : Option (Ms × Nat) :=
  if k = 1 then (pnum l a).bind fun s => (pset l s.2).bind fun i => (pvec l i.2).map fun v => ((⟨(k : Int), (f : Int), (t : Int), (s.1 : Int), 0, i.1, v.1, [], zeroBd⟩ : Ms), v.2)
  else if k = 3 then (pnum l a).bind fun s => (pnum l s.2).bind fun q => (plistm 257 (pnote l) l q.2).map fun n => ((⟨(k : Int), (f : Int), (t : Int), (s.1 : Int), (q.1 : Int), [], [], n.1, zeroBd⟩ : Ms), n.2)
  else if k = 4 then (pnum l a).map fun o => ((⟨(k : Int), (f : Int), (t : Int), 0, 0, [], [], [], ⟨(o.1 : Int), 0, 0, []⟩⟩ : Ms), o.2)
  else if k = 5 then (pbody l a).map fun b => ((⟨(k : Int), (f : Int), (t : Int), 0, 0, [], [], [], b.1⟩ : Ms), b.2)
  else some ((⟨(k : Int), (f : Int), (t : Int), 0, 0, [], [], [], zeroBd⟩ : Ms), a)
/-- A message's bytes, read, each thing as it must be. -/
def pmsg (l : List Int) (a : Nat) : Option (Ms × Nat) := (pnum l a).bind fun k => (pnum l k.2).bind fun f => (pnum l f.2).bind fun t => ptailf k.1 f.1 t.1 l t.2
section
variable {l : List Int} {s : Option Nat} {k f t : Nat} {m : Ms}
theorem pmsg_nxt (hk : Got (pnum l) s k) (hf : Got (pnum l) (nxt (pnum l) s) f) (ht : Got (pnum l) (nxt (pnum l) (nxt (pnum l) s)) t) : nxt (pmsg l) s = nxt (ptailf k f t l) (nxt (pnum l) (nxt (pnum l) (nxt (pnum l) s))) ∧ (Got (ptailf k f t l) (nxt (pnum l) (nxt (pnum l) (nxt (pnum l) s))) m → Got (pmsg l) s m) := by
  refine ⟨?_, fun hm => ?_⟩
  · exact (nxt_bind (p := pnum l) (x := k) (q := fun k' a => (pnum l a).bind fun f => (pnum l f.2).bind fun t => ptailf k' f.1 t.1 l t.2) hk).trans
      ((nxt_bind (p := pnum l) (x := f) (q := fun f' a => (pnum l a).bind fun t => ptailf k f' t.1 l t.2) hf).trans (nxt_bind (p := pnum l) (x := t) (q := fun t' a => ptailf k f t' l a) ht))
  · have g2 := got_bind (p := pnum l) (x := t) (q := fun t' a => ptailf k f t' l a) ht hm
    have g1 := got_bind (p := pnum l) (x := f) (q := fun f' a => (pnum l a).bind fun t => ptailf k f' t.1 l t.2) hf g2
    exact got_bind (p := pnum l) (x := k) (q := fun k' a => (pnum l a).bind fun f => (pnum l f.2).bind fun t => ptailf k' f.1 t.1 l t.2) hk g1
theorem ptailf1' {x : Nat} {i v : List (Int × Int)} (h1 : Got (pnum l) s x) (h2 : Got (pset l) (nxt (pnum l) s) i) (h3 : Got (pvec l) (nxt (pset l) (nxt (pnum l) s)) v) :
    nxt (ptailf 1 f t l) s = nxt (pvec l) (nxt (pset l) (nxt (pnum l) s)) ∧ Got (ptailf 1 f t l) s ⟨1, (f : Int), (t : Int), (x : Int), 0, i, v, [], zeroBd⟩ := by
  have e : ptailf 1 f t l = fun a => (pnum l a).bind fun s => (pset l s.2).bind fun i => (pvec l i.2).map fun v => ((⟨1, (f : Int), (t : Int), (s.1 : Int), 0, i.1, v.1, [], zeroBd⟩ : Ms), v.2) := by
    funext a; unfold ptailf; rw [if_pos rfl]; rfl
  rw [e]
  have g3 := got_map (p := pvec l) (f := fun v => (⟨1, (f : Int), (t : Int), (x : Int), 0, i, v, [], zeroBd⟩ : Ms)) h3
  have g2 := got_bind (p := pset l) (x := i) (q := fun i' a => (pvec l a).map fun v => ((⟨1, (f : Int), (t : Int), (x : Int), 0, i', v.1, [], zeroBd⟩ : Ms), v.2)) h2 g3
  have g1 := got_bind (p := pnum l) (x := x) (q := fun x' a => (pset l a).bind fun i => (pvec l i.2).map fun v => ((⟨1, (f : Int), (t : Int), (x' : Int), 0, i.1, v.1, [], zeroBd⟩ : Ms), v.2)) h1 g2
  refine ⟨?_, g1⟩
  exact (nxt_bind (p := pnum l) (x := x) (q := fun x' a => (pset l a).bind fun i => (pvec l i.2).map fun v => ((⟨1, (f : Int), (t : Int), (x' : Int), 0, i.1, v.1, [], zeroBd⟩ : Ms), v.2)) h1).trans
    ((nxt_bind (p := pset l) (x := i) (q := fun i' a => (pvec l a).map fun v => ((⟨1, (f : Int), (t : Int), (x : Int), 0, i', v.1, [], zeroBd⟩ : Ms), v.2)) h2).trans (nxt_map (f := fun v => (⟨1, (f : Int), (t : Int), (x : Int), 0, i, v, [], zeroBd⟩ : Ms))))
theorem ptailf3' {x q : Nat} {ns : List Note} (h1 : Got (pnum l) s x) (h2 : Got (pnum l) (nxt (pnum l) s) q) (h3 : Got (plistm 257 (pnote l) l) (nxt (pnum l) (nxt (pnum l) s)) ns) :
    nxt (ptailf 3 f t l) s = nxt (plistm 257 (pnote l) l) (nxt (pnum l) (nxt (pnum l) s)) ∧ Got (ptailf 3 f t l) s ⟨3, (f : Int), (t : Int), (x : Int), (q : Int), [], [], ns, zeroBd⟩ := by
  have e : ptailf 3 f t l = fun a => (pnum l a).bind fun s => (pnum l s.2).bind fun q => (plistm 257 (pnote l) l q.2).map fun n => ((⟨3, (f : Int), (t : Int), (s.1 : Int), (q.1 : Int), [], [], n.1, zeroBd⟩ : Ms), n.2) := by
    funext a; unfold ptailf; rw [if_neg (by decide), if_pos rfl]; rfl
  rw [e]
  have g3 := got_map (p := plistm 257 (pnote l) l) (f := fun n => (⟨3, (f : Int), (t : Int), (x : Int), (q : Int), [], [], n, zeroBd⟩ : Ms)) h3
  have g2 := got_bind (p := pnum l) (x := q) (q := fun q' a => (plistm 257 (pnote l) l a).map fun n => ((⟨3, (f : Int), (t : Int), (x : Int), (q' : Int), [], [], n.1, zeroBd⟩ : Ms), n.2)) h2 g3
  have g1 := got_bind (p := pnum l) (x := x) (q := fun x' a => (pnum l a).bind fun q => (plistm 257 (pnote l) l q.2).map fun n => ((⟨3, (f : Int), (t : Int), (x' : Int), (q.1 : Int), [], [], n.1, zeroBd⟩ : Ms), n.2)) h1 g2
  refine ⟨?_, g1⟩
  exact (nxt_bind (p := pnum l) (x := x) (q := fun x' a => (pnum l a).bind fun q => (plistm 257 (pnote l) l q.2).map fun n => ((⟨3, (f : Int), (t : Int), (x' : Int), (q.1 : Int), [], [], n.1, zeroBd⟩ : Ms), n.2)) h1).trans
    ((nxt_bind (p := pnum l) (x := q) (q := fun q' a => (plistm 257 (pnote l) l a).map fun n => ((⟨3, (f : Int), (t : Int), (x : Int), (q' : Int), [], [], n.1, zeroBd⟩ : Ms), n.2)) h2).trans (nxt_map (f := fun n => (⟨3, (f : Int), (t : Int), (x : Int), (q : Int), [], [], n, zeroBd⟩ : Ms))))
theorem ptailf4' {o : Nat} (h1 : Got (pnum l) s o) : nxt (ptailf 4 f t l) s = nxt (pnum l) s ∧ Got (ptailf 4 f t l) s ⟨4, (f : Int), (t : Int), 0, 0, [], [], [], ⟨(o : Int), 0, 0, []⟩⟩ := by
  have e : ptailf 4 f t l = fun a => (pnum l a).map fun o => ((⟨4, (f : Int), (t : Int), 0, 0, [], [], [], ⟨(o.1 : Int), 0, 0, []⟩⟩ : Ms), o.2) := by
    funext a; unfold ptailf; rw [if_neg (by decide), if_neg (by decide), if_pos rfl]; rfl
  rw [e]
  exact ⟨nxt_map (f := fun o : Nat => (⟨4, (f : Int), (t : Int), 0, 0, [], [], [], ⟨(o : Int), 0, 0, []⟩⟩ : Ms)), got_map (f := fun o : Nat => (⟨4, (f : Int), (t : Int), 0, 0, [], [], [], ⟨(o : Int), 0, 0, []⟩⟩ : Ms)) h1⟩
theorem ptailf5' {b : Bd} (h1 : Got (pbody l) s b) : nxt (ptailf 5 f t l) s = nxt (pbody l) s ∧ Got (ptailf 5 f t l) s ⟨5, (f : Int), (t : Int), 0, 0, [], [], [], b⟩ := by
  have e : ptailf 5 f t l = fun a => (pbody l a).map fun b => ((⟨5, (f : Int), (t : Int), 0, 0, [], [], [], b.1⟩ : Ms), b.2) := by
    funext a; unfold ptailf; rw [if_neg (by decide), if_neg (by decide), if_neg (by decide), if_pos rfl]; rfl
  rw [e]
  exact ⟨nxt_map (f := fun b : Bd => (⟨5, (f : Int), (t : Int), 0, 0, [], [], [], b⟩ : Ms)), got_map (f := fun b : Bd => (⟨5, (f : Int), (t : Int), 0, 0, [], [], [], b⟩ : Ms)) h1⟩
theorem ptailf1 (hk : k = 1) {x : Nat} {i v : List (Int × Int)} (h1 : Got (pnum l) s x) (h2 : Got (pset l) (nxt (pnum l) s) i) (h3 : Got (pvec l) (nxt (pset l) (nxt (pnum l) s)) v) :
    nxt (ptailf k f t l) s = nxt (pvec l) (nxt (pset l) (nxt (pnum l) s)) ∧ Got (ptailf k f t l) s ⟨(k : Int), (f : Int), (t : Int), (x : Int), 0, i, v, [], zeroBd⟩ := by subst hk; exact ptailf1' h1 h2 h3
theorem ptailf3 (hk : k = 3) {x q : Nat} {ns : List Note} (h1 : Got (pnum l) s x) (h2 : Got (pnum l) (nxt (pnum l) s) q) (h3 : Got (plistm 257 (pnote l) l) (nxt (pnum l) (nxt (pnum l) s)) ns) :
    nxt (ptailf k f t l) s = nxt (plistm 257 (pnote l) l) (nxt (pnum l) (nxt (pnum l) s)) ∧ Got (ptailf k f t l) s ⟨(k : Int), (f : Int), (t : Int), (x : Int), (q : Int), [], [], ns, zeroBd⟩ := by subst hk; exact ptailf3' h1 h2 h3
theorem ptailf4 (hk : k = 4) {o : Nat} (h1 : Got (pnum l) s o) : nxt (ptailf k f t l) s = nxt (pnum l) s ∧ Got (ptailf k f t l) s ⟨(k : Int), (f : Int), (t : Int), 0, 0, [], [], [], ⟨(o : Int), 0, 0, []⟩⟩ := by subst hk; exact ptailf4' h1
theorem ptailf5 (hk : k = 5) {b : Bd} (h1 : Got (pbody l) s b) : nxt (ptailf k f t l) s = nxt (pbody l) s ∧ Got (ptailf k f t l) s ⟨(k : Int), (f : Int), (t : Int), 0, 0, [], [], [], b⟩ := by subst hk; exact ptailf5' h1
theorem ptailf0 (h1 : k ≠ 1) (h3 : k ≠ 3) (h4 : k ≠ 4) (h5 : k ≠ 5) : nxt (ptailf k f t l) s = s ∧ Got (ptailf k f t l) s ⟨(k : Int), (f : Int), (t : Int), 0, 0, [], [], [], zeroBd⟩ := by
  have e : ptailf k f t l = fun a => some ((⟨(k : Int), (f : Int), (t : Int), 0, 0, [], [], [], zeroBd⟩ : Ms), a) := by
    funext a; unfold ptailf; rw [if_neg h1, if_neg h3, if_neg h4, if_neg h5]
  rw [e]
  cases s with
  | none => exact ⟨rfl, Got.none⟩
  | some a => exact ⟨rfl, fun x b hx => by cases hx; rfl⟩
end
theorem such_map {α β : Type} {F : β → Bool} {g : α → Bool} (A : Option (α × Nat)) (f : α × Nat → β × Nat) (h : ∀ s, F (f s).1 = true → g s.1 = true) : such F (A.map f) = such F ((such g A).map f) := by
  have e : ∀ A : Option (α × Nat), A.map f = A.bind fun s => some (f s) := fun A => by cases A <;> rfl
  rw [e, e]
  exact such_bind A _ (fun s y hB hF => by cases hB; exact h s hF)
theorem rep_such {α : Type} {g : α → Bool} {p : Nat → Option (α × Nat)} : ∀ (n a : Nat), such (fun r => r.all g) (rep p n a) = rep (fun a => such g (p a)) n a
  | 0, a => rfl
  | n + 1, a => by
    rw [show rep p (n + 1) a = (p a).bind fun x => (rep p n x.2).map fun r => (x.1 :: r.1, r.2) from rfl,
      show rep (fun a => such g (p a)) (n + 1) a = (such g (p a)).bind fun x => (rep (fun a => such g (p a)) n x.2).map fun r => (x.1 :: r.1, r.2) from rfl]
    cases hp : p a with
    | none => rfl
    | some x =>
      have ih := rep_such (g := g) (p := p) n x.2
      have es : such g (some x) = if g x.1 then some x else none := rfl
      rw [es]
      cases hg : g x.1 with
      | true =>
        simp only [Option.bind_some, if_true]
        rw [← ih]
        cases hr : rep p n x.2 with
        | none => rfl
        | some r =>
          unfold such
          cases r.1.all g <;> simp [hg]
      | false =>
        simp only [Option.bind_some]
        cases hr : rep p n x.2 with
        | none => rfl
        | some r =>
          unfold such
          simp [hg]
theorem plistm_such {α : Type} {g : α → Bool} {most : Nat} {p : Nat → Option (α × Nat)} {l : List Int} (a : Nat) : such (fun r => r.all g) (plistm most p l a) = plistm most (fun a => such g (p a)) l a := by
  unfold plistm
  cases hn : pnum l a with
  | none => rfl
  | some x =>
    simp only [Option.bind_some]
    by_cases hx : x.1 ≤ most
    · rw [if_pos hx, if_pos hx]
      exact rep_such _ _
    · rw [if_neg hx, if_neg hx]
      rfl
theorem pnotes_m (l : List Int) (a : Nat) : such (fun r => r.all Nt.fmd) (plistm 257 (pnotr l) l a) = plistm 257 (pnote l) l a := by
  rw [plistm_such]
  congr 1
  funext a
  exact pnote_m l a
theorem dmf_1 {f t s q : Int} {i v : List (Int × Int)} {n : List Note} {b : Bd} (h : dmf ⟨1, f, t, s, q, i, v, n, b⟩ = true) : Sp.fmd i = true ∧ Ve.fmd v = true := by
  unfold dmf ff at h
  rw [if_pos rfl] at h
  simp only [Bool.and_eq_true] at h
  exact h.2.2.1.2.2
theorem dmf_3 {f t s q : Int} {i v : List (Int × Int)} {n : List Note} {b : Bd} (h : dmf ⟨3, f, t, s, q, i, v, n, b⟩ = true) : n.all Nt.fmd = true := by
  unfold dmf ff at h
  rw [if_neg (show ¬ (3 : Int) = 1 by decide), if_neg (show ¬ (3 : Int) = 2 by decide), if_pos rfl] at h
  simp only [Bool.and_eq_true] at h
  exact h.2.2.1.2.2.2
theorem dmf_5 {f t s q : Int} {i v : List (Int × Int)} {n : List Note} {b : Bd} (h : dmf ⟨5, f, t, s, q, i, v, n, b⟩ = true) : bright b = true := by
  unfold dmf ff at h
  rw [if_neg (show ¬ (5 : Int) = 1 by decide), if_neg (show ¬ (5 : Int) = 2 by decide), if_neg (show ¬ (5 : Int) = 3 by decide), if_neg (show ¬ (5 : Int) = 4 by decide), if_pos rfl] at h
  simp only [Bool.and_eq_true] at h
  exact h.2.2.1
theorem such_ptailf (k f t : Nat) (l : List Int) (a : Nat) : such dmf (ptail k f t l a) = such dmf (ptailf k f t l a) := by
  unfold ptail ptailf
  by_cases k1 : k = 1
  · subst k1
    rw [if_pos rfl, if_pos rfl]
    refine such_congr _ fun s => ?_
    rw [such_bind (g := Sp.fmd) _ _ (by
      intro i y hB hF
      obtain ⟨v, _, hB⟩ := map_some hB
      subst hB
      exact (dmf_1 hF).1), pset_m]
    refine such_congr _ fun i => ?_
    rw [such_map (g := Ve.fmd) _ _ (fun v hF => (dmf_1 hF).2), pvec_m]
  rw [if_neg k1, if_neg k1]
  by_cases k3 : k = 3
  · subst k3
    rw [if_pos rfl, if_pos rfl]
    refine such_congr _ fun s => ?_
    refine such_congr _ fun q => ?_
    rw [such_map (g := fun r : List Note => r.all Nt.fmd) _ _ (fun n hF => dmf_3 hF), pnotes_m]
  rw [if_neg k3, if_neg k3]
  by_cases k4 : k = 4
  · rw [if_pos k4, if_pos k4]
  rw [if_neg k4, if_neg k4]
  by_cases k5 : k = 5
  · subst k5
    rw [if_pos rfl, if_pos rfl, such_map (g := bright) _ _ (fun n hF => dmf_5 hF), pbody_m]
  rw [if_neg k5, if_neg k5]
/-- The two ways to read a message are one. -/
theorem such_pmsg (l : List Int) (a : Nat) : such dmf (pmsgr l a) = such mfmd (pmsg l a) := by
  have e : (mfmd : Ms → Bool) = dmf := by funext m; exact (dmf_mfmd m).symm
  rw [e]
  unfold pmsgr pmsg
  exact such_congr _ fun k => such_congr _ fun f => such_congr _ fun t => such_ptailf k.1 f.1 t.1 l t.2
end Wi
end Go.Proofs.Ytbbmngabbbehcaa
namespace Go.Proofs.Ytbbmngabbbehcaa
open Go.RowKit

/-- What the reference's Decode answers: the message that the bytes are, or the error. -/
def RecM (p : Nat → Option (Ms × Nat)) (n : Nat) (w : World) (e : Ending) (w' : World) : Prop :=
  ∃ I V N D ci cv cn d x er, e = .returned (.tuple #[.agg (msCells I V N D ci cv cn d x), .int .i64 er]) ∧ MsAt w' I V N D ci cv cn d x ∧ Below w.heap.size w w' ∧
    ((p 0 = some (x, n) ∧ er = 0) ∨ ((∀ y, p 0 ≠ some (y, n)) ∧ x = zeroMs ∧ er = 4))
section
variable {W w2 : World} {g gm c : Nat} {A : Option Addr} {l : List Int} {s : Option Nat}
theorem rd_set (mk : ∀ wx, Only g W wx → ∀ (a : Nat) (b : Bool), Blk wx g 32 #[.slice A l.length c, .int .i64 (a : Int), .bool b] → a ≤ l.length → RdAt wx g A c l (if b then none else some a)) (on : Only g W w2) (h : RdAt w2 g A c l s) (hgm : W.heap.size ≤ gm) (hne : g < gm) (i : Nat) (u : Value) : RdAt (w2.setCell ⟨gm, i, none⟩ u) g A c l s := by
  obtain ⟨a, b, hB, -, ha, rfl⟩ := h
  exact mk _ (on.setNew hgm i u) a b (hB.far (p := ⟨gm, i, none⟩) (show g ≠ gm by omega) u) ha
end
/-- A message in its own block, its lists in memory of the call's own. -/
structure MsHere (w : World) (gm : Nat) (I V N D : Option Addr) (ci cv cn d : Nat) (m : Ms) : Prop where
  blk : Blk w gm 74 (msCells I V N D ci cv cn d m)
  it : w.ownsRow (gm + 1) 95 2 (.slice I m.it.length ci) m.it.length (stCells m.it)
  vc : w.ownsRow (gm + 1) 61 2 (.slice V m.vc.length cv) m.vc.length (stCells m.vc)
  ns : NotesOwn w (gm + 1) (.slice N m.ns.length cn) m.ns
  bd : OneB w D d m.bd.v
/-- What is known on the way through the region that reads a note and appends it. -/
structure NtI (wr : World) (g gm : Nat) (A : Option Addr) (c : Nat) (l : List Int) (st : Option Nat) (Vv : Value) (L : Nat → Bool) (v : Nat → Value) (w : World) : Prop where
  on : Only g wr w
  c0 : L 0 = true → v 0 = .pointer (some ⟨gm, 7, none⟩)
  c1 : L 1 = true → v 1 = Vv
  c2 : L 2 = true → v 2 = .pointer (some ⟨g, 0, none⟩)
  rd : L 3 = false → RdAt w g A c l st
  nt : L 3 = true → ∃ S E B V cs ce cb cv y, v 3 = .agg (noteCells S E B V cs ce cb cv y) ∧ NoteOwn w (gm + 1) S E B V cs ce cb cv y ∧ RdAt w g A c l (Wi.nxt (Wi.pnote l) st) ∧ Wi.Got (Wi.pnote l) st y ∧ (L 4 = true → ∃ b, v 4 = .slice (some ⟨b, 0, none⟩) 1 1 ∧ Blk w b 51 (noteCells S E B V cs ce cb cv y))
  ord : L 4 = true → L 3 = true
section
variable {wr w : World} {g gm c : Nat} {A : Option Addr} {l : List Int} {st : Option Nat} {Vv : Value} {L : Nat → Bool} {v : Nat → Value}
theorem NtI.set0 (h : NtI wr g gm A c l st Vv L v w) : NtI wr g gm A c l st Vv (fun j => if j = 0 then true else L j) (upd v 0 (.pointer (some ⟨gm, 7, none⟩))) w :=
  ⟨h.on, fun _ => rfl, h.c1, h.c2, h.rd, h.nt, h.ord⟩
theorem NtI.set1 (h : NtI wr g gm A c l st Vv L v w) : NtI wr g gm A c l st Vv (fun j => if j = 1 then true else L j) (upd v 1 Vv) w :=
  ⟨h.on, h.c0, fun _ => rfl, h.c2, h.rd, h.nt, h.ord⟩
theorem NtI.set2 (h : NtI wr g gm A c l st Vv L v w) : NtI wr g gm A c l st Vv (fun j => if j = 2 then true else L j) (upd v 2 (.pointer (some ⟨g, 0, none⟩))) w :=
  ⟨h.on, h.c0, h.c1, fun _ => rfl, h.rd, h.nt, h.ord⟩
theorem NtI.set3 (h : NtI wr g gm A c l st Vv L v w) (hun : L 3 = false) {w2 : World} (ho : Only g w w2) {S E B V : Option Addr} {cs ce cb cv : Nat} {y : Note} (hn : NoteOwn w2 (gm + 1) S E B V cs ce cb cv y) (hr : RdAt w2 g A c l (Wi.nxt (Wi.pnote l) st)) (hg : Wi.Got (Wi.pnote l) st y) : NtI wr g gm A c l st Vv (fun j => if j = 3 then true else L j) (upd v 3 (.agg (noteCells S E B V cs ce cb cv y))) w2 :=
  by
  refine ⟨h.on.on ho, h.c0, h.c1, h.c2, fun e => ?_, fun _ => ⟨S, E, B, V, cs, ce, cb, cv, y, rfl, hn, hr, hg, fun e4 => ?_⟩, fun _ => rfl⟩
  · exact absurd e (by simp)
  · have e5 := h.ord (by simpa using e4)
    rw [hun] at e5
    cases e5
theorem NtI.set4 (h : NtI wr g gm A c l st Vv L v w) (h3 : L 3 = true) {S E B V : Option Addr} {cs ce cb cv : Nat} {y : Note} (e3 : v 3 = .agg (noteCells S E B V cs ce cb cv y)) (hn : NoteOwn w (gm + 1) S E B V cs ce cb cv y) (hr : RdAt w g A c l (Wi.nxt (Wi.pnote l) st)) (hg : Wi.Got (Wi.pnote l) st y) : NtI wr g gm A c l st Vv (fun j => if j = 4 then true else L j) (upd v 4 (.slice (some ⟨w.heap.size, 0, none⟩) 1 1)) (w.alloc (.cells (noteCells S E B V cs ce cb cv y) 51)) := by
  have hb := below_new (Below.refl w.heap.size w) (.cells (noteCells S E B V cs ce cb cv y) 51)
  refine ⟨h.on.below hb, h.c0, h.c1, h.c2, fun e => ?_, fun _ => ⟨S, E, B, V, cs, ce, cb, cv, y, e3, hn.later hb, hr.later hb, hg, fun _ => ⟨w.heap.size, rfl, Blk.new w _ _⟩⟩, fun _ => h3⟩
  have e5 : L 3 = false := by simpa using e
  rw [h3] at e5
  cases e5
end
theorem Wi.end_plain {α : Type} {p : Nat → Option (α × Nat)} {s0 s : Option Nat} {acc : α} (h : s0.bind p = s.map fun a => (acc, a)) : Wi.nxt p s0 = s ∧ Wi.Got p s0 acc := by
  constructor
  · unfold Wi.nxt
    rw [h]
    cases s <;> rfl
  · intro x a hx
    rw [h] at hx
    cases s with
    | none => cases hx
    | some b => cases hx; rfl
theorem oneB_nil (w : World) : OneB w none 0 [] := ⟨Nat.le_refl _, Nat.zero_le _, fun _ => ⟨rfl, rfl⟩, Lies.nil, fun _ h => by cases h⟩

set_option maxRecDepth 100000 in
set_option maxHeartbeats 12800000 in
theorem rdecode_any (A : Option Addr) (c : Nat) (l : List Int) (w : World) (hl : l.length ≤ 1099511627776) (h : OneB w A c l) :
    Calls Try.prog 44 #[.slice A l.length c] w (RecM (fun a => Wi.such Wi.mfmd (Wi.pmsg l a)) l.length w) := by
  obtain ⟨n0, hn0⟩ : ∃ n0, w.heap.size = n0 := ⟨_, rfl⟩
  obtain ⟨W, hW⟩ : ∃ W, (w.alloc (.cells #[.int .i64 0, .int .i64 0, .int .i64 0, .int .i64 0, .int .i64 0, .slice none 0 0, .slice none 0 0, .slice none 0 0, .int .i64 0, .int .i64 0, .int .i64 0, .slice none 0 0] 74)).alloc (.cells #[.slice A l.length c, .int .i64 0, .bool false] 32) = W := ⟨_, rfl⟩
  have hb0 : Below w.heap.size w W := by rw [← hW]; exact below_new (below_new (Below.refl _ _) _) _
  have hKR : Blk W n0 74 #[.int .i64 0, .int .i64 0, .int .i64 0, .int .i64 0, .int .i64 0, .slice none 0 0, .slice none 0 0, .slice none 0 0, .int .i64 0, .int .i64 0, .int .i64 0, .slice none 0 0] := by rw [← hW, ← hn0]; exact (Blk.new w _ _).alloc _
  have hKG : Blk W (n0 + 1) 32 #[.slice A l.length c, .int .i64 0, .bool false] := by rw [← hW, ← hn0]; simpa using Blk.new (w.alloc (.cells #[.int .i64 0, .int .i64 0, .int .i64 0, .int .i64 0, .int .i64 0, .slice none 0 0, .slice none 0 0, .slice none 0 0, .int .i64 0, .int .i64 0, .int .i64 0, .slice none 0 0] 74)) 32 #[.slice A l.length c, .int .i64 0, .bool false]
  have hWs : W.heap.size = n0 + 2 := by rw [← hW, ← hn0]; simp
  have hR : RdAt W (n0 + 1) A c l (some 0) := ⟨0, false, hKG, h.later hb0, Nat.zero_le _, rfl⟩
  have hll := h.len
  have MK := Lib.hid hR.keeps
  have NN := Lib.hid (fun s wx (hx : RdAt wx (n0 + 1) A c l s) => rdnum_any (n0 + 1) A c l s wx hx)
  have CK := Lib.hid (rdnum_any (n0 + 1) A c l (some 0) W hR)
  have HW := Lib.hid hW; have HN := Lib.hid hn0; have KR := Lib.hid hKR; have B0 := Lib.hid hb0; have HWS := Lib.hid hWs
  clear hW hn0 hKR hKG hb0 hWs hR h
  go_enter Try.func44, Try.ntmps44
  go_wp2_with fail
  rw [HW.out]
  try rw [HN.out]
  refine CK.out.mono ?_
  rintro e w1 ⟨kd, rfl, hkd, hr1, ho1, hg1, _⟩
  have s1 : n0 + 2 ≤ w1.heap.size := by have := ho1.size; rw [HWS.out] at this; exact this
  have K1 := Lib.hid (ho1.blk KR.out (show n0 ≠ n0 + 1 by omega))
  have O1 := Lib.hid ho1; have GK := Lib.hid hg1; have R1 := Lib.hid hr1
  obtain ⟨gm, hgm⟩ : ∃ gm, w1.heap.size = gm := ⟨_, rfl⟩
  have kz := Blk.new w1 74 #[.int .i64 0, .int .i64 0, .int .i64 0, .int .i64 0, .int .i64 0, .slice none 0 0, .slice none 0 0, .slice none 0 0, .int .i64 0, .int .i64 0, .int .i64 0, .slice none 0 0]
  have kz2 := kz.row #[.int .i64 (kd : Int), .int .i64 0, .int .i64 0, .int .i64 0, .int .i64 0, .slice none 0 0, .slice none 0 0, .slice none 0 0, .int .i64 0, .int .i64 0, .int .i64 0, .slice none 0 0]
  have bz : Below w1.heap.size w1 ((w1.alloc (.cells #[.int .i64 0, .int .i64 0, .int .i64 0, .int .i64 0, .int .i64 0, .slice none 0 0, .slice none 0 0, .slice none 0 0, .int .i64 0, .int .i64 0, .int .i64 0, .slice none 0 0] 74)).setRow w1.heap.size #[.int .i64 (kd : Int), .int .i64 0, .int .i64 0, .int .i64 0, .int .i64 0, .slice none 0 0, .slice none 0 0, .slice none 0 0, .int .i64 0, .int .i64 0, .int .i64 0, .slice none 0 0]) := (Only.row _ w1.heap.size _).to_below (by simp) (Nat.le_refl _) |> fun h => (below_new (Below.refl _ _) _).trans h
  obtain ⟨W1, hW1⟩ : ∃ W1, (w1.alloc (.cells #[.int .i64 0, .int .i64 0, .int .i64 0, .int .i64 0, .int .i64 0, .slice none 0 0, .slice none 0 0, .slice none 0 0, .int .i64 0, .int .i64 0, .int .i64 0, .slice none 0 0] 74)).setRow w1.heap.size #[.int .i64 (kd : Int), .int .i64 0, .int .i64 0, .int .i64 0, .int .i64 0, .slice none 0 0, .slice none 0 0, .slice none 0 0, .int .i64 0, .int .i64 0, .int .i64 0, .slice none 0 0] = W1 := ⟨_, rfl⟩
  rw [hW1] at kz2 bz
  have hzw : gm + 1 ≤ W1.heap.size := by have := kz2.lt; omega
  have K := Lib.hid (show Blk W1 gm 74 #[.int .i64 (kd : Int), .int .i64 0, .int .i64 0, .int .i64 0, .int .i64 0, .slice none 0 0, .slice none 0 0, .slice none 0 0, .int .i64 0, .int .i64 0, .int .i64 0, .slice none 0 0] by rw [← hgm]; exact kz2)
  have KR2 := Lib.hid (K1.out.later bz); have O := Lib.hid (O1.out.below bz); have R := Lib.hid (R1.out.later bz)
  have HGW := Lib.hid (show W.heap.size ≤ gm by rw [HWS.out, ← hgm]; exact s1)
  have hng : n0 + 1 < gm := by rw [← hgm]; omega
  have HW1 := Lib.hid hW1; have KZ := Lib.hid kz; have HGM := Lib.hid hgm
  clear ho1 hg1 hr1 CK KR kz kz2 bz hW1 hgm K1 O1 R1 s1
  go_upto_region 3 with (refine wpList_store_row rfl 74 _ _ rfl w1.heap.size #[.int .i64 (kd : Int), .int .i64 0, .int .i64 0, .int .i64 0, .int .i64 0, .slice none 0 0, .slice none 0 0, .slice none 0 0, .int .i64 0, .int .i64 0, .int .i64 0, .slice none 0 0] rfl rfl 74 #[.int .i64 0, .int .i64 0, .int .i64 0, .int .i64 0, .int .i64 0, .slice none 0 0, .slice none 0 0, .slice none 0 0, .int .i64 0, .int .i64 0, .int .i64 0, .slice none 0 0] KZ.out infoMs12 rfl (by simp [Value.oneCell']) ?_)
  rw [HW1.out, HGM.out]
  have CK := Lib.hid (NN.out _ _ R.out)
  go_wp2_with fail
  refine CK.out.mono ?_
  rintro e w2 ⟨mf, rfl, hmf, hr, ho, Gmf, _⟩
  have Gmf := Lib.hid Gmf
  have k := ho.blk K.out (show gm ≠ n0 + 1 by omega); have kr := ho.blk KR2.out (show n0 ≠ n0 + 1 by omega)
  have t2 := k.free 1; have z2 := k.cell (i := 1) rfl
  have oo := O.out.on ho; have sz := Nat.le_trans hzw ho.size
  have hz2 : gm + 1 ≤ (w2.setCell ⟨gm, 1, none⟩ (.int .i64 (mf : Int))).heap.size := by simpa [World.setCell] using sz
  have K2 := Lib.hid (k.put 1 (.int .i64 (mf : Int))); have KR2 := Lib.hid (kr.far (p := ⟨gm, 1, none⟩) (show n0 ≠ gm by omega) (.int .i64 (mf : Int))); have O2 := Lib.hid (oo.setNew HGW.out 1 (.int .i64 (mf : Int))); have R2 := Lib.hid (rd_set MK.out oo hr HGW.out hng 1 (.int .i64 (mf : Int)))
  clear hr ho k kr oo sz CK 
  have CK := Lib.hid (NN.out _ _ R2.out)
  go_wp2_with fail
  refine CK.out.mono ?_
  rintro e w3 ⟨mt, rfl, hmt, hr, ho, Gmt, _⟩
  have Gmt := Lib.hid Gmt
  have k := ho.blk K2.out (show gm ≠ n0 + 1 by omega); have kr := ho.blk KR2.out (show n0 ≠ n0 + 1 by omega)
  have t3 := k.free 2; have z3 := k.cell (i := 2) rfl
  have oo := O2.out.on ho; have sz := Nat.le_trans hz2 ho.size
  have hz3 : gm + 1 ≤ (w3.setCell ⟨gm, 2, none⟩ (.int .i64 (mt : Int))).heap.size := by simpa [World.setCell] using sz
  have K3 := Lib.hid (k.put 2 (.int .i64 (mt : Int))); have KR3 := Lib.hid (kr.far (p := ⟨gm, 2, none⟩) (show n0 ≠ gm by omega) (.int .i64 (mt : Int))); have O3 := Lib.hid (oo.setNew HGW.out 2 (.int .i64 (mt : Int))); have R3 := Lib.hid (rd_set MK.out oo hr HGW.out hng 2 (.int .i64 (mt : Int)))
  clear hr ho k kr oo sz CK t2 z2
  have FM := Lib.hid (fun (m : Ms) (q : Wi.Got (Wi.ptailf kd mf mt l) (Wi.nxt (Wi.pnum l) (Wi.nxt (Wi.pnum l) (Wi.nxt (Wi.pnum l) (some 0)))) m) => (Wi.pmsg_nxt (m := m) GK.out Gmf.out Gmt.out).2 q)
  have FN := Lib.hid ((Wi.pmsg_nxt (m := zeroMs) GK.out Gmf.out Gmt.out).1)
  have y0 := K3.out.cell (i := 0) rfl
  go_upto_block 0 with (fail)
  clear y0 t3 z3
  go_cut [6] (fun s6 wx => ∃ I V N D ci cv cn d m st, MsHere wx gm I V N D ci cv cn d m ∧ RdAt wx (n0 + 1) A c l st ∧ Only (n0 + 1) W wx ∧ Blk wx n0 74 #[.int .i64 0, .int .i64 0, .int .i64 0, .int .i64 0, .int .i64 0, .slice none 0 0, .slice none 0 0, .slice none 0 0, .int .i64 0, .int .i64 0, .int .i64 0, .slice none 0 0] ∧ st = Wi.nxt (Wi.pmsg l) (some 0) ∧ Wi.Got (Wi.pmsg l) (some 0) m)
  case first =>
    by_cases hk1 : kd = 1
    · have HKD := Lib.hid hk1
      have q1 : ((kd : Int) == 1) = true := beq_iff_eq.2 (by omega)
      clear hk1
      have CK := Lib.hid (NN.out _ _ R3.out)
      go_wp2_with fail
      refine CK.out.mono ?_
      rintro e w4 ⟨ms, rfl, hms, hr, ho, Gms, _⟩
      have Gms := Lib.hid Gms
      have k := ho.blk K3.out (show gm ≠ n0 + 1 by omega); have kr := ho.blk KR3.out (show n0 ≠ n0 + 1 by omega)
      have t4 := k.free 3; have z4 := k.cell (i := 3) rfl
      have oo := O3.out.on ho; have sz := Nat.le_trans hz3 ho.size
      have hz4 : gm + 1 ≤ (w4.setCell ⟨gm, 3, none⟩ (.int .i64 (ms : Int))).heap.size := by simpa [World.setCell] using sz
      have K4 := Lib.hid (k.put 3 (.int .i64 (ms : Int))); have KR4 := Lib.hid (kr.far (p := ⟨gm, 3, none⟩) (show n0 ≠ gm by omega) (.int .i64 (ms : Int))); have O4 := Lib.hid (oo.setNew HGW.out 3 (.int .i64 (ms : Int))); have R4 := Lib.hid (rd_set MK.out oo hr HGW.out hng 3 (.int .i64 (ms : Int)))
      clear hr ho k kr oo sz CK 
      have CK := Lib.hid (rdset_own (n0 + 1) A c l _ _ hl R4.out)
      go_wp2_with fail
      refine CK.out.mono ?_
      rintro e w5 ⟨D5, d5, x5, rfl, hx5, how5, hr, ho, hg5⟩
      have G5 := Lib.hid hg5; have OI5 := Lib.hid (own_set0 (own_base how5 hz4) (show gm < gm + 1 by omega) 5 (.slice D5 x5.length d5))
      clear hg5 how5
      have k := ho.blk K4.out (show gm ≠ n0 + 1 by omega); have kr := ho.blk KR4.out (show n0 ≠ n0 + 1 by omega)
      have t5 := k.free 5; have z5 := k.cell (i := 5) rfl
      have oo := O4.out.on ho; have sz := Nat.le_trans hz4 ho.size
      have hz5 : gm + 1 ≤ (w5.setCell ⟨gm, 5, none⟩ (.slice D5 x5.length d5)).heap.size := by simpa [World.setCell] using sz
      have K5 := Lib.hid (k.put 5 (.slice D5 x5.length d5)); have KR5 := Lib.hid (kr.far (p := ⟨gm, 5, none⟩) (show n0 ≠ gm by omega) (.slice D5 x5.length d5)); have O5 := Lib.hid (oo.setNew HGW.out 5 (.slice D5 x5.length d5)); have R5 := Lib.hid (rd_set MK.out oo hr HGW.out hng 5 (.slice D5 x5.length d5))
      clear hr ho k kr oo sz CK t4 z4
      have CK := Lib.hid (rdvec_own (n0 + 1) A c l _ _ hl R5.out)
      go_wp2_with fail
      refine CK.out.mono ?_
      rintro e w6 ⟨D6, d6, x6, rfl, hx6, how6, hr, ho, hg6⟩
      have G6 := Lib.hid hg6; have OV6 := Lib.hid (own_set0 (own_base how6 hz5) (show gm < gm + 1 by omega) 6 (.slice D6 x6.length d6))
      clear hg6 how6
      have OI6o := Lib.hid (own_set0 (ho.own OI5.out (show n0 + 1 < gm + 1 by omega)) (show gm < gm + 1 by omega) 6 (.slice D6 x6.length d6))
      have k := ho.blk K5.out (show gm ≠ n0 + 1 by omega); have kr := ho.blk KR5.out (show n0 ≠ n0 + 1 by omega)
      have t6 := k.free 6; have z6 := k.cell (i := 6) rfl
      have oo := O5.out.on ho; have sz := Nat.le_trans hz5 ho.size
      have hz6 : gm + 1 ≤ (w6.setCell ⟨gm, 6, none⟩ (.slice D6 x6.length d6)).heap.size := by simpa [World.setCell] using sz
      have K6 := Lib.hid (k.put 6 (.slice D6 x6.length d6)); have KR6 := Lib.hid (kr.far (p := ⟨gm, 6, none⟩) (show n0 ≠ gm by omega) (.slice D6 x6.length d6)); have O6 := Lib.hid (oo.setNew HGW.out 6 (.slice D6 x6.length d6)); have R6 := Lib.hid (rd_set MK.out oo hr HGW.out hng 6 (.slice D6 x6.length d6))
      clear hr ho k kr oo sz CK t5 z5
      obtain ⟨e1, e2⟩ := Wi.ptailf1 (f := mf) (t := mt) HKD.out Gms.out G5.out G6.out
      have E1 := Lib.hid (FN.out.trans e1); have E2 := Lib.hid (FM.out _ e2)
      clear e1 e2
      go_wp2_with fail
      go_meet
      refine ⟨D5, D6, none, none, d5, d6, 0, 0, (⟨(kd : Int), (mf : Int), (mt : Int), (ms : Int), 0, x5, x6, [], zeroBd⟩ : Ms), _, ⟨K6.out, OI6o.out, OV6.out, NotesOwn.nil _ _, oneB_nil _⟩, R6.out, O6.out, KR6.out, E1.out.symm, E2.out⟩
    by_cases hk3 : kd = 3
    · have HKD := Lib.hid hk3
      have q1 : ((kd : Int) == 1) = false := beq_eq_false_iff_ne.2 (by omega)
      have q3 : ((kd : Int) == 3) = true := beq_iff_eq.2 (by omega)
      clear hk3 hk1
      have CK := Lib.hid (NN.out _ _ R3.out)
      go_wp2_with fail
      refine CK.out.mono ?_
      rintro e w4 ⟨ms, rfl, hms, hr, ho, Gms, _⟩
      have Gms := Lib.hid Gms
      have k := ho.blk K3.out (show gm ≠ n0 + 1 by omega); have kr := ho.blk KR3.out (show n0 ≠ n0 + 1 by omega)
      have t4 := k.free 3; have z4 := k.cell (i := 3) rfl
      have oo := O3.out.on ho; have sz := Nat.le_trans hz3 ho.size
      have hz4 : gm + 1 ≤ (w4.setCell ⟨gm, 3, none⟩ (.int .i64 (ms : Int))).heap.size := by simpa [World.setCell] using sz
      have K4 := Lib.hid (k.put 3 (.int .i64 (ms : Int))); have KR4 := Lib.hid (kr.far (p := ⟨gm, 3, none⟩) (show n0 ≠ gm by omega) (.int .i64 (ms : Int))); have O4 := Lib.hid (oo.setNew HGW.out 3 (.int .i64 (ms : Int))); have R4 := Lib.hid (rd_set MK.out oo hr HGW.out hng 3 (.int .i64 (ms : Int)))
      clear hr ho k kr oo sz CK 
      have CK := Lib.hid (NN.out _ _ R4.out)
      go_wp2_with fail
      refine CK.out.mono ?_
      rintro e w5 ⟨mq, rfl, hmq, hr, ho, Gmq, _⟩
      have Gmq := Lib.hid Gmq
      have k := ho.blk K4.out (show gm ≠ n0 + 1 by omega); have kr := ho.blk KR4.out (show n0 ≠ n0 + 1 by omega)
      have t5 := k.free 4; have z5 := k.cell (i := 4) rfl
      have oo := O4.out.on ho; have sz := Nat.le_trans hz4 ho.size
      have hz5 : gm + 1 ≤ (w5.setCell ⟨gm, 4, none⟩ (.int .i64 (mq : Int))).heap.size := by simpa [World.setCell] using sz
      have K5 := Lib.hid (k.put 4 (.int .i64 (mq : Int))); have KR5 := Lib.hid (kr.far (p := ⟨gm, 4, none⟩) (show n0 ≠ gm by omega) (.int .i64 (mq : Int))); have O5 := Lib.hid (oo.setNew HGW.out 4 (.int .i64 (mq : Int))); have R5 := Lib.hid (rd_set MK.out oo hr HGW.out hng 4 (.int .i64 (mq : Int)))
      clear hr ho k kr oo sz CK t4 z4
      have CK := Lib.hid (NN.out _ _ R5.out)
      go_wp2_with fail
      refine CK.out.mono ?_
      rintro e w6 ⟨n, rfl, hn63, hr, ho, hgn, _⟩
      have k := ho.blk K5.out (show gm ≠ n0 + 1 by omega)
      have K6 := Lib.hid (show Blk w6 gm 74 #[.int .i64 (kd : Int), .int .i64 (mf : Int), .int .i64 (mt : Int), .int .i64 (ms : Int), .int .i64 (mq : Int), .slice none 0 0, .slice none 0 0, .slice none 0 0, .int .i64 0, .int .i64 0, .int .i64 0, .slice none 0 0] from k)
      have KR6 := Lib.hid (ho.blk KR5.out (show n0 ≠ n0 + 1 by omega))
      have O6 := Lib.hid (O5.out.on ho)
      obtain ⟨ra, rb, hB, hOB, hra, hs⟩ := hr
      have HGN := Lib.hid hgn
      have hz6 := Nat.le_trans hz5 ho.size
      have cB := hB.cell (i := 2) rfl; have fB := hB.free 2
      obtain ⟨nb, hnb⟩ : ∃ nb : Bool, (rb || decide (257 < n)) = nb := ⟨_, rfl⟩
      obtain ⟨SN, hSN⟩ : ∃ SN : Option Nat, SN = Wi.nxt (Wi.pnum l) (Wi.nxt (Wi.pnum l) (Wi.nxt (Wi.pnum l) (Wi.nxt (Wi.pnum l) (Wi.nxt (Wi.pnum l) (some 0))))) := ⟨_, rfl⟩
      have hinv : Wi.Inv (Wi.pnote l) (SN.bind (Wi.plistm 257 (Wi.pnote l) l)) n [] (if nb then none else some ra) := by
        subst hSN
        by_cases hm : n ≤ 257
        · have h1 := Wi.invm_start (p := Wi.pnote l) hgn hm
          have e : nb = rb := by rw [← hnb, decide_eq_false (by omega), Bool.or_false]
          rw [e, ← hs]
          exact h1
        · have h1 := Wi.invm_many (p := Wi.pnote l) hgn hm
          have e : nb = true := by rw [← hnb, decide_eq_true (by omega), Bool.or_true]
          rw [e, h1]
          rfl
      have hlen : nb = false → n ≤ 257 := fun e => by
        rw [← hnb, Bool.or_eq_false_iff] at e
        have := of_decide_eq_false e.2
        omega
      have OB := Lib.hid (O6.out.set 2 (.bool nb))
      have KB := Lib.hid (K6.out.far (p := ⟨n0 + 1, 2, none⟩) (show gm ≠ n0 + 1 by omega) (.bool nb)); have KRB := Lib.hid (KR6.out.far (p := ⟨n0 + 1, 2, none⟩) (show n0 ≠ n0 + 1 by omega) (.bool nb))
      have RB := Lib.hid (MK.out _ OB.out ra nb (hB.put 2 (.bool nb)) hra)
      have HINV := Lib.hid hinv; have HLEN := Lib.hid hlen; have HSN := Lib.hid hSN; have HNB := Lib.hid hnb
      have hzB : gm + 1 ≤ (w6.setCell ⟨n0 + 1, 2, none⟩ (.bool nb)).heap.size := by simpa [World.setCell] using hz6
      clear hB hOB hra hs hgn hinv hlen hSN hnb k ho CK t5 z5 K6 KR6 O6 hz6
      go_upto_region 14 with (fail)
      go_cut [6] (fun s6 wx => s6 = .int .i64 (n : Int) ∧ wx = w6.setCell ⟨n0 + 1, 2, none⟩ (.bool nb))
      case first =>
        cases rb with
        | true =>
          have hv : true = nb := by have := HNB.out; simpa using this
          subst hv
          go_wp2_with fail
          go_meet
          exact ⟨rfl, rfl⟩
        | false =>
          have hv : decide ((257 : Int) < (n : Int)) = nb := by
            have := HNB.out
            rw [Bool.false_or] at this
            rw [← this]
            by_cases e : 257 < n
            · rw [decide_eq_true e, decide_eq_true (by omega)]
            · rw [decide_eq_false e, decide_eq_false (by omega)]
          go_wp2_with fail
          go_meet
          exact ⟨rfl, by first | rfl | rw [hv]⟩
      case rest =>
        obtain ⟨rfl, hwc⟩ := hcut
        obtain ⟨WB, hWB⟩ : ∃ WB, w6.setCell ⟨n0 + 1, 2, none⟩ (.bool nb) = WB := ⟨_, rfl⟩
        have hwc2 : wc = WB := hwc.trans hWB
        subst hwc2
        have KB2 := Lib.hid (show Blk wc gm 74 _ from hwc ▸ KB.out); have KRB2 := Lib.hid (show Blk wc n0 74 _ from hwc ▸ KRB.out); have OB2 := Lib.hid (show Only (n0 + 1) W wc from hwc ▸ OB.out)
        have RB2 := Lib.hid (show RdAt wc (n0 + 1) A c l _ from hwc ▸ RB.out)
        have hzB2 : gm + 1 ≤ wc.heap.size := by rw [hwc]; exact hzB
        clear hWB hwc KB KRB OB RB hzB cB fB
        go_wp2_with fail
        go_loopw [6] (fun s6 wr => ∃ (k : Nat) (acc : List Note) (st : Option Nat) (Vv : Value), s6 = .int .i64 (k : Int) ∧ k ≤ 9223372036854775807 ∧ Blk wr gm 74 #[.int .i64 (kd : Int), .int .i64 (mf : Int), .int .i64 (mt : Int), .int .i64 (ms : Int), .int .i64 (mq : Int), .slice none 0 0, .slice none 0 0, Vv, .int .i64 0, .int .i64 0, .int .i64 0, .slice none 0 0] ∧ NotesOwn wr (gm + 1) Vv acc ∧ Blk wr n0 74 #[.int .i64 0, .int .i64 0, .int .i64 0, .int .i64 0, .int .i64 0, .slice none 0 0, .slice none 0 0, .slice none 0 0, .int .i64 0, .int .i64 0, .int .i64 0, .slice none 0 0] ∧ RdAt wr (n0 + 1) A c l st ∧ Only (n0 + 1) W wr ∧ Wi.Inv (Wi.pnote l) (SN.bind (Wi.plistm 257 (Wi.pnote l) l)) k acc st ∧ acc.length ≤ 257 ∧ (st ≠ none → acc.length + k ≤ 257) ∧ gm + 1 ≤ wr.heap.size) (fun s6 _ => (intOf s6).toNat)
        case atStart => exact ⟨n, [], _, .slice none 0 0, rfl, hn63, KB2.out, NotesOwn.nil _ _, KRB2.out, RB2.out, OB2.out, HINV.out, Nat.zero_le _, (fun e => by
          cases nb with
          | true => exact absurd rfl e
          | false => have := HLEN.out rfl; simpa using this), hzB2⟩
        case round =>
          obtain ⟨k, acc, st, Vv, rfl, hk63, hK, hNO, hKR, hR, hO, hI, hal, hak, hzr⟩ := hrel
          obtain ⟨ra2, rb2, hB, hOB, hra2, hst⟩ := hR
          have cB := hB.cell (i := 2) rfl
          have HK := Lib.hid hK; have HNO := Lib.hid hNO; have HKR3 := Lib.hid hKR; have HO := Lib.hid hO; have HI := Lib.hid hI; have HST := Lib.hid hst; have HAK := Lib.hid hak
          have HRR := Lib.hid (show RdAt wr (n0 + 1) A c l st from ⟨ra2, rb2, hB, hOB, hra2, hst⟩)
          clear hK hNO hKR hO hI hst hak hB hOB hra2 KB2 KRB2 OB2 RB2 hzB2 HINV
          by_cases hk : 0 < k ∧ rb2 = false
          · obtain ⟨hk0, rfl⟩ := hk
            obtain ⟨k, rfl⟩ : ∃ m, k = m + 1 := ⟨k - 1, by omega⟩
            have hd : decide ((0 : Int) < ((k + 1 : Nat) : Int)) = true := decide_eq_true (by omega)
            have hkk : ((k + 1 : Nat) : Int) - 1 = (k : Int) := by omega
            have HAK2 := Lib.hid (HAK.out (by rw [HST.out]; simp))
            have C7 := Lib.hid (HK.out.cell (i := 7) rfl)
            have hz9 := hzr
            have CST := Lib.hid (show st = some ra2 from HST.out)
            go_upto_region 17 with (fail)
            clear cB
            refine wp_region_gen 5 (by kernel_rfl) (by kernel_rfl) (fun v => { tmps := #[.slice A l.length c, undef, .pointer (some ⟨n0, 0, none⟩), .int .i64 0, .pointer (some ⟨n0 + 1, 0, none⟩), .pointer (some ⟨gm, 0, none⟩), .int .i64 ((k + 1 : Nat) : Int), u7, u8, u9, u10, u11, u12, u13, u14, u15, u16, u17, u18, u19, .int .i64 (kd : Int), .bool false, u22, u23, u24, u25, u26, u27, u28, u29, u30, u31, .bool true, u33, u34, u35, u36, u37, u38, u39, u40, u41, u42, u43, u44, u45, u46, u47, u48, u49, u50, u51, u52, .int .i64 ((k + 1 : Nat) : Int), .bool true, .bool true, .pointer (some ⟨n0 + 1, 0, none⟩), .pointer (some ⟨n0 + 1, 0, none⟩), .pointer (some ⟨n0 + 1, 2, none⟩), .bool false, .bool true, .bool true, u62, u63, v 0, v 1, v 2, v 3, v 4, u69, u70, undef, u72, u73, u74, u75, u76, undef, u78, u79, u80, u81, u82, u83, u84, u85, u86, u87, u88, u89, u90, u91, u92, u93, u94, u95, u96, u97, u98, u99, u100, u101], defers := [] }) (fun i => match i with | 0 => u64 | 1 => u65 | 2 => u66 | 3 => u67 | _ => u68) (NtI wr (n0 + 1) gm A c l st Vv) ?start ?step ?done
            case start => exact fun L hL => ⟨⟨rfl, rfl, rfl, Nat.le_refl _, fun _ _ _ => rfl⟩, (fun h => by rw [hL 0 (by omega)] at h; cases h), (fun h => by rw [hL 1 (by omega)] at h; cases h), (fun h => by rw [hL 2 (by omega)] at h; cases h), (fun _ => by obtain ⟨x1, x2, x3, x4, x5, x6⟩ := HRR.out; exact ⟨x1, x2, x3, ⟨x4.le, x4.cap, x4.noA, x4.lies, x4.byte⟩, x5, x6⟩), (fun h => by rw [hL 3 (by omega)] at h; cases h), (fun h => by rw [hL 4 (by omega)] at h; cases h)⟩
            case step =>
              intro i hi L v w' hI hun hd
              match i, hi with
              | 0, _ =>
                have ST9 := Lib.hid hI.set0
                refine wpOp_one rfl ?_
                clear hd hI
                go_wp2
                first | exact ⟨_, (by simp [upd]; done), ST9.out⟩ | exact ⟨(by simp [upd]; done), ST9.out⟩
              | 1, _ =>
                have h0 : v 0 = _ := hI.c0 (hd 0 (List.elem_iff.1 (by kernel_rfl)))
                have ST9 := Lib.hid hI.set1
                have c7 := (hI.on.blk HK.out (show gm ≠ n0 + 1 by omega)).cell (i := 7) rfl
                refine wpOp_one rfl ?_
                clear hd hI
                rw [h0]
                go_wp2
                first | exact ⟨_, (by simp [upd, h0]; done), ST9.out⟩ | exact ⟨(by simp [upd, h0]; done), ST9.out⟩
              | 2, _ =>
                have ST9 := Lib.hid hI.set2
                refine wpOp_one rfl ?_
                clear hd hI
                go_wp2
                first | exact ⟨_, (by simp [upd]; done), ST9.out⟩ | exact ⟨(by simp [upd]; done), ST9.out⟩
              | 3, _ =>
                have h2 : v 2 = _ := hI.c2 (hd 2 (List.elem_iff.1 (by kernel_rfl)))
                have CN := Lib.hid (rdnote_own (n0 + 1) A c l st w' hl (hI.rd hun))
                have hzz : gm + 1 ≤ w'.heap.size := Nat.le_trans hz9 hI.on.size
                have HII := Lib.hid hI; have HUN := Lib.hid hun
                refine wpOp_one rfl ?_
                clear hd hI hun
                rw [h2]
                go_wp2_with fail
                refine CN.out.mono ?_
                rintro e w7 ⟨S, E, B, V, cs, ce, cb, cv, y, rfl, -, -, -, -, -, hr7, ho7, hg7, o1, o2, o3, o4⟩
                have ST9 := Lib.hid (HII.out.set3 HUN.out ho7 ⟨own_base o1 hzz, own_base o2 hzz, own_base o3 hzz, own_base o4 hzz⟩ hr7 hg7)
                clear hr7 ho7 hg7 o1 o2 o3 o4
                go_wp2
                first | exact ⟨_, (by simp [upd, h2]; done), ST9.out⟩ | exact ⟨(by simp [upd, h2]; done), ST9.out⟩
              | 4, _ =>
                have e3 := hd 3 (List.elem_iff.1 (by kernel_rfl))
                obtain ⟨S, E, B, V, cs, ce, cb, cv, y, h3, hn, hr7, hg7, -⟩ := hI.nt e3
                have ST9 := Lib.hid (hI.set4 e3 h3 hn hr7 hg7)
                refine wpOp_one rfl ?_
                clear hd hI hn hr7 hg7 e3
                rw [h3]
                unfold noteCells
                go_wp2
                first | exact ⟨_, (by simp [upd, h3, noteCells]; done), ST9.out⟩ | exact ⟨(by simp [upd, h3, noteCells]; done), ST9.out⟩
              | k' + 5, hk' => exact absurd hk' (by omega)
            case done =>
              intro L v w5 hI hall
              have h0 : v 0 = _ := hI.c0 (hall 0 (by omega))
              have h1 : v 1 = _ := hI.c1 (hall 1 (by omega))
              have h2 : v 2 = _ := hI.c2 (hall 2 (by omega))
              obtain ⟨S, E, B, V, cs, ce, cb, cv, y, h3, hn, hr7, hg7, h4⟩ := hI.nt (hall 3 (by omega))
              obtain ⟨b4, h4, hb4⟩ := h4 (hall 4 (by omega))
              have hown := HNO.out.only hI.on (show n0 + 1 < gm + 1 by omega)
              obtain ⟨xs, hx1, hx2, hx3, hx4⟩ := hown
              have k5 := hI.on.blk HK.out (show gm ≠ n0 + 1 by omega)
              have kr5 := hI.on.blk HKR3.out (show n0 ≠ n0 + 1 by omega)
              have on5 := HO.out.on hI.on
              have hz5 : gm + 1 ≤ w5.heap.size := Nat.le_trans hz9 hI.on.size
              obtain ⟨ra5, rb5, hB5, -, hra5, hst5⟩ := hr7
              have HX1 := Lib.hid hx1; have HX := Lib.hid (And.intro hx2 (And.intro hx3 hx4)); have K5 := Lib.hid k5; have KR5 := Lib.hid kr5; have ON5 := Lib.hid on5; have HB5 := Lib.hid hB5; have HST5 := Lib.hid hst5; have HN5 := Lib.hid hn; have HG7 := Lib.hid hg7; have HB4 := Lib.hid hb4
              have hlw : W.heap.size ≤ gm + 1 := Nat.le_trans HGW.out (Nat.le_succ _)
              have HLW := Lib.hid hlw
              have hak2 := HAK2.out
              clear hx1 hx2 hx3 hx4 k5 kr5 on5 hB5 hst5 hn hg7 hb4 hI hall hlw
              obtain ⟨i0, hi, hz0, hz1, hz2⟩ := info_parts infoNtL
              rw [h0, h1, h2, h3, h4]
              simp only [List.drop_succ_cons, List.drop_zero]
              go_wp2_with (at_builtin; refine wpList_append_lies _ rfl _ _ 72 rfl (gm + 1) 51 i0 (.agg #[.slice none 0 0, .slice none 0 0, .slice none 0 0, .slice none 0 0]) 4 96 Try.underlying72 hi hz0 hz1 hz2 rfl (by decide) _ acc.length xs rfl HX1.out (some ⟨b4, 0, none⟩) 1 1 (fun h => by cases h) (ntc S E B V cs ce cb cv y) rfl rfl ?c1 (fun u hu => by simp [ntc] at hu; rcases hu with rfl | rfl | rfl | rfl <;> rfl) ?c3 ?c4 ?c5 ?_)
              case c1 =>
                refine fun _ => ⟨b4, 0, rfl, fun j u hu => ?_⟩
                rw [Nat.zero_add]
                refine HB4.out.cell ?_
                simpa [ntc, noteCells] using hu
              case c3 => unfold maxLen; omega
              case c4 => omega
              case c5 => exact hz5
              intro v9 w9 ho9 hg9 _
              have hso := NotesOwn.snoc HX1.out HX.out.1 HX.out.2.1 HX.out.2.2 HN5.out hg9 ho9
              obtain ⟨Q9, c9, hv9, -⟩ := own_form ho9
              subst hv9
              have rowne : ∀ k', Vv.ownBlock = some k' → gm + 1 ≤ k' := fun k' hk' => own_ge HX1.out k' hk'
              have k9 := (hg9.block gm K5.out.lt (fun e => by have := rowne _ e.symm; omega)).trans K5.out
              have kr9 := (hg9.block n0 KR5.out.lt (fun e => by have := rowne _ e.symm; omega)).trans KR5.out
              have b9 := (hg9.block (n0 + 1) HB5.out.lt (fun e => by have := rowne _ e.symm; omega)).trans HB5.out
              have on9 := Only.grown ON5.out hg9 (fun k' hk' => Nat.le_trans HLW.out (rowne k' hk'))
              have r9 := MK.out _ on9 ra5 rb5 b9 hra5
              rw [← HST5.out] at r9
              have y7 := Blk.cell (i := 7) k9 rfl; have t7 := Blk.free k9 7
              have r10 := rd_set MK.out on9 r9 HGW.out hng 7 (.slice Q9 (acc.length + 1) c9)
              have k10 := Blk.put k9 7 (.slice Q9 (acc.length + 1) c9)
              have kr10 := Blk.far (p := ⟨gm, 7, none⟩) kr9 (show n0 ≠ gm by omega) (.slice Q9 (acc.length + 1) c9)
              have on10 := on9.setNew HGW.out 7 (.slice Q9 (acc.length + 1) c9)
              have ns10 := hso.set (show gm < gm + 1 by omega) 7 (.slice Q9 (acc.length + 1) c9)
              have hz10 : gm + 1 ≤ (w9.setCell ⟨gm, 7, none⟩ (.slice Q9 (acc.length + 1) c9)).heap.size := by
                have := hg9.size
                simp [World.setCell]
                omega
              have inv10 := Wi.inv_next HI.out rfl HG7.out
              have R10 := Lib.hid r10; have K10 := Lib.hid k10; have KR10 := Lib.hid kr10; have ON10 := Lib.hid on10; have NS10 := Lib.hid ns10; have IV10 := Lib.hid inv10
              clear hso rowne k9 kr9 b9 on9 r9 r10 k10 kr10 on10 ns10 inv10 ho9 hg9 h0 h1 h2 h3 h4
              go_wp2_with fail
              go_roundw
              case rel => exact ⟨k, acc ++ [y], _, _, by first | rfl | (congr 1; omega), by omega, K10.out, NS10.out, KR10.out, R10.out, ON10.out, IV10.out, by rw [List.length_append, List.length_singleton]; omega, (fun _ => by rw [List.length_append, List.length_singleton]; omega), hz10⟩
              case measure => simp [intOf]
          · have hend : k = 0 ∨ st = none := by
              rcases Nat.eq_zero_or_pos k with h0 | h0
              · exact .inl h0
              · cases rb2 with
                | true => exact .inr HST.out
                | false => exact absurd ⟨h0, rfl⟩ hk
            obtain ⟨e1, e2⟩ := Wi.end_plain (Wi.inv_end HI.out hend)
            obtain ⟨A7, c7, rfl, hN1⟩ := HNO.out.one
            clear hN1
            have HE1 := Lib.hid (show Wi.nxt (Wi.plistm 257 (Wi.pnote l) l) (Wi.nxt (Wi.pnum l) (Wi.nxt (Wi.pnum l) (Wi.nxt (Wi.pnum l) (Wi.nxt (Wi.pnum l) (Wi.nxt (Wi.pnum l) (some 0)))))) = st by rw [← HSN.out]; exact e1)
            have HE2 := Lib.hid (show Wi.Got (Wi.plistm 257 (Wi.pnote l) l) (Wi.nxt (Wi.pnum l) (Wi.nxt (Wi.pnum l) (Wi.nxt (Wi.pnum l) (Wi.nxt (Wi.pnum l) (Wi.nxt (Wi.pnum l) (some 0)))))) acc by rw [← HSN.out]; exact e2)
            obtain ⟨f1, f2⟩ := Wi.ptailf3 (f := mf) (t := mt) HKD.out Gms.out Gmq.out HE2.out
            have E1 := Lib.hid ((FN.out.trans f1).trans HE1.out); have E2 := Lib.hid (FM.out _ f2)
            have FIN := Lib.hid (show MsHere wr gm none none A7 none 0 0 c7 0 (⟨(kd : Int), (mf : Int), (mt : Int), (ms : Int), (mq : Int), [], [], acc, zeroBd⟩ : Ms) from ⟨HK.out, own_none _ _ _ _, own_none _ _ _ _, HNO.out, oneB_nil _⟩)
            clear e1 e2 f1 f2
            rcases Nat.eq_zero_or_pos k with h0 | h0
            · subst h0
              clear hk hend
              go_wp2_with fail
              go_meet
              exact ⟨none, none, A7, none, 0, 0, c7, 0, _, st, FIN.out, HRR.out, HO.out, HKR3.out, E1.out.symm, E2.out⟩
            · have hrb : rb2 = true := by cases rb2 with | true => rfl | false => exact absurd ⟨h0, rfl⟩ hk
              subst hrb
              have hd : decide ((0 : Int) < (k : Int)) = true := decide_eq_true (by omega)
              clear hk hend
              go_wp2_with fail
              go_meet
              exact ⟨none, none, A7, none, 0, 0, c7, 0, _, st, FIN.out, HRR.out, HO.out, HKR3.out, E1.out.symm, E2.out⟩
    by_cases hk4 : kd = 4
    · have HKD := Lib.hid hk4
      have q1 : ((kd : Int) == 1) = false := beq_eq_false_iff_ne.2 (by omega)
      have q3 : ((kd : Int) == 3) = false := beq_eq_false_iff_ne.2 (by omega)
      have q4 : ((kd : Int) == 4) = true := beq_iff_eq.2 (by omega)
      clear hk4 hk1 hk3
      have CK := Lib.hid (NN.out _ _ R3.out)
      go_wp2_with fail
      refine CK.out.mono ?_
      rintro e w4 ⟨mo, rfl, hmo, hr, ho, Gmo, _⟩
      have Gmo := Lib.hid Gmo
      have k := ho.blk K3.out (show gm ≠ n0 + 1 by omega); have kr := ho.blk KR3.out (show n0 ≠ n0 + 1 by omega)
      have t4 := k.free 8; have z4 := k.cell (i := 8) rfl
      have oo := O3.out.on ho; have sz := Nat.le_trans hz3 ho.size
      have hz4 : gm + 1 ≤ (w4.setCell ⟨gm, 8, none⟩ (.int .i64 (mo : Int))).heap.size := by simpa [World.setCell] using sz
      have K4 := Lib.hid (k.put 8 (.int .i64 (mo : Int))); have KR4 := Lib.hid (kr.far (p := ⟨gm, 8, none⟩) (show n0 ≠ gm by omega) (.int .i64 (mo : Int))); have O4 := Lib.hid (oo.setNew HGW.out 8 (.int .i64 (mo : Int))); have R4 := Lib.hid (rd_set MK.out oo hr HGW.out hng 8 (.int .i64 (mo : Int)))
      clear hr ho k kr oo sz CK 
      obtain ⟨e1, e2⟩ := Wi.ptailf4 (f := mf) (t := mt) HKD.out Gmo.out
      have E1 := Lib.hid (FN.out.trans e1); have E2 := Lib.hid (FM.out _ e2)
      clear e1 e2
      go_wp2_with fail
      go_meet
      refine ⟨none, none, none, none, 0, 0, 0, 0, (⟨(kd : Int), (mf : Int), (mt : Int), 0, 0, [], [], [], ⟨(mo : Int), 0, 0, []⟩⟩ : Ms), _, ⟨K4.out, own_none _ _ _ _, own_none _ _ _ _, NotesOwn.nil _ _, oneB_nil _⟩, R4.out, O4.out, KR4.out, E1.out.symm, E2.out⟩
    by_cases hk5 : kd = 5
    · have HKD := Lib.hid hk5
      have q1 : ((kd : Int) == 1) = false := beq_eq_false_iff_ne.2 (by omega)
      have q3 : ((kd : Int) == 3) = false := beq_eq_false_iff_ne.2 (by omega)
      have q4 : ((kd : Int) == 4) = false := beq_eq_false_iff_ne.2 (by omega)
      have q5 : ((kd : Int) == 5) = true := beq_iff_eq.2 (by omega)
      clear hk5 hk1 hk3 hk4
      have CK := Lib.hid (rdbody_any (n0 + 1) A c l _ _ hl R3.out)
      go_wp2_with fail
      refine CK.out.mono ?_
      rintro e w4 ⟨D, d, x, rfl, hbd, hr, ho, hg⟩
      unfold bdCells
      have k : Blk w4 gm 74 #[.int .i64 (kd : Int), .int .i64 (mf : Int), .int .i64 (mt : Int), .int .i64 0, .int .i64 0, .slice none 0 0, .slice none 0 0, .slice none 0 0, .int .i64 0, .int .i64 0, .int .i64 0, .slice none 0 0] := ho.blk K3.out (show gm ≠ n0 + 1 by omega)
      have kr := ho.blk KR3.out (show n0 ≠ n0 + 1 by omega)
      have oo := O3.out.on ho
      have f8 := k.free 8; have f9 := k.free 9; have f10 := k.free 10; have f11 := k.free 11
      have y8 := k.cell (i := 8) rfl; have y9 := k.cell (i := 9) rfl; have y10 := k.cell (i := 10) rfl; have y11 := k.cell (i := 11) rfl
      have og := (((((Only.refl gm w4).set 8 (.int .i64 x.o)).set 9 (.int .i64 x.c)).set 10 (.int .i64 x.n)).set 11 (.slice D x.v.length d))
      have hbd2 := hbd.only og k (fun u hu => by simp at hu; rcases hu with rfl | rfl | rfl | rfl | rfl | rfl | rfl <;> rfl)
      have k2 := ((((k.put 8 (.int .i64 x.o)).put 9 (.int .i64 x.c)).put 10 (.int .i64 x.n)).put 11 (.slice D x.v.length d))
      have kr2 := ((((kr.far (p := ⟨gm, 8, none⟩) (show n0 ≠ gm by omega) (.int .i64 x.o)).far (p := ⟨gm, 9, none⟩) (show n0 ≠ gm by omega) (.int .i64 x.c)).far (p := ⟨gm, 10, none⟩) (show n0 ≠ gm by omega) (.int .i64 x.n)).far (p := ⟨gm, 11, none⟩) (show n0 ≠ gm by omega) (.slice D x.v.length d))
      have oo2 := ((((oo.setNew HGW.out 8 (.int .i64 x.o)).setNew HGW.out 9 (.int .i64 x.c)).setNew HGW.out 10 (.int .i64 x.n)).setNew HGW.out 11 (.slice D x.v.length d))
      have r1 := rd_set MK.out oo hr HGW.out hng 8 (.int .i64 x.o)
      have r2 := rd_set MK.out (oo.setNew HGW.out 8 (.int .i64 x.o)) r1 HGW.out hng 9 (.int .i64 x.c)
      have r3 := rd_set MK.out ((oo.setNew HGW.out 8 (.int .i64 x.o)).setNew HGW.out 9 (.int .i64 x.c)) r2 HGW.out hng 10 (.int .i64 x.n)
      have r4 := rd_set MK.out (((oo.setNew HGW.out 8 (.int .i64 x.o)).setNew HGW.out 9 (.int .i64 x.c)).setNew HGW.out 10 (.int .i64 x.n)) r3 HGW.out hng 11 (.slice D x.v.length d)
      obtain ⟨e1, e2⟩ := Wi.ptailf5 (f := mf) (t := mt) HKD.out hg
      have E1 := Lib.hid (FN.out.trans e1); have E2 := Lib.hid (FM.out _ e2)
      have HB5 := Lib.hid hbd2; have K5 := Lib.hid k2; have KR5 := Lib.hid kr2; have O5 := Lib.hid oo2; have R5 := Lib.hid r4
      clear e1 e2 hg hbd hbd2 k k2 kr kr2 oo oo2 r1 r2 r3 r4 hr ho og CK
      go_wp2_with fail
      go_meet
      refine ⟨none, none, none, D, 0, 0, 0, d, (⟨(kd : Int), (mf : Int), (mt : Int), 0, 0, [], [], [], x⟩ : Ms), _, ⟨K5.out, own_none _ _ _ _, own_none _ _ _ _, NotesOwn.nil _ _, HB5.out⟩, R5.out, O5.out, KR5.out, E1.out.symm, E2.out⟩
    have E0 := Wi.ptailf0 (f := mf) (t := mt) (l := l) (s := Wi.nxt (Wi.pnum l) (Wi.nxt (Wi.pnum l) (Wi.nxt (Wi.pnum l) (some 0)))) hk1 hk3 hk4 hk5
    have q1 : ((kd : Int) == 1) = false := beq_eq_false_iff_ne.2 (by omega)
    have q3 : ((kd : Int) == 3) = false := beq_eq_false_iff_ne.2 (by omega)
    have q4 : ((kd : Int) == 4) = false := beq_eq_false_iff_ne.2 (by omega)
    have q5 : ((kd : Int) == 5) = false := beq_eq_false_iff_ne.2 (by omega)
    have E1 := Lib.hid (FN.out.trans E0.1); have E2 := Lib.hid (FM.out _ E0.2)
    clear E0 hk1 hk3 hk4 hk5
    go_wp2_with fail
    go_meet
    refine ⟨none, none, none, none, 0, 0, 0, 0, (⟨(kd : Int), (mf : Int), (mt : Int), 0, 0, [], [], [], zeroBd⟩ : Ms), _, ⟨K3.out, own_none _ _ _ _, own_none _ _ _ _, NotesOwn.nil _ _, oneB_nil _⟩, R3.out, O3.out, KR3.out, E1.out.symm, E2.out⟩
  case rest =>
    obtain ⟨I, V, N, D, ci, cv, cn, d, m, st, hm, hr, ho, hkr, hst, hgot⟩ := hcut
    obtain ⟨ra, rb, hB, -, hra, hs⟩ := hr
    have hrw : w.heap.size ≤ n0 := by rw [HN.out]; exact Nat.le_refl _
    have hbb : Below w.heap.size w wc := B0.out.trans (ho.to_below (by rw [HWS.out]; omega) (by omega))
    have BB := Lib.hid hbb; have HKR := Lib.hid hkr; have HM := Lib.hid hm
    have HST := Lib.hid (hs.symm.trans hst); have HGOT := Lib.hid hgot
    have cB := hB.cell (i := 2) rfl; have cA := hB.cell (i := 1) rfl
    clear hm ho hkr hst hgot hB hs hbb
    cases rb with
    | true =>
      have HNO := Lib.hid (show ∀ y, (fun a => Wi.such Wi.mfmd (Wi.pmsg l a)) 0 ≠ some (y, l.length) from fun y hy => by
        have h1 : none = (Wi.pmsg l 0).map (·.2) := HST.out
        have h2 : Wi.such Wi.mfmd (Wi.pmsg l 0) = some (y, l.length) := hy
        cases hp : Wi.pmsg l 0 with
        | none => rw [hp] at h2; cases h2
        | some z => rw [hp] at h1; cases h1)
      clear HST HGOT
      have v1 := HKR.out.put12 (.int .i64 0) (.int .i64 0) (.int .i64 0) (.int .i64 0) (.int .i64 0) (.slice none 0 0) (.slice none 0 0) (.slice none 0 0) (.int .i64 0) (.int .i64 0) (.int .i64 0) (.slice none 0 0)
      have bb := ((((((((((((BB.out.setCell (p := ⟨n0, 0, none⟩) hrw (.int .i64 0)).setCell (p := ⟨n0, 1, none⟩) hrw (.int .i64 0)).setCell (p := ⟨n0, 2, none⟩) hrw (.int .i64 0)).setCell (p := ⟨n0, 3, none⟩) hrw (.int .i64 0)).setCell (p := ⟨n0, 4, none⟩) hrw (.int .i64 0)).setCell (p := ⟨n0, 5, none⟩) hrw (.slice none 0 0)).setCell (p := ⟨n0, 6, none⟩) hrw (.slice none 0 0)).setCell (p := ⟨n0, 7, none⟩) hrw (.slice none 0 0)).setCell (p := ⟨n0, 8, none⟩) hrw (.int .i64 0)).setCell (p := ⟨n0, 9, none⟩) hrw (.int .i64 0)).setCell (p := ⟨n0, 10, none⟩) hrw (.int .i64 0)).setCell (p := ⟨n0, 11, none⟩) hrw (.slice none 0 0))
      have V1 := Lib.hid v1; have BBE := Lib.hid bb
      clear v1 bb
      have t0 := HKR.out.free 0; have y0 := HKR.out.cell (i := 0) rfl
      have t1 := HKR.out.free 1; have y1 := HKR.out.cell (i := 1) rfl
      have t2 := HKR.out.free 2; have y2 := HKR.out.cell (i := 2) rfl
      have t3 := HKR.out.free 3; have y3 := HKR.out.cell (i := 3) rfl
      have t4 := HKR.out.free 4; have y4 := HKR.out.cell (i := 4) rfl
      have t5 := HKR.out.free 5; have y5 := HKR.out.cell (i := 5) rfl
      have t6 := HKR.out.free 6; have y6 := HKR.out.cell (i := 6) rfl
      have t7 := HKR.out.free 7; have y7 := HKR.out.cell (i := 7) rfl
      have t8 := HKR.out.free 8; have y8 := HKR.out.cell (i := 8) rfl
      have t9 := HKR.out.free 9; have y9 := HKR.out.cell (i := 9) rfl
      have t10 := HKR.out.free 10; have y10 := HKR.out.cell (i := 10) rfl
      have t11 := HKR.out.free 11; have y11 := HKR.out.cell (i := 11) rfl
      go_wp2
      exact bodyPost_ret (results_cell_tmp (p := 2) (t1 := 3) (ty := 74) rfl _ _ n0 74 #[.int .i64 0, .int .i64 0, .int .i64 0, .int .i64 0, .int .i64 0, .slice none 0 0, .slice none 0 0, .slice none 0 0, .int .i64 0, .int .i64 0, .int .i64 0, .slice none 0 0] _ rfl V1.out Try.underlying74 rfl infoMs12) rfl
        ⟨none, none, none, none, 0, 0, 0, 0, zeroMs, _, rfl, (MsOwn.zero _ 0).at, BBE.out, .inr ⟨fun y hy => HNO.out y hy, rfl, rfl⟩⟩
    | false =>
      have hp0 : Wi.pmsg l 0 = some (m, ra) := by
        have h1 : some ra = (Wi.pmsg l 0).map (·.2) := HST.out
        cases hp : Wi.pmsg l 0 with
        | none => rw [hp] at h1; cases h1
        | some z =>
          obtain ⟨z1, z2⟩ := z
          have h3 : m = z1 := HGOT.out z1 z2 hp
          rw [hp] at h1
          cases h1
          rw [h3]
      have HP := Lib.hid hp0
      clear hp0 HST HGOT
      by_cases hlt : ra = l.length
      · subst hlt
        have hne : ((l.length : Int) != (l.length : Int)) = false := by simp
        have NF := Lib.hid (fun wx (hb : Below wc.heap.size wc wx) => mformed_any I V N D ci cv cn d m wx (MsAt.later ⟨oneL_own0 HM.out.it, oneL_own0 HM.out.vc, (by obtain ⟨A', c', hv, ho⟩ := HM.out.ns.one; cases hv; exact ho), HM.out.bd⟩ hb))
        have NF0 := Lib.hid (show Calls Try.prog 41 #[.agg #[.int .i64 m.k, .int .i64 m.f, .int .i64 m.t, .int .i64 m.s, .int .i64 m.q, .slice I m.it.length ci, .slice V m.vc.length cv, .slice N m.ns.length cn, .int .i64 m.bd.o, .int .i64 m.bd.c, .int .i64 m.bd.n, .slice D m.bd.v.length d]] wc (Says (.bool (Wi.mfmd m)) wc) from NF.out wc (Below.refl _ _))
        have kk : Blk wc gm 74 #[.int .i64 m.k, .int .i64 m.f, .int .i64 m.t, .int .i64 m.s, .int .i64 m.q, .slice I m.it.length ci, .slice V m.vc.length cv, .slice N m.ns.length cn, .int .i64 m.bd.o, .int .i64 m.bd.c, .int .i64 m.bd.n, .slice D m.bd.v.length d] := HM.out.blk
        have KK := Lib.hid kk
        have c0 := kk.cell (i := 0) rfl
        have c1 := kk.cell (i := 1) rfl
        have c2 := kk.cell (i := 2) rfl
        have c3 := kk.cell (i := 3) rfl
        have c4 := kk.cell (i := 4) rfl
        have c5 := kk.cell (i := 5) rfl
        have c6 := kk.cell (i := 6) rfl
        have c7 := kk.cell (i := 7) rfl
        have c8 := kk.cell (i := 8) rfl
        have c9 := kk.cell (i := 9) rfl
        have c10 := kk.cell (i := 10) rfl
        have c11 := kk.cell (i := 11) rfl
        clear kk NF
        go_wp2_with fail
        refine NF0.out.mono ?_
        rintro e w9 ⟨rfl, b9⟩
        have KR9 := Lib.hid (HKR.out.later b9); have KK9 := Lib.hid (KK.out.later b9); have BB9 := Lib.hid (below_on BB.out b9); have B9 := Lib.hid b9
        obtain ⟨fb, hfb⟩ : ∃ fb, Wi.mfmd m = fb := ⟨_, rfl⟩
        rw [hfb]
        have HFB := Lib.hid hfb
        clear hfb b9 cB cA c0 c1 c2 c3 c4 c5 c6 c7 c8 c9 c10 c11
        cases fb with
        | false =>
          have HNO := Lib.hid (show ∀ y, (fun a => Wi.such Wi.mfmd (Wi.pmsg l a)) 0 ≠ some (y, l.length) from fun y hy => by
            have h2 : Wi.such Wi.mfmd (Wi.pmsg l 0) = some (y, l.length) := hy
            rw [HP.out] at h2
            have h3 : (if Wi.mfmd m then some (m, l.length) else none) = some (y, l.length) := h2
            rw [HFB.out] at h3
            cases h3)
          have v1 := KR9.out.put12 (.int .i64 0) (.int .i64 0) (.int .i64 0) (.int .i64 0) (.int .i64 0) (.slice none 0 0) (.slice none 0 0) (.slice none 0 0) (.int .i64 0) (.int .i64 0) (.int .i64 0) (.slice none 0 0)
          have bb := ((((((((((((BB9.out.setCell (p := ⟨n0, 0, none⟩) hrw (.int .i64 0)).setCell (p := ⟨n0, 1, none⟩) hrw (.int .i64 0)).setCell (p := ⟨n0, 2, none⟩) hrw (.int .i64 0)).setCell (p := ⟨n0, 3, none⟩) hrw (.int .i64 0)).setCell (p := ⟨n0, 4, none⟩) hrw (.int .i64 0)).setCell (p := ⟨n0, 5, none⟩) hrw (.slice none 0 0)).setCell (p := ⟨n0, 6, none⟩) hrw (.slice none 0 0)).setCell (p := ⟨n0, 7, none⟩) hrw (.slice none 0 0)).setCell (p := ⟨n0, 8, none⟩) hrw (.int .i64 0)).setCell (p := ⟨n0, 9, none⟩) hrw (.int .i64 0)).setCell (p := ⟨n0, 10, none⟩) hrw (.int .i64 0)).setCell (p := ⟨n0, 11, none⟩) hrw (.slice none 0 0))
          have V1 := Lib.hid v1; have BBE := Lib.hid bb
          clear v1 bb
          have t0 := KR9.out.free 0; have y0 := KR9.out.cell (i := 0) rfl
          have t1 := KR9.out.free 1; have y1 := KR9.out.cell (i := 1) rfl
          have t2 := KR9.out.free 2; have y2 := KR9.out.cell (i := 2) rfl
          have t3 := KR9.out.free 3; have y3 := KR9.out.cell (i := 3) rfl
          have t4 := KR9.out.free 4; have y4 := KR9.out.cell (i := 4) rfl
          have t5 := KR9.out.free 5; have y5 := KR9.out.cell (i := 5) rfl
          have t6 := KR9.out.free 6; have y6 := KR9.out.cell (i := 6) rfl
          have t7 := KR9.out.free 7; have y7 := KR9.out.cell (i := 7) rfl
          have t8 := KR9.out.free 8; have y8 := KR9.out.cell (i := 8) rfl
          have t9 := KR9.out.free 9; have y9 := KR9.out.cell (i := 9) rfl
          have t10 := KR9.out.free 10; have y10 := KR9.out.cell (i := 10) rfl
          have t11 := KR9.out.free 11; have y11 := KR9.out.cell (i := 11) rfl
          go_wp2
          exact bodyPost_ret (results_cell_tmp (p := 2) (t1 := 3) (ty := 74) rfl _ _ n0 74 #[.int .i64 0, .int .i64 0, .int .i64 0, .int .i64 0, .int .i64 0, .slice none 0 0, .slice none 0 0, .slice none 0 0, .int .i64 0, .int .i64 0, .int .i64 0, .slice none 0 0] _ rfl V1.out Try.underlying74 rfl infoMs12) rfl
            ⟨none, none, none, none, 0, 0, 0, 0, zeroMs, _, rfl, (MsOwn.zero _ 0).at, BBE.out, .inr ⟨fun y hy => HNO.out y hy, rfl, rfl⟩⟩
        | true =>
          have HOK := Lib.hid (show (fun a => Wi.such Wi.mfmd (Wi.pmsg l a)) 0 = some (m, l.length) by
            show Wi.such Wi.mfmd (Wi.pmsg l 0) = _
            rw [HP.out]
            show (if Wi.mfmd m then some (m, l.length) else none) = _
            rw [HFB.out]
            rfl)
          have hg0 : n0 < gm + 1 := by omega
          have it9 := (own_set0 (own_set0 (own_set0 (own_set0 (own_set0 (own_set0 (own_set0 (own_set0 (own_set0 (own_set0 (own_set0 (own_set0 (own_later HM.out.it B9.out) hg0 0 (.int .i64 m.k)) hg0 1 (.int .i64 m.f)) hg0 2 (.int .i64 m.t)) hg0 3 (.int .i64 m.s)) hg0 4 (.int .i64 m.q)) hg0 5 (.slice I m.it.length ci)) hg0 6 (.slice V m.vc.length cv)) hg0 7 (.slice N m.ns.length cn)) hg0 8 (.int .i64 m.bd.o)) hg0 9 (.int .i64 m.bd.c)) hg0 10 (.int .i64 m.bd.n)) hg0 11 (.slice D m.bd.v.length d))
          have vc9 := (own_set0 (own_set0 (own_set0 (own_set0 (own_set0 (own_set0 (own_set0 (own_set0 (own_set0 (own_set0 (own_set0 (own_set0 (own_later HM.out.vc B9.out) hg0 0 (.int .i64 m.k)) hg0 1 (.int .i64 m.f)) hg0 2 (.int .i64 m.t)) hg0 3 (.int .i64 m.s)) hg0 4 (.int .i64 m.q)) hg0 5 (.slice I m.it.length ci)) hg0 6 (.slice V m.vc.length cv)) hg0 7 (.slice N m.ns.length cn)) hg0 8 (.int .i64 m.bd.o)) hg0 9 (.int .i64 m.bd.c)) hg0 10 (.int .i64 m.bd.n)) hg0 11 (.slice D m.bd.v.length d))
          have ns9 := (((((((((((((HM.out.ns.later B9.out).set hg0 0 (.int .i64 m.k)).set hg0 1 (.int .i64 m.f)).set hg0 2 (.int .i64 m.t)).set hg0 3 (.int .i64 m.s)).set hg0 4 (.int .i64 m.q)).set hg0 5 (.slice I m.it.length ci)).set hg0 6 (.slice V m.vc.length cv)).set hg0 7 (.slice N m.ns.length cn)).set hg0 8 (.int .i64 m.bd.o)).set hg0 9 (.int .i64 m.bd.c)).set hg0 10 (.int .i64 m.bd.n)).set hg0 11 (.slice D m.bd.v.length d))
          have og := (((((((((((((Only.refl n0 w9).set 0 (.int .i64 m.k)).set 1 (.int .i64 m.f)).set 2 (.int .i64 m.t)).set 3 (.int .i64 m.s)).set 4 (.int .i64 m.q)).set 5 (.slice I m.it.length ci)).set 6 (.slice V m.vc.length cv)).set 7 (.slice N m.ns.length cn)).set 8 (.int .i64 m.bd.o)).set 9 (.int .i64 m.bd.c)).set 10 (.int .i64 m.bd.n)).set 11 (.slice D m.bd.v.length d))
          have bd9 := (HM.out.bd.later B9.out).only og KR9.out (fun u hu => by simp at hu; rcases hu with rfl | rfl | rfl | rfl <;> rfl)
          have v1 := KR9.out.put12 (.int .i64 m.k) (.int .i64 m.f) (.int .i64 m.t) (.int .i64 m.s) (.int .i64 m.q) (.slice I m.it.length ci) (.slice V m.vc.length cv) (.slice N m.ns.length cn) (.int .i64 m.bd.o) (.int .i64 m.bd.c) (.int .i64 m.bd.n) (.slice D m.bd.v.length d)
          have bb := ((((((((((((BB9.out.setCell (p := ⟨n0, 0, none⟩) hrw (.int .i64 m.k)).setCell (p := ⟨n0, 1, none⟩) hrw (.int .i64 m.f)).setCell (p := ⟨n0, 2, none⟩) hrw (.int .i64 m.t)).setCell (p := ⟨n0, 3, none⟩) hrw (.int .i64 m.s)).setCell (p := ⟨n0, 4, none⟩) hrw (.int .i64 m.q)).setCell (p := ⟨n0, 5, none⟩) hrw (.slice I m.it.length ci)).setCell (p := ⟨n0, 6, none⟩) hrw (.slice V m.vc.length cv)).setCell (p := ⟨n0, 7, none⟩) hrw (.slice N m.ns.length cn)).setCell (p := ⟨n0, 8, none⟩) hrw (.int .i64 m.bd.o)).setCell (p := ⟨n0, 9, none⟩) hrw (.int .i64 m.bd.c)).setCell (p := ⟨n0, 10, none⟩) hrw (.int .i64 m.bd.n)).setCell (p := ⟨n0, 11, none⟩) hrw (.slice D m.bd.v.length d))
          obtain ⟨A', c', hv, hno⟩ := ns9.one
          have V1 := Lib.hid v1; have BBE := Lib.hid bb
          have MA := Lib.hid (show MsAt _ I V N D ci cv cn d m from ⟨oneL_own0 it9, oneL_own0 vc9, (by cases hv; exact hno), bd9⟩)
          clear it9 vc9 ns9 og bd9 v1 bb hv hno
          have t0 := KR9.out.free 0; have y0 := KR9.out.cell (i := 0) rfl; have c0 := KK9.out.cell (i := 0) rfl
          have t1 := KR9.out.free 1; have y1 := KR9.out.cell (i := 1) rfl; have c1 := KK9.out.cell (i := 1) rfl
          have t2 := KR9.out.free 2; have y2 := KR9.out.cell (i := 2) rfl; have c2 := KK9.out.cell (i := 2) rfl
          have t3 := KR9.out.free 3; have y3 := KR9.out.cell (i := 3) rfl; have c3 := KK9.out.cell (i := 3) rfl
          have t4 := KR9.out.free 4; have y4 := KR9.out.cell (i := 4) rfl; have c4 := KK9.out.cell (i := 4) rfl
          have t5 := KR9.out.free 5; have y5 := KR9.out.cell (i := 5) rfl; have c5 := KK9.out.cell (i := 5) rfl
          have t6 := KR9.out.free 6; have y6 := KR9.out.cell (i := 6) rfl; have c6 := KK9.out.cell (i := 6) rfl
          have t7 := KR9.out.free 7; have y7 := KR9.out.cell (i := 7) rfl; have c7 := KK9.out.cell (i := 7) rfl
          have t8 := KR9.out.free 8; have y8 := KR9.out.cell (i := 8) rfl; have c8 := KK9.out.cell (i := 8) rfl
          have t9 := KR9.out.free 9; have y9 := KR9.out.cell (i := 9) rfl; have c9 := KK9.out.cell (i := 9) rfl
          have t10 := KR9.out.free 10; have y10 := KR9.out.cell (i := 10) rfl; have c10 := KK9.out.cell (i := 10) rfl
          have t11 := KR9.out.free 11; have y11 := KR9.out.cell (i := 11) rfl; have c11 := KK9.out.cell (i := 11) rfl
          go_wp2
          exact bodyPost_ret (results_cell_tmp (p := 2) (t1 := 3) (ty := 74) rfl _ _ n0 74 #[.int .i64 m.k, .int .i64 m.f, .int .i64 m.t, .int .i64 m.s, .int .i64 m.q, .slice I m.it.length ci, .slice V m.vc.length cv, .slice N m.ns.length cn, .int .i64 m.bd.o, .int .i64 m.bd.c, .int .i64 m.bd.n, .slice D m.bd.v.length d] _ rfl V1.out Try.underlying74 rfl infoMs12) rfl
            ⟨I, V, N, D, ci, cv, cn, d, m, _, rfl, MA.out, BBE.out, .inl ⟨HOK.out, rfl⟩⟩
      · have hne : ((ra : Int) != (l.length : Int)) = true := by rw [bne_iff_ne]; omega
        have HNO := Lib.hid (show ∀ y, (fun a => Wi.such Wi.mfmd (Wi.pmsg l a)) 0 ≠ some (y, l.length) from fun y hy => by
          have h2 : Wi.such Wi.mfmd (Wi.pmsg l 0) = some (y, l.length) := hy
          rw [HP.out] at h2
          have h3 : (if Wi.mfmd m then some (m, ra) else none) = some (y, l.length) := h2
          cases hf : Wi.mfmd m with
          | false => rw [hf] at h3; cases h3
          | true => rw [hf] at h3; cases h3; exact hlt rfl)
        clear hlt
        have v1 := HKR.out.put12 (.int .i64 0) (.int .i64 0) (.int .i64 0) (.int .i64 0) (.int .i64 0) (.slice none 0 0) (.slice none 0 0) (.slice none 0 0) (.int .i64 0) (.int .i64 0) (.int .i64 0) (.slice none 0 0)
        have bb := ((((((((((((BB.out.setCell (p := ⟨n0, 0, none⟩) hrw (.int .i64 0)).setCell (p := ⟨n0, 1, none⟩) hrw (.int .i64 0)).setCell (p := ⟨n0, 2, none⟩) hrw (.int .i64 0)).setCell (p := ⟨n0, 3, none⟩) hrw (.int .i64 0)).setCell (p := ⟨n0, 4, none⟩) hrw (.int .i64 0)).setCell (p := ⟨n0, 5, none⟩) hrw (.slice none 0 0)).setCell (p := ⟨n0, 6, none⟩) hrw (.slice none 0 0)).setCell (p := ⟨n0, 7, none⟩) hrw (.slice none 0 0)).setCell (p := ⟨n0, 8, none⟩) hrw (.int .i64 0)).setCell (p := ⟨n0, 9, none⟩) hrw (.int .i64 0)).setCell (p := ⟨n0, 10, none⟩) hrw (.int .i64 0)).setCell (p := ⟨n0, 11, none⟩) hrw (.slice none 0 0))
        have V1 := Lib.hid v1; have BBE := Lib.hid bb
        clear v1 bb
        have t0 := HKR.out.free 0; have y0 := HKR.out.cell (i := 0) rfl
        have t1 := HKR.out.free 1; have y1 := HKR.out.cell (i := 1) rfl
        have t2 := HKR.out.free 2; have y2 := HKR.out.cell (i := 2) rfl
        have t3 := HKR.out.free 3; have y3 := HKR.out.cell (i := 3) rfl
        have t4 := HKR.out.free 4; have y4 := HKR.out.cell (i := 4) rfl
        have t5 := HKR.out.free 5; have y5 := HKR.out.cell (i := 5) rfl
        have t6 := HKR.out.free 6; have y6 := HKR.out.cell (i := 6) rfl
        have t7 := HKR.out.free 7; have y7 := HKR.out.cell (i := 7) rfl
        have t8 := HKR.out.free 8; have y8 := HKR.out.cell (i := 8) rfl
        have t9 := HKR.out.free 9; have y9 := HKR.out.cell (i := 9) rfl
        have t10 := HKR.out.free 10; have y10 := HKR.out.cell (i := 10) rfl
        have t11 := HKR.out.free 11; have y11 := HKR.out.cell (i := 11) rfl
        go_wp2
        exact bodyPost_ret (results_cell_tmp (p := 2) (t1 := 3) (ty := 74) rfl _ _ n0 74 #[.int .i64 0, .int .i64 0, .int .i64 0, .int .i64 0, .int .i64 0, .slice none 0 0, .slice none 0 0, .slice none 0 0, .int .i64 0, .int .i64 0, .int .i64 0, .slice none 0 0] _ rfl V1.out Try.underlying74 rfl infoMs12) rfl
          ⟨none, none, none, none, 0, 0, 0, 0, zeroMs, _, rfl, (MsOwn.zero _ 0).at, BBE.out, .inr ⟨fun y hy => HNO.out y hy, rfl, rfl⟩⟩
end Go.Proofs.Ytbbmngabbbehcaa
namespace Go.Proofs.Ytbbmngabbbehcaa
open Go.RowKit

/-- Two that read the same bytes answer the same. -/
theorem reads_one {l : List Int} {n : Nat} {x x' : Ms} {er er' : Int}
    (h : ((fun a => Wi.such Wi.dmf (Wi.pmsgr l a)) 0 = some (x, n) ∧ er = 0) ∨ ((∀ y, (fun a => Wi.such Wi.dmf (Wi.pmsgr l a)) 0 ≠ some (y, n)) ∧ x = zeroMs ∧ er = 4))
    (h' : ((fun a => Wi.such Wi.mfmd (Wi.pmsg l a)) 0 = some (x', n) ∧ er' = 0) ∨ ((∀ y, (fun a => Wi.such Wi.mfmd (Wi.pmsg l a)) 0 ≠ some (y, n)) ∧ x' = zeroMs ∧ er' = 4)) : x = x' ∧ er = er' := by
  simp only [Wi.such_pmsg] at h
  dsimp only at h'
  rcases h with ⟨h1, rfl⟩ | ⟨h1, rfl, rfl⟩
  · rcases h' with ⟨h2, rfl⟩ | ⟨h2, -, -⟩
    · rw [h1] at h2
      cases h2
      exact ⟨rfl, rfl⟩
    · exact absurd h1 (h2 x)
  · rcases h' with ⟨h2, rfl⟩ | ⟨-, rfl, rfl⟩
    · exact absurd h2 (h1 x')
    · exact ⟨rfl, rfl⟩

set_option maxRecDepth 100000 in
set_option maxHeartbeats 6400000 in
theorem lawWReads_any (A : Option Addr) (c : Nat) (l : List Int) (w : World) (h : OneB w A c l) (hl : l.length ≤ 8388608) :
    Calls Try.prog 8 #[.slice A l.length c] w (Says (.bool true) w) := by
  have CA := Lib.hid (walive_any w); have HB := Lib.hid h
  have hll := h.len
  clear h
  go_enter Try.func8, Try.ntmps8
  go_wp2_with fail
  refine CA.out.mono ?_
  rintro e w1 ⟨rfl, b1⟩
  have CC := Lib.hid (bcopy_any A c l w1 (by omega) (HB.out.later b1))
  go_wp2_with fail
  refine CC.out.mono ?_
  rintro e w2 ⟨v2, rfl, ho2, b2⟩
  obtain ⟨Y, cy, rfl, hY⟩ := OneB.of_own ho2 HB.out.byte
  have bb2 := below_on b1 b2
  have CD := Lib.hid (ddecode_any Y cy l w2 (by omega) hY (Wi.pmsgr_le HB.out.byte))
  have HY := Lib.hid hY
  clear ho2 hY
  go_wp2_with fail
  refine CD.out.mono ?_
  rintro e w3 ⟨I, V, N, D, ci, cv, cn, d, x, er, rfl, -, hown, b3, hway⟩
  have BB3 := Lib.hid (below_on bb2 b3); have B3 := Lib.hid b3; have BB2 := Lib.hid bb2
  have HM := Lib.hid hown.at; have HW := Lib.hid hway
  clear hown hway b1 b2 b3 bb2
  obtain ⟨ga, hga⟩ : ∃ ga, w3.heap.size = ga := ⟨_, rfl⟩
  have kz := Blk.new w3 74 #[.int .i64 0, .int .i64 0, .int .i64 0, .int .i64 0, .int .i64 0, .slice none 0 0, .slice none 0 0, .slice none 0 0, .int .i64 0, .int .i64 0, .int .i64 0, .slice none 0 0]
  have KZa := Lib.hid kz
  have kz2 := kz.row #[.int .i64 x.k, .int .i64 x.f, .int .i64 x.t, .int .i64 x.s, .int .i64 x.q, .slice I x.it.length ci, .slice V x.vc.length cv, .slice N x.ns.length cn, .int .i64 x.bd.o, .int .i64 x.bd.c, .int .i64 x.bd.n, .slice D x.bd.v.length d]
  have bz : Below w3.heap.size w3 ((w3.alloc (.cells #[.int .i64 0, .int .i64 0, .int .i64 0, .int .i64 0, .int .i64 0, .slice none 0 0, .slice none 0 0, .slice none 0 0, .int .i64 0, .int .i64 0, .int .i64 0, .slice none 0 0] 74)).setRow w3.heap.size #[.int .i64 x.k, .int .i64 x.f, .int .i64 x.t, .int .i64 x.s, .int .i64 x.q, .slice I x.it.length ci, .slice V x.vc.length cv, .slice N x.ns.length cn, .int .i64 x.bd.o, .int .i64 x.bd.c, .int .i64 x.bd.n, .slice D x.bd.v.length d]) := (Only.row _ w3.heap.size _).to_below (by simp) (Nat.le_refl _) |> fun h => (below_new (Below.refl _ _) _).trans h
  obtain ⟨W3, hW3⟩ : ∃ W3, (w3.alloc (.cells #[.int .i64 0, .int .i64 0, .int .i64 0, .int .i64 0, .int .i64 0, .slice none 0 0, .slice none 0 0, .slice none 0 0, .int .i64 0, .int .i64 0, .int .i64 0, .slice none 0 0] 74)).setRow w3.heap.size #[.int .i64 x.k, .int .i64 x.f, .int .i64 x.t, .int .i64 x.s, .int .i64 x.q, .slice I x.it.length ci, .slice V x.vc.length cv, .slice N x.ns.length cn, .int .i64 x.bd.o, .int .i64 x.bd.c, .int .i64 x.bd.n, .slice D x.bd.v.length d] = W3 := ⟨_, rfl⟩
  rw [hW3] at kz2 bz
  have Ka := Lib.hid (show Blk W3 ga 74 #[.int .i64 x.k, .int .i64 x.f, .int .i64 x.t, .int .i64 x.s, .int .i64 x.q, .slice I x.it.length ci, .slice V x.vc.length cv, .slice N x.ns.length cn, .int .i64 x.bd.o, .int .i64 x.bd.c, .int .i64 x.bd.n, .slice D x.bd.v.length d] by rw [← hga]; exact kz2)
  have Ba := Lib.hid bz; have HW3 := Lib.hid hW3; have HGa := Lib.hid hga
  clear kz kz2 bz hW3 hga
  go_upto_region 5 with (refine wpList_store_row rfl 74 _ _ rfl w3.heap.size #[.int .i64 x.k, .int .i64 x.f, .int .i64 x.t, .int .i64 x.s, .int .i64 x.q, .slice I x.it.length ci, .slice V x.vc.length cv, .slice N x.ns.length cn, .int .i64 x.bd.o, .int .i64 x.bd.c, .int .i64 x.bd.n, .slice D x.bd.v.length d] rfl rfl 74 #[.int .i64 0, .int .i64 0, .int .i64 0, .int .i64 0, .int .i64 0, .slice none 0 0, .slice none 0 0, .slice none 0 0, .int .i64 0, .int .i64 0, .int .i64 0, .slice none 0 0] KZa.out infoMs12 rfl (by simp [Value.oneCell']) ?_)
  rw [HW3.out]
  try rw [HGa.out]
  have BW3 := Lib.hid (below_on BB3.out Ba.out)
  have CR := Lib.hid (rdecode_any A c l W3 (by omega) (HB.out.later BW3.out))
  go_wp2_with fail
  refine CR.out.mono ?_
  rintro e w4 ⟨I', V', N', D', ci', cv', cn', d', x', er', rfl, hat, b4, hway'⟩
  obtain ⟨rfl, rfl⟩ := reads_one HW.out hway'
  have HAT := Lib.hid hat; have B4 := Lib.hid b4; have BB4 := Lib.hid (below_on BW3.out b4)
  clear hat b4 hway' HW
  obtain ⟨gb, hgb⟩ : ∃ gb, w4.heap.size = gb := ⟨_, rfl⟩
  have kz := Blk.new w4 74 #[.int .i64 0, .int .i64 0, .int .i64 0, .int .i64 0, .int .i64 0, .slice none 0 0, .slice none 0 0, .slice none 0 0, .int .i64 0, .int .i64 0, .int .i64 0, .slice none 0 0]
  have KZb := Lib.hid kz
  have kz2 := kz.row #[.int .i64 x.k, .int .i64 x.f, .int .i64 x.t, .int .i64 x.s, .int .i64 x.q, .slice I' x.it.length ci', .slice V' x.vc.length cv', .slice N' x.ns.length cn', .int .i64 x.bd.o, .int .i64 x.bd.c, .int .i64 x.bd.n, .slice D' x.bd.v.length d']
  have bz : Below w4.heap.size w4 ((w4.alloc (.cells #[.int .i64 0, .int .i64 0, .int .i64 0, .int .i64 0, .int .i64 0, .slice none 0 0, .slice none 0 0, .slice none 0 0, .int .i64 0, .int .i64 0, .int .i64 0, .slice none 0 0] 74)).setRow w4.heap.size #[.int .i64 x.k, .int .i64 x.f, .int .i64 x.t, .int .i64 x.s, .int .i64 x.q, .slice I' x.it.length ci', .slice V' x.vc.length cv', .slice N' x.ns.length cn', .int .i64 x.bd.o, .int .i64 x.bd.c, .int .i64 x.bd.n, .slice D' x.bd.v.length d']) := (Only.row _ w4.heap.size _).to_below (by simp) (Nat.le_refl _) |> fun h => (below_new (Below.refl _ _) _).trans h
  obtain ⟨W5, hW5⟩ : ∃ W5, (w4.alloc (.cells #[.int .i64 0, .int .i64 0, .int .i64 0, .int .i64 0, .int .i64 0, .slice none 0 0, .slice none 0 0, .slice none 0 0, .int .i64 0, .int .i64 0, .int .i64 0, .slice none 0 0] 74)).setRow w4.heap.size #[.int .i64 x.k, .int .i64 x.f, .int .i64 x.t, .int .i64 x.s, .int .i64 x.q, .slice I' x.it.length ci', .slice V' x.vc.length cv', .slice N' x.ns.length cn', .int .i64 x.bd.o, .int .i64 x.bd.c, .int .i64 x.bd.n, .slice D' x.bd.v.length d'] = W5 := ⟨_, rfl⟩
  rw [hW5] at kz2 bz
  have Kb := Lib.hid (show Blk W5 gb 74 #[.int .i64 x.k, .int .i64 x.f, .int .i64 x.t, .int .i64 x.s, .int .i64 x.q, .slice I' x.it.length ci', .slice V' x.vc.length cv', .slice N' x.ns.length cn', .int .i64 x.bd.o, .int .i64 x.bd.c, .int .i64 x.bd.n, .slice D' x.bd.v.length d'] by rw [← hgb]; exact kz2)
  have Bb := Lib.hid bz; have HW5 := Lib.hid hW5; have HGb := Lib.hid hgb
  clear kz kz2 bz hW5 hgb
  go_upto_region 6 with (refine wpList_store_row rfl 74 _ _ rfl w4.heap.size #[.int .i64 x.k, .int .i64 x.f, .int .i64 x.t, .int .i64 x.s, .int .i64 x.q, .slice I' x.it.length ci', .slice V' x.vc.length cv', .slice N' x.ns.length cn', .int .i64 x.bd.o, .int .i64 x.bd.c, .int .i64 x.bd.n, .slice D' x.bd.v.length d'] rfl rfl 74 #[.int .i64 0, .int .i64 0, .int .i64 0, .int .i64 0, .int .i64 0, .slice none 0 0, .slice none 0 0, .slice none 0 0, .int .i64 0, .int .i64 0, .int .i64 0, .slice none 0 0] KZb.out infoMs12 rfl (by simp [Value.oneCell']) ?_)
  rw [HW5.out]
  try rw [HGb.out]
  have B35 := Lib.hid (below_on B4.out Bb.out)
  have BW5 := Lib.hid (below_on BB4.out Bb.out)
  have hs := msame_any I V N D I' V' N' D' ci cv cn d ci' cv' cn' d' x x W5 ((HM.out.later Ba.out).later B35.out) (HAT.out.later Bb.out)
  rw [(Wi.msame_iff x x).2 rfl] at hs
  have HS := Lib.hid (show Calls Try.prog 45 #[.agg #[.int .i64 x.k, .int .i64 x.f, .int .i64 x.t, .int .i64 x.s, .int .i64 x.q, .slice I x.it.length ci, .slice V x.vc.length cv, .slice N x.ns.length cn, .int .i64 x.bd.o, .int .i64 x.bd.c, .int .i64 x.bd.n, .slice D x.bd.v.length d], .agg #[.int .i64 x.k, .int .i64 x.f, .int .i64 x.t, .int .i64 x.s, .int .i64 x.q, .slice I' x.it.length ci', .slice V' x.vc.length cv', .slice N' x.ns.length cn', .int .i64 x.bd.o, .int .i64 x.bd.c, .int .i64 x.bd.n, .slice D' x.bd.v.length d']] W5 (Says (.bool true) W5) from hs)
  have ka := Ka.out.later B35.out; have kb := Kb.out
  have c0 := ka.cell (i := 0) rfl; have e0 := kb.cell (i := 0) rfl
  have c1 := ka.cell (i := 1) rfl; have e1 := kb.cell (i := 1) rfl
  have c2 := ka.cell (i := 2) rfl; have e2 := kb.cell (i := 2) rfl
  have c3 := ka.cell (i := 3) rfl; have e3 := kb.cell (i := 3) rfl
  have c4 := ka.cell (i := 4) rfl; have e4 := kb.cell (i := 4) rfl
  have c5 := ka.cell (i := 5) rfl; have e5 := kb.cell (i := 5) rfl
  have c6 := ka.cell (i := 6) rfl; have e6 := kb.cell (i := 6) rfl
  have c7 := ka.cell (i := 7) rfl; have e7 := kb.cell (i := 7) rfl
  have c8 := ka.cell (i := 8) rfl; have e8 := kb.cell (i := 8) rfl
  have c9 := ka.cell (i := 9) rfl; have e9 := kb.cell (i := 9) rfl
  have c10 := ka.cell (i := 10) rfl; have e10 := kb.cell (i := 10) rfl
  have c11 := ka.cell (i := 11) rfl; have e11 := kb.cell (i := 11) rfl
  clear hs ka kb
  go_wp2_with fail
  refine HS.out.mono ?_
  rintro e w6 ⟨rfl, b6⟩
  have BB6 := Lib.hid (below_on BW5.out b6)
  have hy := HY.out.later (below_on B3.out (below_on Ba.out (below_on B35.out b6)))
  have hx := bsame_any Y A cy c l l w6 hy (HB.out.later BB6.out)
  rw [decide_eq_true rfl] at hx
  have HX := Lib.hid hx
  clear hx hy b6
  go_wp2_with fail
  refine HX.out.mono ?_
  rintro e w7 ⟨rfl, b7⟩
  go_wp2
  go_ret
  exact ⟨rfl, below_on BB6.out b7⟩
end Go.Proofs.Ytbbmngabbbehcaa
namespace Go.Proofs.Ytbbmngabbbehcaa.wireReads
open Go.ChangeShapes Go.WideShapes Go.ChangeAt Go.RowKit

theorem own : ownKnob Try.prog.godebug = none := by kernel_rfl
theorem laidOut : laidOutB Try.prog = true := by kernel_rfl
theorem reads : ∀ t ∈ Try.f8.params.toList, Try.prog.readableRec t = true ∧ t < Try.prog.types.size := by
  intro t ht
  rw [Try.params8] at ht
  obtain rfl : t = 23 := by simpa using ht
  exact ⟨by kernel_rfl, of_decide_eq_true (by kernel_rfl)⟩

set_option maxRecDepth 100000 in
theorem lifted (os : Os) (started : os.Started) (H : Type) (enc : TypeId × Value → H) (F : Stop.Interp) :
    ReturnsInHanded {} Try.checked os 8 .any ((Rows.OpenSpec.upto Rows.wireReadsSpec).pre6 enc Try.prog Try.f8 Rows.wireReadsUptoRow.domain false) (((Rows.OpenSpec.upto Rows.wireReadsSpec).at F).post enc Try.prog Try.f8 false true false false) := by
  refine returnsInHanded_of_cond (C := Try.checked) (s := Rows.OpenSpec.upto Rows.wireReadsSpec) (k := Rows.uptoSmall) rfl own started (by kernel_rfl) Try.func8
    (OpenSpec.witness (enc := enc) (C := Try.checked) (s := Rows.OpenSpec.upto Rows.wireReadsSpec) (k := Rows.uptoSmall) rfl false ⟨#[], #[.slice none 0 0], []⟩ 8 (by kernel_rfl) (by kernel_rfl) (by kernel_rfl)
      (x := ([.nil], [], [])) (by kernel_rfl) rfl (by kernel_rfl)) ?_
  intro W base args ds gs before hval0 hW _ hk _
  suffices hs : Calls Try.prog 8 args W (fun e W' => ∃ v, e = .returned v ∧ Rows.wireReadsSpec.post enc Try.prog Try.f8 false true false false W args v W') from hs
  replace hW : DataW.Whole enc Try.prog Try.f8.params.toList Rows.wireReadsSpec.vars false W args.toList ds gs before := hW
  have hval : ∀ (j : Nat) t v, Try.f8.params[j]? = some t → args[j]? = some v → Value.okWide Try.prog W .any base t v := hval0
  have hW' := hW
  obtain ⟨p, q, hA0, hV, rfl, hfz, hnd⟩ := hW
  have hA : DataW.TrodAll enc Try.prog W 0 (fun _ => true) true Try.f8.params.toList args.toList ds p := hA0
  rw [Try.params8] at hA hval
  obtain ⟨v0, vs0, d0, ds0, p0, q0, hargs, rfl, rfl, h0, r0⟩ := trodAll_cons hA
  obtain ⟨rfl, rfl, rfl⟩ := trodAll_nil r0
  obtain rfl : args = #[v0] := by cases args; simp_all
  obtain ⟨rfl, rfl⟩ := trodVars_none hV
  have hb := bulk_all hk
  simp only [List.append_nil, bulk_cons] at hb
  obtain ⟨A0, cap0, l0, rfl, o0, z0⟩ := open_bytes2 (hval 0 23 v0 rfl rfl) h0
  clear hA0 hval0
  refine (lawWReads_any A0 cap0 l0 W o0 (by omega)).mono fun e W' ⟨he, hg⟩ => ?_
  subst he
  exact ⟨_, rfl, law_post laidOut hW' rfl rfl (by kernel_rfl) Try.underlying4 reads hg⟩

/-- The statement. -/
theorem proved : Rows.WireReadsUptoSaid :=
  OpenClaim.holds_of_cond 8 Try.f8 rfl rfl rfl rfl rfl rfl rfl ⟨rfl, rfl, rfl, rfl, rfl⟩ rfl rfl rfl rfl rfl (by kernel_rfl) Try.func8 (by kernel_rfl)
    (of_decide_eq_true (by kernel_rfl)) (by unfold Func.isWrapper; first | (rw [if_pos (by decide +kernel)]; kernel_rfl) | (rw [if_neg (by decide +kernel)]; exact ⟨rfl, rfl⟩))
    (fun os started H enc _ F => lifted os started H enc F)

end Go.Proofs.Ytbbmngabbbehcaa.wireReads
