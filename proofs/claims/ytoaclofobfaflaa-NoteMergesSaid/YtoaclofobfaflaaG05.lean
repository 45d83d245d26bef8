/-
  Answers: a value; a list of pairs of numbers, wherever it lies. Lists in blocks of one's own. Nothing of the program is imported.
  What is asked of each of vector's functions (its contract), as one structure: the statements are walked once from it. With it: the fixed fact 'alive'.
  What a round of a loop over a function keeps; loads and stores of a whole block within a fence. Nothing of the program is imported.
  What stamp.Right and its helper answer, for all stamps; each leaves the memory that was there as it was.
-/
import Derived.Test.YtoaclofobfaflaaG04
import Derived.RangeFuncFrom
import Derived.RangeFuncNested
import Derived.RangeFuncBound
import Derived.RangeFuncCalls
import Derived.RangeFuncLeaves
import Derived.RangeFuncWrites
import Derived.Maps.AppendAt
import Derived.Shelf.Abstract
import Derived.Shelf.RegionOpen
import Derived.OwnWalkIn
import Derived.TacticsInMore
import Derived.LoopNIn
import Derived.LoopIn
import Derived.Lib.Hide
import Derived.Laws.CopyOwn
import Derived.Test.YtoaclofobfaflaaG01
import Derived.Test.YtoaclofobfaflaaProg
import Derived.Tactics
import Derived.Tactics2
import Derived.WalkKit
import Derived.WalkSpells
import Derived.OwnWalk
import Derived.Deep.QuietTactic
import Derived.BigQuiet
import Derived.Deep.RegionHeld3
import Derived.KernelRfl
namespace Go.Proofs.Ytoaclofobfaflaa
open Go.RowKit

/-- A list is answered; what was there before is as it was. -/
def Ans (l : List (Int × Int)) (w : World) (e : Ending) (w' : World) : Prop := ∃ A c, e = .returned (.slice A l.length c) ∧ OneL w' A c l ∧ Below w.heap.size w w'
/-- A value is answered; what was there before is as it was. -/
def Says (v : Value) (w : World) (e : Ending) (w' : World) : Prop := e = .returned v ∧ Below w.heap.size w w'

theorem two_slots (w : World) (x y : Value) (t : TypeId) : Blk (w.alloc (.cells #[x, y] t)) w.heap.size t #[x, y] := Blk.new w t _

/-- Two lists in a block of two. -/
theorem rows_two {w : World} {g : Nat} {t : TypeId} {A B : Option Addr} {c d : Nat} {l r : List (Int × Int)} (hB : Blk w g t #[.slice A l.length c, .slice B r.length d]) (h1 : OneL w A c l) (h2 : OneL w B d r) : Rows w (some ⟨g, 0, none⟩) [l, r] := fun _ => ⟨g, 0, rfl, fun k hk => by
  have hk2 : k = 0 ∨ k = 1 := by simp at hk; omega
  rcases hk2 with rfl | rfl
  · exact ⟨A, c, hB.cell rfl, h1⟩
  · exact ⟨B, d, hB.cell rfl, h2⟩⟩
/-- One stamp in a block of its own. -/
theorem one_stamp {w : World} {g : Nat} {t : TypeId} {c n : Int} (hB : Blk w g t #[.int .i64 c, .int .i64 n]) : OneL w (some ⟨g, 0, none⟩) 1 [(c, n)] :=
  ⟨Nat.le_refl _, (by unfold maxLen; omega), (fun h => by cases h), fun _ => ⟨g, 0, rfl, fun j u hu => by
    rw [Nat.zero_add]
    exact hB.cell (by simpa [stCells] using hu)⟩⟩
/-- One list in a block of one. -/
theorem rows_one {w : World} {g : Nat} {t : TypeId} {A : Option Addr} {c : Nat} {l : List (Int × Int)} (hB : Blk w g t #[.slice A l.length c]) (h1 : OneL w A c l) : Rows w (some ⟨g, 0, none⟩) [l] := fun _ => ⟨g, 0, rfl, fun k hk => by
  have hk0 : k = 0 := by simp at hk; omega
  subst hk0
  exact ⟨A, c, hB.cell rfl, h1⟩⟩

end Go.Proofs.Ytoaclofobfaflaa
namespace Go.Proofs.Ytoaclofobfaflaa
open Go.RowKit

theorem Gives.ans {l : List (Int × Int)} {w w' : World} {e : Ending} (h : Gives l w e w') : Ans l w e w' := by
  obtain ⟨v, rfl, ho, hb⟩ := h
  obtain ⟨A, c, rfl, h1⟩ := OneL.of_own ho
  exact ⟨A, c, rfl, h1, hb⟩

theorem alive_joined : Ve.joinL [[(5, 0)], [(2, 3)]] = [(5, 0), (2, 3)] := by decide
theorem alive_has1 : hasOf [(5, 0), (2, 3)] 5 0 = true := by decide
theorem alive_has2 : hasOf [(5, 0), (2, 3)] 3 3 = false := by decide

end Go.Proofs.Ytoaclofobfaflaa
namespace Go.Proofs.Ytoaclofobfaflaa
open Go.RowKit Go.Shelf
attribute [local go_sem] Oper.semAt_some

section
variable {F : Fence} {n : Nat} {P : Program} {ops : Array Oper} {rest : List Oper} {o : Oper} {a : Act} {w : World} {Q : Exit → Act → World → Prop}
theorem in_load_row (hgd : o.guard = none) (ty : TypeId) (x : Operand) (ho : o.op = .load ty x)
    (g : Nat) (hx : a.eval x = .pointer (some ⟨g, 0, none⟩)) (t : TypeId) (cs : Array Value) (d : TypeDesc) (hg : Blk w g t cs)
    (hu : P.underlying ty = some d) (hd : (match d with | .struct _ | .array _ _ => true | _ => false) = true) (hi : (P.info? ty).map (·.size) = some cs.size)
    (h : wpListIn F n P ops Q rest (a.put o.dst (.agg cs)) w) : wpListIn F n P ops Q (o :: rest) a w := by
  refine wpListIn_plain hgd fun K hK => ?_
  unfold Oper.wpIn
  refine ⟨by simp [Oper.about, ho], ?_⟩
  rw [Oper.semAt_plain F _ _ (by rw [ho]; intro c hc; cases hc)]
  simp only [execOp, ho, hx, Instr.loadAt, Instr.sureAddr, Sem.run_bind, Sem.run_pure, Result.andThen_ok, run_loadVar_row w g t ty cs (0, 0) d hg hu hd hi]
  exact hK _ _ h
theorem in_store_row (hgd : o.guard = none) (ty : TypeId) (x y : Operand) (ho : o.op = .store ty x y)
    (g : Nat) (cells : Array Value) (hx : a.eval x = .pointer (some ⟨g, 0, none⟩)) (hy : a.eval y = .agg cells)
    (t : TypeId) (old : Array Value) (hg : Blk w g t old) (hi : (P.info? ty).map (·.size) = some cells.size)
    (hold : old.size = cells.size) (h1 : cells.all (·.oneCell') = true)
    (h : wpListIn F n P ops Q rest (a.put o.dst undef) (w.setRow g cells)) : wpListIn F n P ops Q (o :: rest) a w := by
  refine wpListIn_plain hgd fun K hK => ?_
  unfold Oper.wpIn
  refine ⟨by simp [Oper.about, ho], ?_⟩
  rw [Oper.semAt_plain F _ _ (by rw [ho]; intro c hc; cases hc)]
  simp only [execOp, ho, hx, hy, Instr.storeAt, Instr.sureAddr, Sem.run_bind, Sem.run_pure, Result.andThen_ok, run_storeVar_row w g t ty old cells hg hi hold h1]
  exact hK _ _ h
end

/-- What a round keeps: all that lay before the statement's call, and the blocks from B to E (the iterator's own). -/
def Keep (n₀ B E : Nat) (W W' : World) : Prop := Below n₀ W W' ∧ ∀ k, B ≤ k → k < E → W'.heap[k]? = W.heap[k]?
theorem Keep.refl (n₀ B E : Nat) (W : World) : Keep n₀ B E W W := ⟨Below.refl _ _, fun _ _ _ => rfl⟩
theorem Keep.trans {n₀ B E : Nat} {W1 W2 W3 : World} (h : Keep n₀ B E W1 W2) (h' : Keep n₀ B E W2 W3) : Keep n₀ B E W1 W3 := ⟨h.1.trans h'.1, fun k h1 h2 => (h'.2 k h1 h2).trans (h.2 k h1 h2)⟩

def Mark (D : Nat) : Deferred := { target := .collected D, args := #[] }
/-- The marks that have been left: each has its own block, which holds no call. -/
def Marks (n₀ : Nat) (Ds : List Nat) (W : World) : Prop := Ds.Nodup ∧ ∀ D ∈ Ds, n₀ ≤ D ∧ W.heap[D]? = some (.deferred (some []))
theorem Marks.nil (n₀ : Nat) (W : World) : Marks n₀ [] W := ⟨List.nodup_nil, fun _ h => by cases h⟩
theorem Marks.lt {n₀ : Nat} {Ds : List Nat} {W : World} (h : Marks n₀ Ds W) : ∀ D ∈ Ds, D < W.heap.size := fun D hD => (Array.getElem?_eq_some_iff.1 (h.2 D hD).2).1
theorem Marks.later {n₀ : Nat} {Ds : List Nat} {W W' : World} (h : Marks n₀ Ds W) (hb : Below W.heap.size W W') : Marks n₀ Ds W' := ⟨h.1, fun D hD => ⟨(h.2 D hD).1, (hb.block D (h.lt D hD)).trans (h.2 D hD).2⟩⟩
theorem Marks.others {n₀ : Nat} {Ds : List Nat} {W W' : World} (h : Marks n₀ Ds W) (hb : KeepsOthers W W') : Marks n₀ Ds W' := ⟨h.1, fun D hD => ⟨(h.2 D hD).1, hb.same D _ (h.2 D hD).2 rfl⟩⟩
theorem Marks.cons {n₀ D : Nat} {Ds : List Nat} {W : World} (h : Marks n₀ Ds W) (hn : n₀ ≤ D) (hD : D ∉ Ds) (hK : W.heap[D]? = some (.deferred (some []))) : Marks n₀ (D :: Ds) W :=
  ⟨List.nodup_cons.2 ⟨hD, h.1⟩, fun k hk => by
    rcases List.mem_cons.1 hk with rfl | hk
    · exact ⟨hn, hK⟩
    · exact h.2 k hk⟩
theorem marks_own {β : Type} {n₀ B : Nat} {Ds : List Nat} (hlt : ∀ D ∈ Ds, D < B) : OwnFrom (β := β) B (fun _ W => Marks n₀ Ds W) := fun _ A C row hs hg hr =>
  ⟨hs.1, fun D hD => ⟨(hs.2 D hD).1, (hg.block D (hs.lt D hD) (fun e => by have := (hr D e.symm).1; have := hlt D hD; omega)).trans (hs.2 D hD).2⟩⟩
theorem blk_own {β : Type} (g : Nat) (t : TypeId) (f : β → Array Value) : Own (fun s W => Blk W g t (f s)) := fun s A C row hs hg hr =>
  (hg.block g hs.lt (fun e => by
    obtain ⟨o, ho, hc⟩ := hr g e.symm
    rw [show A.heap[g]? = _ from hs] at ho
    cases ho
    cases hc)).trans hs

/-- The function's return: all its marks are taken up. -/
theorem leaves_marks {P : Program} {F : Fence} {n : Nat} {fn : Func} {tmps : Array Value} {R : Ending → World → Prop} {n₀ : Nat} (Q : World → Prop)
    (hQ : ∀ w D, Q w → n₀ ≤ D → w.heap[D]? = some (.deferred (some [])) → Q (w.putObj D (.deferred none)))
    (hR : ∀ w, Q w → LeavesInM F n P fn tmps R [] .returning w) : ∀ (Ds : List Nat) (w : World), Marks n₀ Ds w → Q w → LeavesInM F n P fn tmps R (Ds.map Mark) .returning w
  | [], w, _, h => hR w h
  | D :: Ds, w, hm, h => by
    have hD := hm.2 D (List.mem_cons_self ..)
    have hnd := List.nodup_cons.1 hm.1
    refine ⟨by simp, .inl ⟨D, _, rfl, run_takeDeferred hD.2, ?_⟩⟩
    refine leaves_marks Q hQ hR Ds _ ⟨hnd.2, fun k hk => ⟨(hm.2 k (List.mem_cons_of_mem _ hk)).1, ?_⟩⟩ (hQ w D h hD.1 hD.2)
    have hne : D ≠ k := fun e => hnd.1 (by rw [e]; exact hk)
    exact (World.putObj_heap_other (fun e => hne e.symm)).trans (hm.2 k (List.mem_cons_of_mem _ hk)).2

end Go.Proofs.Ytoaclofobfaflaa
namespace Go.Proofs.Ytoaclofobfaflaa
open Go.RowKit

theorem rightNode_any (n : Int) (w : World) : Calls Try.prog 72 #[.int .i64 n] w fun e w' => e = .returned (.bool (St.rgtN n)) ∧ w = w' := by
  by_cases h0 : 0 ≤ n
  · by_cases h1 : n < 64
    · go_enter Try.func72, Try.ntmps72
      go_wp2
      go_ret
      rw [show St.rgtN n = true from decide_eq_true (by omega)]; exact ⟨rfl, rfl⟩
    · go_enter Try.func72, Try.ntmps72
      go_wp2
      go_ret
      rw [show St.rgtN n = false from decide_eq_false (by omega)]; exact ⟨rfl, rfl⟩
  · go_enter Try.func72, Try.ntmps72
    go_wp2
    go_ret
    rw [show St.rgtN n = false from decide_eq_false (by omega)]; exact ⟨rfl, rfl⟩

/-- stamp.Right. -/
theorem right_any (c n : Int) (w : World) :
    Calls Try.prog 44 #[.agg #[.int .i64 c, .int .i64 n]] w fun e w' => e = .returned (.bool (St.rgt c n)) ∧ Below w.heap.size w w' := by
  by_cases h : 1 ≤ c
  · have h1 : decide (1 ≤ c) = true := decide_eq_true h
    have h2 : St.rgt c n = St.rgtN n := by unfold St.rgt St.rgtN; simp [h]
    have H2 := Lib.hid h2; clear h2
    go_enter Try.func44, Try.ntmps44
    go_wp2_with (go_at_call 72; refine (rightNode_any _ _).mono ?_; rintro e w' ⟨rfl, rfl⟩)
    go_ret
    rw [H2.out]
    exact ⟨rfl, by repeat (first | exact Below.refl _ _ | exact Nat.le_refl _ | (apply Below.drew) | (refine Below.alloc ?_ ?_ _) | (refine Below.setCell ?_ ?_ _) | (simp; done) | (simp; omega))⟩
  · have h1 : decide (1 ≤ c) = false := decide_eq_false h
    have h2 : St.rgt c n = false := by unfold St.rgt; simp [h]
    have H2 := Lib.hid h2; clear h2
    go_enter Try.func44, Try.ntmps44
    go_wp2_with (go_at_call 72; refine (rightNode_any _ _).mono ?_; rintro e w' ⟨rfl, rfl⟩)
    go_ret
    rw [H2.out]
    exact ⟨rfl, by repeat (first | exact Below.refl _ _ | exact Nat.le_refl _ | (apply Below.drew) | (refine Below.alloc ?_ ?_ _) | (refine Below.setCell ?_ ?_ _) | (simp; done) | (simp; omega))⟩

end Go.Proofs.Ytoaclofobfaflaa
