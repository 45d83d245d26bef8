/-
  What telltaleref02's Meet answers of any lists of stamps in memory.
  What is asked of each of vector's functions (its contract), as one structure: the statements are walked once from it. With it: the fixed fact 'alive'.
  What a round of a loop over a function keeps; loads and stores of a whole block within a fence. Nothing of the program is imported.
  Loads and stores of a whole block, within a fence; arrays of 64 numbers by the type's own name.
-/
import Derived.Test.YtbbmngabbbehcaaG08
import Derived.Test.YtbbmngabbbehcaaG03
import Derived.RangeFuncFrom
import Derived.RangeFuncNested
import Derived.RangeFuncBound
import Derived.RangeFuncCalls
import Derived.RangeFuncLeaves
import Derived.RangeFuncWrites
import Derived.Maps.AppendAt
import Derived.Shelf.Abstract
import Derived.Shelf.RegionOpen
import Derived.OwnWalkIn
import Derived.TacticsInMore
import Derived.LoopNIn
import Derived.LoopIn
import Derived.Lib.Hide
import Derived.Laws.CopyOwn
import Derived.Test.YtbbmngabbbehcaaG01
import Derived.Test.YtbbmngabbbehcaaG20
namespace Go.Proofs.Ytbbmngabbbehcaa
open Go.RowKit

end Go.Proofs.Ytbbmngabbbehcaa
namespace Go.Proofs.Ytbbmngabbbehcaa
open Go.RowKit

theorem Gives.ans {l : List (Int × Int)} {w w' : World} {e : Ending} (h : Gives l w e w') : Ans l w e w' := by
  obtain ⟨v, rfl, ho, hb⟩ := h
  obtain ⟨A, c, rfl, h1⟩ := OneL.of_own ho
  exact ⟨A, c, rfl, h1, hb⟩

theorem alive_joined : Ve.joinL [[(5, 0)], [(2, 3)]] = [(5, 0), (2, 3)] := by decide
theorem alive_has1 : hasOf [(5, 0), (2, 3)] 5 0 = true := by decide
theorem alive_has2 : hasOf [(5, 0), (2, 3)] 3 3 = false := by decide

end Go.Proofs.Ytbbmngabbbehcaa
namespace Go.Proofs.Ytbbmngabbbehcaa
open Go.RowKit Go.Shelf
attribute [local go_sem] Oper.semAt_some

section
variable {F : Fence} {n : Nat} {P : Program} {ops : Array Oper} {rest : List Oper} {o : Oper} {a : Act} {w : World} {Q : Exit → Act → World → Prop}
theorem in_load_row (hgd : o.guard = none) (ty : TypeId) (x : Operand) (ho : o.op = .load ty x)
    (g : Nat) (hx : a.eval x = .pointer (some ⟨g, 0, none⟩)) (t : TypeId) (cs : Array Value) (d : TypeDesc) (hg : Blk w g t cs)
    (hu : P.underlying ty = some d) (hd : (match d with | .struct _ | .array _ _ => true | _ => false) = true) (hi : (P.info? ty).map (·.size) = some cs.size)
    (h : wpListIn F n P ops Q rest (a.put o.dst (.agg cs)) w) : wpListIn F n P ops Q (o :: rest) a w := by
  refine wpListIn_plain hgd fun K hK => ?_
  unfold Oper.wpIn
  refine ⟨by simp [Oper.about, ho], ?_⟩
  rw [Oper.semAt_plain F _ _ (by rw [ho]; intro c hc; cases hc)]
  simp only [execOp, ho, hx, Instr.loadAt, Instr.sureAddr, Sem.run_bind, Sem.run_pure, Result.andThen_ok, run_loadVar_row w g t ty cs (0, 0) d hg hu hd hi]
  exact hK _ _ h
theorem in_store_row (hgd : o.guard = none) (ty : TypeId) (x y : Operand) (ho : o.op = .store ty x y)
    (g : Nat) (cells : Array Value) (hx : a.eval x = .pointer (some ⟨g, 0, none⟩)) (hy : a.eval y = .agg cells)
    (t : TypeId) (old : Array Value) (hg : Blk w g t old) (hi : (P.info? ty).map (·.size) = some cells.size)
    (hold : old.size = cells.size) (h1 : cells.all (·.oneCell') = true)
    (h : wpListIn F n P ops Q rest (a.put o.dst undef) (w.setRow g cells)) : wpListIn F n P ops Q (o :: rest) a w := by
  refine wpListIn_plain hgd fun K hK => ?_
  unfold Oper.wpIn
  refine ⟨by simp [Oper.about, ho], ?_⟩
  rw [Oper.semAt_plain F _ _ (by rw [ho]; intro c hc; cases hc)]
  simp only [execOp, ho, hx, hy, Instr.storeAt, Instr.sureAddr, Sem.run_bind, Sem.run_pure, Result.andThen_ok, run_storeVar_row w g t ty old cells hg hi hold h1]
  exact hK _ _ h
end

/-- What a round keeps: all that lay before the statement's call, and the blocks from B to E (the iterator's own). -/
def Keep (n₀ B E : Nat) (W W' : World) : Prop := Below n₀ W W' ∧ ∀ k, B ≤ k → k < E → W'.heap[k]? = W.heap[k]?
theorem Keep.refl (n₀ B E : Nat) (W : World) : Keep n₀ B E W W := ⟨Below.refl _ _, fun _ _ _ => rfl⟩
theorem Keep.trans {n₀ B E : Nat} {W1 W2 W3 : World} (h : Keep n₀ B E W1 W2) (h' : Keep n₀ B E W2 W3) : Keep n₀ B E W1 W3 := ⟨h.1.trans h'.1, fun k h1 h2 => (h'.2 k h1 h2).trans (h.2 k h1 h2)⟩

def Mark (D : Nat) : Deferred := { target := .collected D, args := #[] }
/-- The marks that have been left: each has its own block, which holds no call. -/
def Marks (n₀ : Nat) (Ds : List Nat) (W : World) : Prop := Ds.Nodup ∧ ∀ D ∈ Ds, n₀ ≤ D ∧ W.heap[D]? = some (.deferred (some []))
theorem Marks.nil (n₀ : Nat) (W : World) : Marks n₀ [] W := ⟨List.nodup_nil, fun _ h => by cases h⟩
theorem Marks.lt {n₀ : Nat} {Ds : List Nat} {W : World} (h : Marks n₀ Ds W) : ∀ D ∈ Ds, D < W.heap.size := fun D hD => (Array.getElem?_eq_some_iff.1 (h.2 D hD).2).1
theorem Marks.later {n₀ : Nat} {Ds : List Nat} {W W' : World} (h : Marks n₀ Ds W) (hb : Below W.heap.size W W') : Marks n₀ Ds W' := ⟨h.1, fun D hD => ⟨(h.2 D hD).1, (hb.block D (h.lt D hD)).trans (h.2 D hD).2⟩⟩
theorem Marks.others {n₀ : Nat} {Ds : List Nat} {W W' : World} (h : Marks n₀ Ds W) (hb : KeepsOthers W W') : Marks n₀ Ds W' := ⟨h.1, fun D hD => ⟨(h.2 D hD).1, hb.same D _ (h.2 D hD).2 rfl⟩⟩
theorem Marks.cons {n₀ D : Nat} {Ds : List Nat} {W : World} (h : Marks n₀ Ds W) (hn : n₀ ≤ D) (hD : D ∉ Ds) (hK : W.heap[D]? = some (.deferred (some []))) : Marks n₀ (D :: Ds) W :=
  ⟨List.nodup_cons.2 ⟨hD, h.1⟩, fun k hk => by
    rcases List.mem_cons.1 hk with rfl | hk
    · exact ⟨hn, hK⟩
    · exact h.2 k hk⟩
theorem marks_own {β : Type} {n₀ B : Nat} {Ds : List Nat} (hlt : ∀ D ∈ Ds, D < B) : OwnFrom (β := β) B (fun _ W => Marks n₀ Ds W) := fun _ A C row hs hg hr =>
  ⟨hs.1, fun D hD => ⟨(hs.2 D hD).1, (hg.block D (hs.lt D hD) (fun e => by have := (hr D e.symm).1; have := hlt D hD; omega)).trans (hs.2 D hD).2⟩⟩
theorem blk_own {β : Type} (g : Nat) (t : TypeId) (f : β → Array Value) : Own (fun s W => Blk W g t (f s)) := fun s A C row hs hg hr =>
  (hg.block g hs.lt (fun e => by
    obtain ⟨o, ho, hc⟩ := hr g e.symm
    rw [show A.heap[g]? = _ from hs] at ho
    cases ho
    cases hc)).trans hs

/-- The function's return: all its marks are taken up. -/
theorem leaves_marks {P : Program} {F : Fence} {n : Nat} {fn : Func} {tmps : Array Value} {R : Ending → World → Prop} {n₀ : Nat} (Q : World → Prop)
    (hQ : ∀ w D, Q w → n₀ ≤ D → w.heap[D]? = some (.deferred (some [])) → Q (w.putObj D (.deferred none)))
    (hR : ∀ w, Q w → LeavesInM F n P fn tmps R [] .returning w) : ∀ (Ds : List Nat) (w : World), Marks n₀ Ds w → Q w → LeavesInM F n P fn tmps R (Ds.map Mark) .returning w
  | [], w, _, h => hR w h
  | D :: Ds, w, hm, h => by
    have hD := hm.2 D (List.mem_cons_self ..)
    have hnd := List.nodup_cons.1 hm.1
    refine ⟨by simp, .inl ⟨D, _, rfl, run_takeDeferred hD.2, ?_⟩⟩
    refine leaves_marks Q hQ hR Ds _ ⟨hnd.2, fun k hk => ⟨(hm.2 k (List.mem_cons_of_mem _ hk)).1, ?_⟩⟩ (hQ w D h hD.1 hD.2)
    have hne : D ≠ k := fun e => hnd.1 (by rw [e]; exact hk)
    exact (World.putObj_heap_other (fun e => hne e.symm)).trans (hm.2 k (List.mem_cons_of_mem _ hk)).2

end Go.Proofs.Ytbbmngabbbehcaa
namespace Go.Proofs.Ytbbmngabbbehcaa
open Go.RowKit Go.Shelf
attribute [local go_sem] Oper.semAt_some

theorem infoC : (Try.prog.info? 147).map (·.size) = some 64 := by kernel_rfl

/-- One of 64 numbers, by its place. -/
theorem index_counts (f : Nat → Int) (k : Nat) (hk : k < 64) (w : World) : (Instr.index 147 (.agg (Ve.arr f)) (.int .i64 (k : Int))).run Try.prog w = .ok (.int .i64 (f k)) w := by
  have h1 := Ve.arr_get f k hk
  simp [Instr.index, asIntOf, run_underlying Try.underlying147, part, Try.isAgg3, Try.sizeOf3, h1]
  intro h
  exact absurd h (by omega)

end Go.Proofs.Ytbbmngabbbehcaa
