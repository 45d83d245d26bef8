/-
  Arrays of 256 marks in memory, and what telltaleref03's Set answers: which objects are in a list of spans.
  A cell of a row of the call's own is written anew. Nothing of the program is imported.
  What telltaleref03's Of answers of any 256 marks: the list of the set, in memory of its own.
  What telltaleref03's Same, Copy and Formed answer of any lists of stamps in memory.
-/
import Derived.Test.YtbpgofgdlikedaaProg
import Derived.Test.YtbpgofgdlikedaaG03
import Derived.Test.YtbpgofgdlikedaaG04
import Derived.Tactics
import Derived.Tactics2
import Derived.WalkKit
import Derived.WalkSpells
import Derived.OwnWalk
import Derived.Deep.QuietTactic
import Derived.BigQuiet
import Derived.Deep.RegionHeld3
import Derived.KernelRfl
import Derived.Lib.Hide
import Derived.Laws.Rows
import Derived.Laws.Tables
import Derived.Laws.CopyOwn
import Derived.Laws.ResultCell
import Derived.Deep.DeepCutAuto
import Derived.RegionTactic
import Derived.BigRegion
import Derived.Test.YtbpgofgdlikedaaG01
import Derived.RangeFuncBox
import Derived.Laws.OwnMore
import Derived.WalkSmall
import Derived.Lib.QuietBelow
namespace Go.Proofs.Ytbpgofgdlikedaa
open Go.RowKit

theorem info256 : (Try.prog.info? 52).map (·.size) = some 256 := by kernel_rfl
section
variable {w : World} {g : Nat} {t : TypeId} {f : Nat → Bool}
theorem Blk.marks_put (h : Blk w g t (Sp.arr f)) (i : Nat) (hi : i < 256) (x : Bool) : Blk (w.setCell ⟨g, i, none⟩ (.bool x)) g t (Sp.arr fun j => if j = i then x else f j) := by
  have h2 := h.put i (.bool x)
  rw [Sp.arr_set f i x hi] at h2
  exact h2
theorem Blk.marks_cell (h : Blk w g t (Sp.arr f)) (i : Nat) (hi : i < 256) : w.cell? ⟨g, i, none⟩ = some (.bool (f i)) := h.cell (Sp.arr_get f i hi)
theorem Blk.marks_same {f' : Nat → Bool} (h : Blk w g t (Sp.arr f)) (e : ∀ i, i < 256 → f i = f' i) : Blk w g t (Sp.arr f') := by rw [← Sp.arr_ext e]; exact h
end
theorem one_marks (f : Nat → Bool) : (Sp.arr f).all (·.oneCell') = true := by
  rw [Array.all_eq_true_iff_forall_mem]
  intro x hx
  unfold Sp.arr at hx
  simp at hx
  obtain ⟨i, _, rfl⟩ := hx
  rfl

set_option maxRecDepth 100000 in
set_option maxHeartbeats 3200000 in
theorem set_any (A : Option Addr) (cap : Nat) (l : List (Int × Int)) (w : World) (hl : l.length ≤ 9223372036854775807) (h : Stamps w A l) :
    Calls Try.prog 29 #[.slice A l.length cap] w fun e w' => e = .returned (.agg (Sp.arr (Sp.inL l))) ∧ Below w.heap.size w w' := by
  have HS := Lib.hid h
  clear h
  go_enter Try.func29, Try.ntmps29
  go_wp2_with fail
  rw [marks_zero]
  go_loopw [4] (fun s4 wr => ∃ k : Nat, k ≤ l.length ∧ s4 = .int .i64 (k : Int) ∧ Blk wr (w.heap.size + 1) 52 (Sp.arr (Sp.inL (l.take k))) ∧ Blk wr w.heap.size 52 (Sp.arr fun _ => false) ∧ Below w.heap.size w wr) (fun s4 _ => l.length - (intOf s4).toNat)
  case atStart =>
    have hb := Blk.new (w.alloc (.cells (Sp.arr fun _ => false) 52)) 52 (Sp.arr fun _ => false)
    rw [show (w.alloc (.cells (Sp.arr fun _ => false) 52)).heap.size = w.heap.size + 1 from by simp] at hb
    exact ⟨0, Nat.zero_le _, rfl, hb, (Blk.new _ _ _).alloc _, below_new (below_new (Below.refl _ _) _) _⟩
  case round =>
    obtain ⟨k, hk, rfl, hB1, hB0, hbw⟩ := hrel
    by_cases hlt : k < l.length
    · have hne : l ≠ [] := fun e => by subst e; simp at hlt
      obtain ⟨b, off, hA, hc⟩ := HS.out hne
      subst hA
      obtain ⟨e0, e1⟩ := hc k hlt
      have hb0 : b < w.heap.size := World.block_lt_of_cell? _ _ e0
      rw [List.getD_eq_getElem?_getD, List.getElem?_eq_getElem hlt, Option.getD_some] at e0 e1
      have hit := Sp.inL_take l k hlt
      obtain ⟨x, hx⟩ : ∃ x, l[k].1 = x := ⟨_, rfl⟩
      obtain ⟨y, hy⟩ : ∃ y, l[k].2 = y := ⟨_, rfl⟩
      rw [hx] at e0 hit
      rw [hy] at e1 hit
      have F0 := Lib.hid (fun wx (hq : Below w.heap.size w wx) => (hq.cell (p := ⟨b, _, none⟩) hb0).trans e0)
      have F1 := Lib.hid (fun wx (hq : Below w.heap.size w wx) => (hq.cell (p := ⟨b, _, none⟩) hb0).trans e1)
      have f0 := F0.out wr hbw
      obtain ⟨p, hp1, hp2⟩ : ∃ p : Nat, x ≤ (p : Int) ∧ ((p = 0 ∧ x ≤ 0) ∨ ((p : Int) = x ∧ 0 < x)) := by
        by_cases h0 : 0 < x
        · exact ⟨x.toNat, by omega, .inr ⟨by omega, h0⟩⟩
        · exact ⟨0, by omega, .inl ⟨rfl, by omega⟩⟩
      have hfin : ∀ o : Nat, p ≤ o → (o = p ∨ ((o : Int) ≤ y + 1 ∧ o ≤ 256)) → ((y < 255 ∧ y < (o : Int)) ∨ (255 ≤ y ∧ 255 < (o : Int))) → ∀ j, j < 256 → (Sp.inL (l.take k) j || decide (p ≤ j ∧ j < o)) = Sp.inL (l.take (k + 1)) j := fun o h1 h2 h3 j hj => by
        rw [hit j]
        congr 1
        rw [Bool.eq_iff_iff, decide_eq_true_eq, decide_eq_true_eq]
        omega
      have hbeg : ∀ j, j < 256 → Sp.inL (l.take k) j = (Sp.inL (l.take k) j || decide (p ≤ j ∧ j < p)) := fun j _ => by
        rw [decide_eq_false (by omega), Bool.or_false]
      obtain ⟨f, hf⟩ : ∃ f, Sp.inL (l.take k) = f := ⟨_, rfl⟩
      rw [hf] at hB1 hfin hbeg
      have FIN := Lib.hid hfin
      have HB1 := Lib.hid (hB1.marks_same hbeg)
      have HB0 := Lib.hid hB0
      clear hit hc hfin hB1 hB0 hbeg hf e0 e1 hx hy
      have hi0 : (0 : Int) ≤ (k : Int) := by omega
      have hi1 : (k : Int) < (l.length : Int) := by omega
      have hstart : ∀ v, (v = Value.int .i64 0 ∧ p = 0) ∨ v = .int .i64 (p : Int) → v = .int .i64 (p : Int) := fun v h => by
        rcases h with ⟨rfl, rfl⟩ | h
        · rfl
        · exact h
      have hnext : ∀ o : Nat, p ≤ o → ∀ j, j < 256 → (if j = o then true else (f j || decide (p ≤ j ∧ j < o))) = (f j || decide (p ≤ j ∧ j < o + 1)) := fun o ho j _ => by
        by_cases e : j = o
        · rw [if_pos e, decide_eq_true (by omega), Bool.or_true]
        · rw [if_neg e]
          congr 1
          rw [Bool.eq_iff_iff, decide_eq_true_eq, decide_eq_true_eq]
          omega
      have HST := Lib.hid hstart
      have HNX := Lib.hid hnext
      clear hstart hnext
      rcases hp2 with ⟨hp0, hx0⟩ | ⟨rfl, hx0⟩
      all_goals
        go_wp2_with fail
        go_loopw [5] (fun s5 wq => ∃ o : Nat, p ≤ o ∧ (o = p ∨ ((o : Int) ≤ y + 1 ∧ o ≤ 256)) ∧ s5 = .int .i64 (o : Int) ∧ Blk wq (w.heap.size + 1) 52 (Sp.arr fun j => f j || decide (p ≤ j ∧ j < o)) ∧ Blk wq w.heap.size 52 (Sp.arr fun _ => false) ∧ Below w.heap.size w wq) (fun s5 _ => 256 - (intOf s5).toNat)
        case atStart => exact ⟨p, Nat.le_refl _, .inl rfl, HST.out _ (by first | exact .inr rfl | exact .inl ⟨rfl, hp0⟩), HB1.out, HB0.out, hbw⟩
        case round =>
          obtain ⟨o, hpo, hoo, rfl, hC, hD, hbq⟩ := hrel
          have f1 := F1.out _ hbq
          have HC := Lib.hid hC
          have HD := Lib.hid hD
          have HOO := Lib.hid hoo
          clear hC hD hoo
          rcases Int.lt_or_le y 255 with hy | hy
          · by_cases ho : (o : Int) ≤ y
            · have ho2 : o < 256 := by omega
              have x1 := HC.out.marks_cell o ho2
              have x2 := HC.out.free o
              have hj0 : (0 : Int) ≤ (o : Int) := by omega
              have hj1 : (o : Int) < 256 := by omega
              have B7 := Lib.hid ((HC.out.marks_put o ho2 true).marks_same (HNX.out o hpo))
              have B8 := Lib.hid (HD.out.far (p := ⟨w.heap.size + 1, o, none⟩) (by simp) (.bool true))
              have hbz := hbq.setCell (p := ⟨w.heap.size + 1, o, none⟩) (by simp) (.bool true)
              go_wp2_with fail
              go_roundw
              case rel => exact ⟨o + 1, by omega, .inr ⟨by omega, by omega⟩, by go_num, B7.out, B8.out, hbz⟩
              case measure => simp [intOf]; omega
            · have hno : y < (o : Int) := by omega
              have B7 := Lib.hid (HC.out.marks_same (FIN.out o hpo HOO.out (.inl ⟨hy, hno⟩)))
              go_wp2_with fail
              go_roundw
              case rel => exact ⟨k + 1, by omega, by go_num, B7.out, HD.out, hbq⟩
              case measure => simp [intOf]; omega
          · by_cases ho : (o : Int) ≤ 255
            · have ho2 : o < 256 := by omega
              have x1 := HC.out.marks_cell o ho2
              have x2 := HC.out.free o
              have hj0 : (0 : Int) ≤ (o : Int) := by omega
              have hj1 : (o : Int) < 256 := by omega
              have B7 := Lib.hid ((HC.out.marks_put o ho2 true).marks_same (HNX.out o hpo))
              have B8 := Lib.hid (HD.out.far (p := ⟨w.heap.size + 1, o, none⟩) (by simp) (.bool true))
              have hbz := hbq.setCell (p := ⟨w.heap.size + 1, o, none⟩) (by simp) (.bool true)
              go_wp2_with fail
              go_roundw
              case rel => exact ⟨o + 1, by omega, .inr ⟨by omega, by omega⟩, by go_num, B7.out, B8.out, hbz⟩
              case measure => simp [intOf]; omega
            · have hno : 255 < (o : Int) := by omega
              have B7 := Lib.hid (HC.out.marks_same (FIN.out o hpo HOO.out (.inr ⟨hy, hno⟩)))
              go_wp2_with fail
              go_roundw
              case rel => exact ⟨k + 1, by omega, by go_num, B7.out, HD.out, hbq⟩
              case measure => simp [intOf]; omega
    · have hkl : k = l.length := by omega
      subst hkl
      rw [List.take_length] at hB1
      go_wp2_with (first | (refine wpList_load_row rfl 52 _ rfl (w.heap.size + 1) rfl 52 _ (0, 0) _ hB1 Try.underlying52 rfl (by rw [Sp.arr_size]; exact info256) ?_) | (refine wpList_store_row rfl 52 _ _ rfl w.heap.size _ rfl rfl 52 _ hB0 (by rw [Sp.arr_size]; exact info256) (by rw [Sp.arr_size, Sp.arr_size]) (one_marks _) ?_))
      refine bodyPost_ret (v := .agg (Sp.arr (Sp.inL l))) (results_cell_row rfl _ _ w.heap.size 52 (Sp.arr (Sp.inL l)) (0, 0) _ rfl (setRow_heap _ _ _ _ _ _ hB0) Try.underlying52 rfl (by rw [Sp.arr_size]; exact info256)) rfl ⟨rfl, below_setRow hbw (Nat.le_refl _) _⟩

end Go.Proofs.Ytbpgofgdlikedaa
namespace Go.Proofs.Ytbpgofgdlikedaa
open Go.RowKit

section
variable {w : World} {base : Nat} {e : TypeId} {size n cap g : Nat} {xs : List Value}
theorem own_cell_at (h : w.ownsRow base e size (.slice (some ⟨g, 0, none⟩) n cap) n xs) {i : Nat} {u : Value} (hu : xs[i]? = some u) : w.cell? ⟨g, i, none⟩ = some u := by
  rcases h.2 with ⟨h1, _⟩ | ⟨g', cap', cur, h1, _, hg, _, _, _, ht⟩
  · cases h1
  · injection h1 with h1 h2 h3
    injection h1 with h1
    injection h1 with h1
    subst h1
    rw [cell_of_row w g i cur e (0, 0) hg, ← Array.getElem?_toList]
    rw [← ht] at hu
    rw [List.getElem?_take] at hu
    split at hu
    · exact hu
    · cases hu
theorem own_free_at (h : w.ownsRow base e size (.slice (some ⟨g, 0, none⟩) n cap) n xs) (i : Nat) : w.frozen? ⟨g, i, none⟩ = false := by
  rcases h.2 with ⟨h1, _⟩ | ⟨g', cap', cur, h1, _, hg, _⟩
  · cases h1
  · injection h1 with h1 h2 h3
    injection h1 with h1
    injection h1 with h1
    subst h1
    exact Blk.free hg i
theorem own_base_le (h : w.ownsRow base e size (.slice (some ⟨g, 0, none⟩) n cap) n xs) : base ≤ g ∧ g < w.heap.size := by
  rcases h.2 with ⟨h1, _⟩ | ⟨g', cap', cur, h1, hb, hg, _⟩
  · cases h1
  · injection h1 with h1 h2 h3
    injection h1 with h1
    injection h1 with h1
    subst h1
    exact ⟨hb, Blk.lt hg⟩
theorem own_put (h : w.ownsRow base e size (.slice (some ⟨g, 0, none⟩) n cap) n xs) (i : Nat) (u : Value) : (w.setCell ⟨g, i, none⟩ u).ownsRow base e size (.slice (some ⟨g, 0, none⟩) n cap) n (xs.set i u) := by
  refine ⟨by rw [List.length_set]; exact h.1, ?_⟩
  rcases h.2 with ⟨h1, _⟩ | ⟨g', cap', cur, h1, hb, hg, h4, h5, h6, h7⟩
  · cases h1
  · injection h1 with h1 h2 h3
    injection h1 with h1
    injection h1 with h1
    subst h1 h3
    refine .inr ⟨g, cap, cur.setIfInBounds i u, rfl, hb, Blk.put hg i u, h4, h5, by rw [Array.size_setIfInBounds]; exact h6, ?_⟩
    rw [Array.toList_setIfInBounds, List.take_set, h7]
theorem own_len {v : Value} (h : w.ownsRow base e size v n xs) (hn : 0 < n) : ∃ g cap, v = .slice (some ⟨g, 0, none⟩) n cap := by
  obtain ⟨m, rfl⟩ : ∃ m, n = m + 1 := ⟨n - 1, by omega⟩
  exact ownsRow_succ h
end

theorem Blk.row {w : World} {g : Nat} {t : TypeId} {cs : Array Value} (h : Blk w g t cs) (cs' : Array Value) : Blk (w.setRow g cs') g t cs' := setRow_heap _ _ _ _ _ _ h
theorem Blk.rowFar {w : World} {g g' : Nat} {t : TypeId} {cs : Array Value} (h : Blk w g t cs) (hne : g ≠ g') (cs' : Array Value) : Blk (w.setRow g' cs') g t cs := (setRow_other _ _ _ _ hne).trans h
theorem Stamps.later {w w' : World} {A : Option Addr} {l : List (Int × Int)} (h : Stamps w A l) (hb : Below w.heap.size w w') : Stamps w' A l := fun hne => by
  obtain ⟨b, off, hA, hc⟩ := h hne
  exact ⟨b, off, hA, fun k hk => ⟨cell_later hb (hc k hk).1, cell_later hb (hc k hk).2⟩⟩
theorem take_ext {l r : List (Int × Int)} (h : l.length = r.length) (hk : ∀ k, k < l.length → l.getD k (0, 0) = r.getD k (0, 0)) : l = r := by
  apply List.ext_getElem h
  intro i h1 h2
  have := hk i h1
  rw [List.getD_eq_getElem?_getD, List.getD_eq_getElem?_getD, List.getElem?_eq_getElem h1, List.getElem?_eq_getElem h2] at this
  simpa using this

end Go.Proofs.Ytbpgofgdlikedaa
namespace Go.Proofs.Ytbpgofgdlikedaa
open Go.RowKit

theorem infoSp : (Try.prog.info? 66).map (fun i => (i.zero, i.size, i.bytes)) = some (some (.agg #[.int .i64 0, .int .i64 0]), 2, 16) := by kernel_rfl

/-- A list of spans is answered, in memory of the call's own; what was there before is as it was. -/
def GivesS (l : List (Int × Int)) (w : World) (e : Ending) (w' : World) : Prop :=
  ∃ v, e = .returned v ∧ w'.ownsRow w.heap.size 66 2 v l.length (stCells l) ∧ Below w.heap.size w w'

theorem reach_cells (l : List (Int × Int)) (h : 0 < l.length) (x : Int) : (stCells l).set ((l.length - 1) * 2 + 1) (.int .i64 x) = stCells (Sp.reach l x) := by
  have h1 : stCells l = stCells l.dropLast ++ [.int .i64 (l.getD (l.length - 1) (0, 0)).1, .int .i64 (l.getD (l.length - 1) (0, 0)).2] := by
    conv => lhs; rw [Sp.split_last l h]
    rw [stCells_append]
    rfl
  have h2 : (stCells l.dropLast).length = (l.length - 1) * 2 := by rw [stCells_length, List.length_dropLast]
  unfold Sp.reach
  rw [h1, stCells_append, ← h2, List.set_append_right _ _ (by omega)]
  congr 1
  rw [show (stCells l.dropLast).length + 1 - (stCells l.dropLast).length = 1 from by omega]
  rfl

end Go.Proofs.Ytbpgofgdlikedaa
namespace Go.Proofs.Ytbpgofgdlikedaa
open Go.RowKit

end Go.Proofs.Ytbpgofgdlikedaa
