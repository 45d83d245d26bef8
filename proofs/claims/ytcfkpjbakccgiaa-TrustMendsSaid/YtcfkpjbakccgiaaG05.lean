/-
  Arrays of 256 marks in memory, and what telltaleref03's Set answers: which objects are in a list of spans.
  A cell of a row of the call's own is written anew. Nothing of the program is imported.
  What telltaleref03's Of answers of any 256 marks: the list of the set, in memory of its own.
  What telltaleref03's Same, Copy and Formed answer of any lists of stamps in memory.
-/
import Derived.Test.YtcfkpjbakccgiaaProg
import Derived.Test.YtcfkpjbakccgiaaG03
import Derived.Test.YtcfkpjbakccgiaaG04
import Derived.Tactics
import Derived.Tactics2
import Derived.WalkKit
import Derived.WalkSpells
import Derived.OwnWalk
import Derived.Deep.QuietTactic
import Derived.BigQuiet
import Derived.Deep.RegionHeld3
import Derived.KernelRfl
import Derived.Lib.Hide
import Derived.Laws.Rows
import Derived.Laws.Tables
import Derived.Laws.CopyOwn
import Derived.Laws.ResultCell
import Derived.Deep.DeepCutAuto
import Derived.RegionTactic
import Derived.BigRegion
import Derived.Test.YtcfkpjbakccgiaaG01
import Derived.RangeFuncBox
import Derived.Laws.OwnMore
import Derived.WalkSmall
import Derived.Lib.QuietBelow
namespace Go.Proofs.Ytcfkpjbakccgiaa
open Go.RowKit

theorem info256 : (Try.prog.info? 63).map (·.size) = some 256 := by kernel_rfl
section
variable {w : World} {g : Nat} {t : TypeId} {f : Nat → Bool}
theorem Blk.marks_put (h : Blk w g t (Sp.arr f)) (i : Nat) (hi : i < 256) (x : Bool) : Blk (w.setCell ⟨g, i, none⟩ (.bool x)) g t (Sp.arr fun j => if j = i then x else f j) := by
  have h2 := h.put i (.bool x)
  rw [Sp.arr_set f i x hi] at h2
  exact h2
theorem Blk.marks_cell (h : Blk w g t (Sp.arr f)) (i : Nat) (hi : i < 256) : w.cell? ⟨g, i, none⟩ = some (.bool (f i)) := h.cell (Sp.arr_get f i hi)
theorem Blk.marks_same {f' : Nat → Bool} (h : Blk w g t (Sp.arr f)) (e : ∀ i, i < 256 → f i = f' i) : Blk w g t (Sp.arr f') := by rw [← Sp.arr_ext e]; exact h
end
theorem one_marks (f : Nat → Bool) : (Sp.arr f).all (·.oneCell') = true := by
  rw [Array.all_eq_true_iff_forall_mem]
  intro x hx
  unfold Sp.arr at hx
  simp at hx
  obtain ⟨i, _, rfl⟩ := hx
  rfl

set_option maxRecDepth 100000 in
set_option maxHeartbeats 3200000 in
theorem set_any (A : Option Addr) (cap : Nat) (l : List (Int × Int)) (w : World) (hl : l.length ≤ 9223372036854775807) (h : Stamps w A l) :
    Calls Try.prog 47 #[.slice A l.length cap] w fun e w' => e = .returned (.agg (Sp.arr (Sp.inL l))) ∧ Below w.heap.size w w' := by
  have HS := Lib.hid h
  clear h
  go_enter Try.func47, Try.ntmps47
  go_wp2_with fail
  rw [marks_zero]
  go_loopw [4] (fun s4 wr => ∃ k : Nat, k ≤ l.length ∧ s4 = .int .i64 (k : Int) ∧ Blk wr (w.heap.size + 1) 63 (Sp.arr (Sp.inL (l.take k))) ∧ Blk wr w.heap.size 63 (Sp.arr fun _ => false) ∧ Below w.heap.size w wr) (fun s4 _ => l.length - (intOf s4).toNat)
  case atStart =>
    have hb := Blk.new (w.alloc (.cells (Sp.arr fun _ => false) 63)) 63 (Sp.arr fun _ => false)
    rw [show (w.alloc (.cells (Sp.arr fun _ => false) 63)).heap.size = w.heap.size + 1 from by simp] at hb
    exact ⟨0, Nat.zero_le _, rfl, hb, (Blk.new _ _ _).alloc _, below_new (below_new (Below.refl _ _) _) _⟩
  case round =>
    obtain ⟨k, hk, rfl, hB1, hB0, hbw⟩ := hrel
    by_cases hlt : k < l.length
    · have hne : l ≠ [] := fun e => by subst e; simp at hlt
      obtain ⟨b, off, hA, hc⟩ := HS.out hne
      subst hA
      obtain ⟨e0, e1⟩ := hc k hlt
      have hb0 : b < w.heap.size := World.block_lt_of_cell? _ _ e0
      rw [List.getD_eq_getElem?_getD, List.getElem?_eq_getElem hlt, Option.getD_some] at e0 e1
      have hit := Sp.inL_take l k hlt
      obtain ⟨x, hx⟩ : ∃ x, l[k].1 = x := ⟨_, rfl⟩
      obtain ⟨y, hy⟩ : ∃ y, l[k].2 = y := ⟨_, rfl⟩
      rw [hx] at e0 hit
      rw [hy] at e1 hit
      have F0 := Lib.hid (fun wx (hq : Below w.heap.size w wx) => (hq.cell (p := ⟨b, _, none⟩) hb0).trans e0)
      have F1 := Lib.hid (fun wx (hq : Below w.heap.size w wx) => (hq.cell (p := ⟨b, _, none⟩) hb0).trans e1)
      have f0 := F0.out wr hbw
      obtain ⟨p, hp1, hp2⟩ : ∃ p : Nat, x ≤ (p : Int) ∧ ((p = 0 ∧ x ≤ 0) ∨ ((p : Int) = x ∧ 0 < x)) := by
        by_cases h0 : 0 < x
        · exact ⟨x.toNat, by omega, .inr ⟨by omega, h0⟩⟩
        · exact ⟨0, by omega, .inl ⟨rfl, by omega⟩⟩
      have hfin : ∀ o : Nat, p ≤ o → (o = p ∨ ((o : Int) ≤ y + 1 ∧ o ≤ 256)) → ((y < 255 ∧ y < (o : Int)) ∨ (255 ≤ y ∧ 255 < (o : Int))) → ∀ j, j < 256 → (Sp.inL (l.take k) j || decide (p ≤ j ∧ j < o)) = Sp.inL (l.take (k + 1)) j := fun o h1 h2 h3 j hj => by
        rw [hit j]
        congr 1
        rw [Bool.eq_iff_iff, decide_eq_true_eq, decide_eq_true_eq]
        omega
      have hbeg : ∀ j, j < 256 → Sp.inL (l.take k) j = (Sp.inL (l.take k) j || decide (p ≤ j ∧ j < p)) := fun j _ => by
        rw [decide_eq_false (by omega), Bool.or_false]
      obtain ⟨f, hf⟩ : ∃ f, Sp.inL (l.take k) = f := ⟨_, rfl⟩
      rw [hf] at hB1 hfin hbeg
      have FIN := Lib.hid hfin
      have HB1 := Lib.hid (hB1.marks_same hbeg)
      have HB0 := Lib.hid hB0
      clear hit hc hfin hB1 hB0 hbeg hf e0 e1 hx hy
      have hi0 : (0 : Int) ≤ (k : Int) := by omega
      have hi1 : (k : Int) < (l.length : Int) := by omega
      have hstart : ∀ v, (v = Value.int .i64 0 ∧ p = 0) ∨ v = .int .i64 (p : Int) → v = .int .i64 (p : Int) := fun v h => by
        rcases h with ⟨rfl, rfl⟩ | h
        · rfl
        · exact h
      have hnext : ∀ o : Nat, p ≤ o → ∀ j, j < 256 → (if j = o then true else (f j || decide (p ≤ j ∧ j < o))) = (f j || decide (p ≤ j ∧ j < o + 1)) := fun o ho j _ => by
        by_cases e : j = o
        · rw [if_pos e, decide_eq_true (by omega), Bool.or_true]
        · rw [if_neg e]
          congr 1
          rw [Bool.eq_iff_iff, decide_eq_true_eq, decide_eq_true_eq]
          omega
      have HST := Lib.hid hstart
      have HNX := Lib.hid hnext
      clear hstart hnext
      rcases hp2 with ⟨hp0, hx0⟩ | ⟨rfl, hx0⟩
      all_goals
        go_wp2_with fail
        go_loopw [5] (fun s5 wq => ∃ o : Nat, p ≤ o ∧ (o = p ∨ ((o : Int) ≤ y + 1 ∧ o ≤ 256)) ∧ s5 = .int .i64 (o : Int) ∧ Blk wq (w.heap.size + 1) 63 (Sp.arr fun j => f j || decide (p ≤ j ∧ j < o)) ∧ Blk wq w.heap.size 63 (Sp.arr fun _ => false) ∧ Below w.heap.size w wq) (fun s5 _ => 256 - (intOf s5).toNat)
        case atStart => exact ⟨p, Nat.le_refl _, .inl rfl, HST.out _ (by first | exact .inr rfl | exact .inl ⟨rfl, hp0⟩), HB1.out, HB0.out, hbw⟩
        case round =>
          obtain ⟨o, hpo, hoo, rfl, hC, hD, hbq⟩ := hrel
          have f1 := F1.out _ hbq
          have HC := Lib.hid hC
          have HD := Lib.hid hD
          have HOO := Lib.hid hoo
          clear hC hD hoo
          rcases Int.lt_or_le y 255 with hy | hy
          · by_cases ho : (o : Int) ≤ y
            · have ho2 : o < 256 := by omega
              have x1 := HC.out.marks_cell o ho2
              have x2 := HC.out.free o
              have hj0 : (0 : Int) ≤ (o : Int) := by omega
              have hj1 : (o : Int) < 256 := by omega
              have B7 := Lib.hid ((HC.out.marks_put o ho2 true).marks_same (HNX.out o hpo))
              have B8 := Lib.hid (HD.out.far (p := ⟨w.heap.size + 1, o, none⟩) (by simp) (.bool true))
              have hbz := hbq.setCell (p := ⟨w.heap.size + 1, o, none⟩) (by simp) (.bool true)
              go_wp2_with fail
              go_roundw
              case rel => exact ⟨o + 1, by omega, .inr ⟨by omega, by omega⟩, by go_num, B7.out, B8.out, hbz⟩
              case measure => simp [intOf]; omega
            · have hno : y < (o : Int) := by omega
              have B7 := Lib.hid (HC.out.marks_same (FIN.out o hpo HOO.out (.inl ⟨hy, hno⟩)))
              go_wp2_with fail
              go_roundw
              case rel => exact ⟨k + 1, by omega, by go_num, B7.out, HD.out, hbq⟩
              case measure => simp [intOf]; omega
          · by_cases ho : (o : Int) ≤ 255
            · have ho2 : o < 256 := by omega
              have x1 := HC.out.marks_cell o ho2
              have x2 := HC.out.free o
              have hj0 : (0 : Int) ≤ (o : Int) := by omega
              have hj1 : (o : Int) < 256 := by omega
              have B7 := Lib.hid ((HC.out.marks_put o ho2 true).marks_same (HNX.out o hpo))
              have B8 := Lib.hid (HD.out.far (p := ⟨w.heap.size + 1, o, none⟩) (by simp) (.bool true))
              have hbz := hbq.setCell (p := ⟨w.heap.size + 1, o, none⟩) (by simp) (.bool true)
              go_wp2_with fail
              go_roundw
              case rel => exact ⟨o + 1, by omega, .inr ⟨by omega, by omega⟩, by go_num, B7.out, B8.out, hbz⟩
              case measure => simp [intOf]; omega
            · have hno : 255 < (o : Int) := by omega
              have B7 := Lib.hid (HC.out.marks_same (FIN.out o hpo HOO.out (.inr ⟨hy, hno⟩)))
              go_wp2_with fail
              go_roundw
              case rel => exact ⟨k + 1, by omega, by go_num, B7.out, HD.out, hbq⟩
              case measure => simp [intOf]; omega
    · have hkl : k = l.length := by omega
      subst hkl
      rw [List.take_length] at hB1
      go_wp2_with (first | (refine wpList_load_row rfl 63 _ rfl (w.heap.size + 1) rfl 63 _ (0, 0) _ hB1 Try.underlying63 rfl (by rw [Sp.arr_size]; exact info256) ?_) | (refine wpList_store_row rfl 63 _ _ rfl w.heap.size _ rfl rfl 63 _ hB0 (by rw [Sp.arr_size]; exact info256) (by rw [Sp.arr_size, Sp.arr_size]) (one_marks _) ?_))
      refine bodyPost_ret (v := .agg (Sp.arr (Sp.inL l))) (results_cell_row rfl _ _ w.heap.size 63 (Sp.arr (Sp.inL l)) (0, 0) _ rfl (setRow_heap _ _ _ _ _ _ hB0) Try.underlying63 rfl (by rw [Sp.arr_size]; exact info256)) rfl ⟨rfl, below_setRow hbw (Nat.le_refl _) _⟩

end Go.Proofs.Ytcfkpjbakccgiaa
namespace Go.Proofs.Ytcfkpjbakccgiaa
open Go.RowKit

section
variable {w : World} {base : Nat} {e : TypeId} {size n cap g : Nat} {xs : List Value}
theorem own_cell_at (h : w.ownsRow base e size (.slice (some ⟨g, 0, none⟩) n cap) n xs) {i : Nat} {u : Value} (hu : xs[i]? = some u) : w.cell? ⟨g, i, none⟩ = some u := by
  rcases h.2 with ⟨h1, _⟩ | ⟨g', cap', cur, h1, _, hg, _, _, _, ht⟩
  · cases h1
  · injection h1 with h1 h2 h3
    injection h1 with h1
    injection h1 with h1
    subst h1
    rw [cell_of_row w g i cur e (0, 0) hg, ← Array.getElem?_toList]
    rw [← ht] at hu
    rw [List.getElem?_take] at hu
    split at hu
    · exact hu
    · cases hu
theorem own_free_at (h : w.ownsRow base e size (.slice (some ⟨g, 0, none⟩) n cap) n xs) (i : Nat) : w.frozen? ⟨g, i, none⟩ = false := by
  rcases h.2 with ⟨h1, _⟩ | ⟨g', cap', cur, h1, _, hg, _⟩
  · cases h1
  · injection h1 with h1 h2 h3
    injection h1 with h1
    injection h1 with h1
    subst h1
    exact Blk.free hg i
theorem own_base_le (h : w.ownsRow base e size (.slice (some ⟨g, 0, none⟩) n cap) n xs) : base ≤ g ∧ g < w.heap.size := by
  rcases h.2 with ⟨h1, _⟩ | ⟨g', cap', cur, h1, hb, hg, _⟩
  · cases h1
  · injection h1 with h1 h2 h3
    injection h1 with h1
    injection h1 with h1
    subst h1
    exact ⟨hb, Blk.lt hg⟩
theorem own_put (h : w.ownsRow base e size (.slice (some ⟨g, 0, none⟩) n cap) n xs) (i : Nat) (u : Value) : (w.setCell ⟨g, i, none⟩ u).ownsRow base e size (.slice (some ⟨g, 0, none⟩) n cap) n (xs.set i u) := by
  refine ⟨by rw [List.length_set]; exact h.1, ?_⟩
  rcases h.2 with ⟨h1, _⟩ | ⟨g', cap', cur, h1, hb, hg, h4, h5, h6, h7⟩
  · cases h1
  · injection h1 with h1 h2 h3
    injection h1 with h1
    injection h1 with h1
    subst h1 h3
    refine .inr ⟨g, cap, cur.setIfInBounds i u, rfl, hb, Blk.put hg i u, h4, h5, by rw [Array.size_setIfInBounds]; exact h6, ?_⟩
    rw [Array.toList_setIfInBounds, List.take_set, h7]
theorem own_len {v : Value} (h : w.ownsRow base e size v n xs) (hn : 0 < n) : ∃ g cap, v = .slice (some ⟨g, 0, none⟩) n cap := by
  obtain ⟨m, rfl⟩ : ∃ m, n = m + 1 := ⟨n - 1, by omega⟩
  exact ownsRow_succ h
end

theorem Blk.row {w : World} {g : Nat} {t : TypeId} {cs : Array Value} (h : Blk w g t cs) (cs' : Array Value) : Blk (w.setRow g cs') g t cs' := setRow_heap _ _ _ _ _ _ h
theorem Blk.rowFar {w : World} {g g' : Nat} {t : TypeId} {cs : Array Value} (h : Blk w g t cs) (hne : g ≠ g') (cs' : Array Value) : Blk (w.setRow g' cs') g t cs := (setRow_other _ _ _ _ hne).trans h
theorem Stamps.later {w w' : World} {A : Option Addr} {l : List (Int × Int)} (h : Stamps w A l) (hb : Below w.heap.size w w') : Stamps w' A l := fun hne => by
  obtain ⟨b, off, hA, hc⟩ := h hne
  exact ⟨b, off, hA, fun k hk => ⟨cell_later hb (hc k hk).1, cell_later hb (hc k hk).2⟩⟩
theorem take_ext {l r : List (Int × Int)} (h : l.length = r.length) (hk : ∀ k, k < l.length → l.getD k (0, 0) = r.getD k (0, 0)) : l = r := by
  apply List.ext_getElem h
  intro i h1 h2
  have := hk i h1
  rw [List.getD_eq_getElem?_getD, List.getD_eq_getElem?_getD, List.getElem?_eq_getElem h1, List.getElem?_eq_getElem h2] at this
  simpa using this

end Go.Proofs.Ytcfkpjbakccgiaa
namespace Go.Proofs.Ytcfkpjbakccgiaa
open Go.RowKit

theorem infoSp : (Try.prog.info? 55).map (fun i => (i.zero, i.size, i.bytes)) = some (some (.agg #[.int .i64 0, .int .i64 0]), 2, 16) := by kernel_rfl

/-- A list of spans is answered, in memory of the call's own; what was there before is as it was. -/
def GivesS (l : List (Int × Int)) (w : World) (e : Ending) (w' : World) : Prop :=
  ∃ v, e = .returned v ∧ w'.ownsRow w.heap.size 55 2 v l.length (stCells l) ∧ Below w.heap.size w w'

theorem reach_cells (l : List (Int × Int)) (h : 0 < l.length) (x : Int) : (stCells l).set ((l.length - 1) * 2 + 1) (.int .i64 x) = stCells (Sp.reach l x) := by
  have h1 : stCells l = stCells l.dropLast ++ [.int .i64 (l.getD (l.length - 1) (0, 0)).1, .int .i64 (l.getD (l.length - 1) (0, 0)).2] := by
    conv => lhs; rw [Sp.split_last l h]
    rw [stCells_append]
    rfl
  have h2 : (stCells l.dropLast).length = (l.length - 1) * 2 := by rw [stCells_length, List.length_dropLast]
  unfold Sp.reach
  rw [h1, stCells_append, ← h2, List.set_append_right _ _ (by omega)]
  congr 1
  rw [show (stCells l.dropLast).length + 1 - (stCells l.dropLast).length = 1 from by omega]
  rfl

set_option maxRecDepth 100000 in
set_option maxHeartbeats 3200000 in
theorem ofS_any (f : Nat → Bool) (w : World) : Calls Try.prog 40 #[.agg (Sp.arr f)] w (GivesS (Sp.ofL f) w) := by
  obtain ⟨i0, hi, hz0, hz1, hz2⟩ := info_parts infoSp
  go_enter Try.func40, Try.ntmps40
  go_wp2_with fail
  go_loopw [3, 4] (fun s3 s4 wr => ∃ k : Nat, k ≤ 256 ∧ s4 = .int .i64 (k : Int) ∧ wr.ownsRow (w.heap.size + 1) 55 2 s3 (Sp.ofTo f k).length (stCells (Sp.ofTo f k)) ∧ Blk wr w.heap.size 63 (Sp.arr f) ∧ Below w.heap.size w wr) (fun _ s4 _ => 256 - (intOf s4).toNat)
  case atStart => exact ⟨0, by omega, rfl, ⟨rfl, .inl ⟨rfl, rfl⟩⟩, Blk.new _ _ _, below_new (Below.refl _ _) _⟩
  case round =>
    obtain ⟨k, hk, rfl, hown, hB, hbw⟩ := hrel
    by_cases hlt : k < 256
    · have c0 := hB.marks_cell k hlt
      have hi0 : (0 : Int) ≤ (k : Int) := by omega
      have hi1 : (k : Int) < 256 := by omega
      have hln : (Sp.ofTo f k).length ≤ 256 := by have := Sp.ofTo_short f k; omega
      have hsz := hbw.size
      have HB := Lib.hid hB
      have hst := Sp.ofTo.eq_2 f k
      have his := (Sp.ofTo_is f k).2.2.1
      cases hp : f k
      · rw [hp] at c0 hst
        have HST := Lib.hid (hst.trans (if_neg (by simp)))
        have HO := Lib.hid hown
        clear hown hst hp hB his
        go_wp2_with fail
        go_roundw
        case rel => exact ⟨k + 1, by omega, by go_num, by rw [HST.out]; exact HO.out, HB.out, hbw⟩
        case measure => simp [intOf]; omega
      · rw [hp] at c0 hst
        rw [if_pos rfl] at hst
        by_cases hq : 0 < k ∧ f (k - 1) = true
        · rw [if_pos hq] at hst
          obtain ⟨hl0, _⟩ := his hq.1 hq.2
          obtain ⟨m, rfl⟩ : ∃ m, k = m + 1 := ⟨k - 1, by omega⟩
          have c1 := hB.marks_cell m (by omega)
          have hfm : f m = true := hq.2
          rw [hfm] at c1
          have hm1 : ((m + 1 : Nat) : Int) - 1 = (m : Int) := by omega
          have hm0 : (0 : Int) ≤ (m : Int) := by omega
          have hm2 : (m : Int) < 256 := by omega
          have hg : decide (((m + 1 : Nat) : Int) > 0) = true := decide_eq_true (by omega)
          obtain ⟨g, cap, rfl⟩ := own_len hown hl0
          obtain ⟨hg1, hg2⟩ := own_base_le hown
          have hrc := reach_cells _ hl0 ((m + 1 : Nat) : Int)
          have hrl := Sp.reach_len _ ((m + 1 : Nat) : Int) hl0
          obtain ⟨L, hL⟩ : ∃ L, Sp.ofTo f (m + 1) = L := ⟨_, rfl⟩
          rw [hL] at hown hrc hrl hst hl0 hln
          obtain ⟨q, hq1⟩ : ∃ q, L.length = q + 1 := ⟨L.length - 1, by omega⟩
          have hcl := own_cell_at hown (i := q * 2 + 1) (stCells_get L q (by omega)).2
          have hfr := own_free_at hown (q * 2 + 1)
          have hpt := own_put hown (q * 2 + 1) (.int .i64 ((m + 1 : Nat) : Int))
          rw [hq1, show q + 1 - 1 = q from rfl] at hrc
          rw [hrc] at hpt
          rw [← hst] at hpt hrl
          rw [← hrl] at hpt
          have hq2 : ((q + 1 : Nat) : Int) - 1 = (q : Int) := by omega
          have hq3 : (0 : Int) ≤ (q : Int) := by omega
          have hq4 : (q : Int) < ((q + 1 : Nat) : Int) := by omega
          have hB2 := Lib.hid (HB.out.far (p := ⟨g, q * 2 + 1, none⟩) (by show w.heap.size ≠ g; omega) (.int .i64 ((m + 1 : Nat) : Int)))
          have hb2 := hbw.setCell (p := ⟨g, q * 2 + 1, none⟩) (by show w.heap.size ≤ g; omega) (.int .i64 ((m + 1 : Nat) : Int))
          rw [hrl, hq1] at hpt
          rw [hL, hq1]
          have HPT := Lib.hid hpt
          have HRL := Lib.hid (hrl.trans hq1)
          clear hpt hrc hst hown hB hq hp hfm hL his hl0
          go_wp2_with fail
          go_roundw
          case rel => exact ⟨m + 1 + 1, by omega, by go_num, by rw [HRL.out]; exact HPT.out, hB2.out, hb2⟩
          case measure => simp [intOf]; omega
        · have hgd : 0 < k → f (k - 1) = false := fun h0 => by
            cases hf : f (k - 1) with
            | false => rfl
            | true => exact absurd ⟨h0, hf⟩ hq
          rw [if_neg hq] at hst
          have HST := Lib.hid hst
          cases k with
          | zero =>
            clear hst hq hp hB his
            go_wp2_with (at_builtin; refine wpList_append_lies _ rfl _ _ 28 rfl (w.heap.size + 1) 55 i0 (.agg #[.int .i64 0, .int .i64 0]) 2 16 Try.underlying28 hi hz0 hz1 hz2 rfl (by decide) _ (Sp.ofTo f 0).length (stCells (Sp.ofTo f 0)) rfl (hown.alloc _) (some ⟨wr.heap.size, 0, none⟩) 1 1 (fun h => by cases h) (stCells [(0, 0)]) rfl rfl ?c1 (stCells_one _) ?c3 ?c4 ?c5 ?_)
            case c1 =>
              intro _
              refine ⟨wr.heap.size, 0, rfl, fun j u hu => ?_⟩
              rw [Nat.zero_add]
              exact (Blk.new wr 55 #[.int .i64 0, .int .i64 0]).cell (by simpa [stCells] using hu)
            case c3 => unfold maxLen; omega
            case c4 => omega
            case c5 => have := HB.out.lt; simp; omega
            intro v' w1 hown1 hg1 _
            have hB1 : Blk w1 w.heap.size 63 (Sp.arr f) := (hg1.block w.heap.size (by have := HB.out.lt; simp; omega) (fun e => by have := own_ge hown _ e.symm; omega)).trans (HB.out.alloc _)
            have hb1 : Below w.heap.size w w1 := (below_new hbw _).grown hg1 (by simp; omega) (fun k' hk' => by have := own_ge hown _ hk'; omega)
            rw [← stCells_append, show (Sp.ofTo f 0).length + 1 = (Sp.ofTo f 0 ++ [(((0 : Nat) : Int), ((0 : Nat) : Int))]).length from by simp] at hown1
            have HO := Lib.hid (show w1.ownsRow _ _ _ v' _ (stCells (Sp.ofTo f 0 ++ [(((0 : Nat) : Int), ((0 : Nat) : Int))])) from hown1)
            have HB1 := Lib.hid hB1
            clear hown1 hB1 hown hg1
            go_wp2_with fail
            go_roundw
            case rel => exact ⟨0 + 1, by omega, by go_num, by rw [HST.out]; exact HO.out, HB1.out, hb1⟩
            case measure => simp [intOf]
          | succ m =>
            have c1 := hB.marks_cell m (by omega)
            have hfm : f m = false := hgd (by omega)
            rw [hfm] at c1
            have hm1 : ((m + 1 : Nat) : Int) - 1 = (m : Int) := by omega
            have hm0 : (0 : Int) ≤ (m : Int) := by omega
            have hm2 : (m : Int) < 256 := by omega
            have hg : decide (((m + 1 : Nat) : Int) > 0) = true := decide_eq_true (by omega)
            clear hst hq hp hB his hgd hfm
            go_wp2_with (at_builtin; refine wpList_append_lies _ rfl _ _ 28 rfl (w.heap.size + 1) 55 i0 (.agg #[.int .i64 0, .int .i64 0]) 2 16 Try.underlying28 hi hz0 hz1 hz2 rfl (by decide) _ (Sp.ofTo f (m + 1)).length (stCells (Sp.ofTo f (m + 1))) rfl (hown.alloc _) (some ⟨wr.heap.size, 0, none⟩) 1 1 (fun h => by cases h) (stCells [(((m + 1 : Nat) : Int), ((m + 1 : Nat) : Int))]) rfl rfl ?c1 (stCells_one _) ?c3 ?c4 ?c5 ?_)
            case c1 =>
              intro _
              refine ⟨wr.heap.size, 0, rfl, fun j u hu => ?_⟩
              rw [Nat.zero_add]
              exact (Blk.new wr 55 #[.int .i64 ((m + 1 : Nat) : Int), .int .i64 ((m + 1 : Nat) : Int)]).cell (by simpa [stCells] using hu)
            case c3 => unfold maxLen; omega
            case c4 => omega
            case c5 => have := HB.out.lt; simp; omega
            intro v' w1 hown1 hg1 _
            have hB1 : Blk w1 w.heap.size 63 (Sp.arr f) := (hg1.block w.heap.size (by have := HB.out.lt; simp; omega) (fun e => by have := own_ge hown _ e.symm; omega)).trans (HB.out.alloc _)
            have hb1 : Below w.heap.size w w1 := (below_new hbw _).grown hg1 (by simp; omega) (fun k' hk' => by have := own_ge hown _ hk'; omega)
            rw [← stCells_append, show (Sp.ofTo f (m + 1)).length + 1 = (Sp.ofTo f (m + 1) ++ [(((m + 1 : Nat) : Int), ((m + 1 : Nat) : Int))]).length from by simp] at hown1
            have HO := Lib.hid hown1
            have HB1 := Lib.hid hB1
            clear hown1 hB1 hown hg1
            go_wp2_with fail
            go_roundw
            case rel => exact ⟨m + 1 + 1, by omega, by go_num, by rw [HST.out]; exact HO.out, HB1.out, hb1⟩
            case measure => simp [intOf]; omega
    · have hk64 : k = 256 := by omega
      subst hk64
      have HO := Lib.hid hown
      clear hown
      go_wp2
      go_ret
      exact ⟨_, rfl, own_base HO.out (by omega), hbw⟩

end Go.Proofs.Ytcfkpjbakccgiaa
namespace Go.Proofs.Ytcfkpjbakccgiaa
open Go.RowKit

set_option maxHeartbeats 1600000 in
theorem ssame_any (A B : Option Addr) (c1 c2 : Nat) (l r : List (Int × Int)) (w : World) (hl : l.length ≤ 9223372036854775807) (h1 : Stamps w A l) (h2 : Stamps w B r) :
    Calls Try.prog 13 #[.slice A l.length c1, .slice B r.length c2] w fun e w' => e = .returned (.bool (decide (l = r))) ∧ Below w.heap.size w w' := by
  have H1 := Lib.hid h1
  have H2 := Lib.hid h2
  clear h1 h2
  by_cases hlen : l.length = r.length
  · have hd0 : ((l.length : Int) != (r.length : Int)) = false := by rw [bne_eq_false_iff_eq]; omega
    have HLEN := Lib.hid hlen
    have hr1 : r.length ≤ l.length := by omega
    have hr2 : l.length ≤ r.length := by omega
    clear hlen
    go_enter Try.func13, Try.ntmps13
    go_wp2_with fail
    go_loopw [5] (fun s5 wr => ∃ k : Nat, k ≤ l.length ∧ s5 = .int .i64 (k : Int) ∧ (∀ j, j < k → l.getD j (0, 0) = r.getD j (0, 0)) ∧ Below w.heap.size w wr) (fun s5 _ => l.length - (intOf s5).toNat)
    case atStart => exact ⟨0, Nat.zero_le _, rfl, fun j hj => by omega, Below.refl _ _⟩
    case round =>
      obtain ⟨k, hk, rfl, heq, hbw⟩ := hrel
      have HEQ := Lib.hid heq
      clear heq
      by_cases hlt : k < l.length
      · have hne : l ≠ [] := fun e => by subst e; simp at hlt
        have hne2 : r ≠ [] := fun e => by have := HLEN.out; subst e; simp at this; exact hne this
        obtain ⟨b, off, hA, hcA⟩ := (H1.out.later hbw) hne
        obtain ⟨b', off', hB, hcB⟩ := (H2.out.later hbw) hne2
        obtain ⟨e0, e1⟩ := hcA k hlt
        obtain ⟨f0, f1⟩ := hcB k (by omega)
        have H1' := H1
        have H2' := H2
        subst hA hB
        clear hcA hcB
        have hi0 : (0 : Int) ≤ (k : Int) := by omega
        have hi1 : (k : Int) < (l.length : Int) := by omega
        have hi2 : (k : Int) < (r.length : Int) := by omega
        obtain ⟨x, hx⟩ : ∃ x, l.getD k (0, 0) = x := ⟨_, rfl⟩
        obtain ⟨y, hy⟩ : ∃ y, r.getD k (0, 0) = y := ⟨_, rfl⟩
        rw [hx] at e0 e1
        rw [hy] at f0 f1
        have HX := Lib.hid hx
        have HY := Lib.hid hy
        clear hx hy
        by_cases hxy : x = y
        · subst hxy
          go_wp2_with fail
          go_quiet (fail)
          go_wp2_with fail
          go_roundw
          case rel =>
            refine ⟨k + 1, by omega, by go_num, ?_, below_drewN hbw _⟩
            intro j hj
            by_cases e : j = k
            · subst e; rw [HX.out, HY.out]
            · exact HEQ.out j (by omega)
          case measure => simp [intOf]; omega
        · have hno : decide (l = r) = false := decide_eq_false (fun e => hxy (by rw [← HX.out, ← HY.out, e]))
          have HNO := Lib.hid hno
          clear hno
          obtain ⟨x1, x2⟩ := x
          obtain ⟨y1, y2⟩ := y
          by_cases h1 : x1 = y1
          · subst h1
            have h2 : (x2 == y2) = false := beq_eq_false_iff_ne.2 (fun e => hxy (by rw [e]))
            clear hxy
            go_wp2_with fail
            go_quiet (fail)
            go_wp2
            go_ret
            exact ⟨by rw [HNO.out]; rfl, below_drewN hbw _⟩
          · have h1b : (x1 == y1) = false := beq_eq_false_iff_ne.2 h1
            clear hxy h1
            go_wp2_with fail
            go_quiet (fail)
            go_wp2
            go_ret
            exact ⟨by rw [HNO.out]; rfl, below_drewN hbw _⟩
      · have hyes : decide (l = r) = true := decide_eq_true (take_ext HLEN.out (fun j hj => HEQ.out j (by omega)))
        have HY := Lib.hid hyes
        clear hyes
        go_wp2
        go_ret
        exact ⟨by rw [HY.out]; rfl, hbw⟩
  · have hd0 : ((l.length : Int) != (r.length : Int)) = true := by rw [bne_iff_ne]; omega
    have hno : decide (l = r) = false := decide_eq_false (fun e => hlen (by rw [e]))
    have HNO := Lib.hid hno
    clear hno
    go_enter Try.func13, Try.ntmps13
    go_wp2
    go_ret
    exact ⟨by rw [HNO.out]; rfl, Below.refl _ _⟩

set_option maxHeartbeats 800000 in
theorem scopy_any (A : Option Addr) (c1 : Nat) (l : List (Int × Int)) (w : World) (hl : l.length * 16 ≤ 140737488355328) (hA : A = none → l.length = 0 ∧ c1 = 0) (h1 : Lies w A (stCells l)) :
    Calls Try.prog 48 #[.slice A l.length c1] w (GivesS l w) := by
  obtain ⟨i0, hi, hz0, hz1, hz2⟩ := info_parts infoSp
  have hown : (w.alloc (.cells #[] 55)).ownsRow w.heap.size 55 2 (.slice (some ⟨w.heap.size, 0, none⟩) 0 0) 0 [] :=
    ⟨rfl, .inr ⟨w.heap.size, 0, #[], rfl, Nat.le_refl _, heap_alloc_new w _, Nat.le_refl _, Nat.zero_le _, rfl, rfl⟩⟩
  have HA := Lib.hid hA
  clear hA
  go_enter Try.func48, Try.ntmps48
  go_wp2_with (at_builtin; refine wpList_append_lies _ rfl _ _ 28 rfl w.heap.size 55 i0 (.agg #[.int .i64 0, .int .i64 0]) 2 16 Try.underlying28 hi hz0 hz1 hz2 rfl (by decide) _ 0 [] rfl hown A l.length c1 HA.out (stCells l) rfl (stCells_length l) (h1.alloc _) (stCells_one l) ?c3 ?c4 ?c5 ?_)
  case c3 => unfold maxLen; omega
  case c4 => omega
  case c5 => simp
  intro v' w1 hown1 hg1 _
  have hbw : Below w.heap.size w w1 := (below_new (Below.refl _ _) (.cells #[] 55)).grown hg1 (by simp) (by intro k hk; simp [Value.ownBlock] at hk; omega)
  try simp only [Nat.zero_add, List.nil_append] at hown1
  have HO := Lib.hid hown1
  clear hown hown1 hg1
  go_wp2
  go_ret
  exact ⟨_, rfl, HO.out, hbw⟩

end Go.Proofs.Ytcfkpjbakccgiaa
