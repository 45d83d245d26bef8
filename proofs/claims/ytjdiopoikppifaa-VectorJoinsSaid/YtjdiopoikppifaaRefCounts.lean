/-
  What telltaleref02's Counts answers of any list of stamps in memory: of each node the count of its first right stamp.
-/
import Derived.Test.YtjdiopoikppifaaRefRight
import Derived.Test.YtjdiopoikppifaaVecPlain
import Derived.Laws.Rows
import Derived.Laws.Tables
import Derived.Laws.CopyOwn
import Derived.Laws.ResultCell
import Derived.Deep.DeepCutAuto
import Derived.RegionTactic
import Derived.BigRegion
namespace Go.Proofs.Ytjdiopoikppifaa
open Go.RowKit

theorem info64 : (Try.prog.info? 45).map (·.size) = some 64 := by kernel_rfl

/-- A block that is an array of 64 numbers, one of them written anew. -/
theorem Blk.arr_put {w : World} {g : Nat} {t : TypeId} {f : Nat → Int} (h : Blk w g t (Ve.arr f)) (i : Nat) (hi : i < 64) (x : Int) : Blk (w.setCell ⟨g, i, none⟩ (.int .i64 x)) g t (Ve.arr fun j => if j = i then x else f j) := by
  have h2 := h.put i (.int .i64 x)
  rw [Ve.arr_set f i x hi] at h2
  exact h2
theorem Blk.arr_cell {w : World} {g : Nat} {t : TypeId} {f : Nat → Int} (h : Blk w g t (Ve.arr f)) (i : Nat) (hi : i < 64) : w.cell? ⟨g, i, none⟩ = some (.int .i64 (f i)) := h.cell (Ve.arr_get f i hi)
theorem Blk.same {w : World} {g : Nat} {t : TypeId} {f f' : Nat → Int} (h : Blk w g t (Ve.arr f)) (e : ∀ i, i < 64 → f i = f' i) : Blk w g t (Ve.arr f') := by rw [← Ve.arr_ext e]; exact h
theorem one_arr (f : Nat → Int) : (Ve.arr f).all (·.oneCell') = true := by
  rw [Array.all_eq_true_iff_forall_mem]
  intro x hx
  unfold Ve.arr at hx
  simp at hx
  obtain ⟨i, _, rfl⟩ := hx
  rfl

set_option maxRecDepth 100000 in
set_option maxHeartbeats 1600000 in
theorem counts_any (A : Option Addr) (cap : Nat) (l : List (Int × Int)) (w : World) (hl : l.length ≤ 9223372036854775807) (h : Stamps w A l) :
    Calls Try.prog 33 #[.slice A l.length cap] w fun e w' => e = .returned (.agg (Ve.arr (Ve.cnt l))) ∧ Below w.heap.size w w' := by
  have HS := Lib.hid h
  clear h
  go_enter Try.func33, Try.ntmps33
  go_wp2_with fail
  rw [← Ve.arr_zero]
  go_loopw [4] (fun s4 wr => ((s4 = .int .i64 (-1) ∧ Blk wr (w.heap.size + 1) 45 (Ve.arr (Ve.cnt l))) ∨ (∃ m : Nat, m < l.length ∧ s4 = .int .i64 (m : Int) ∧ Blk wr (w.heap.size + 1) 45 (Ve.arr (Ve.cnt (l.drop (m + 1)))))) ∧
      Blk wr w.heap.size 45 (Ve.arr fun _ => 0) ∧ Below w.heap.size w wr) (fun s4 _ => (intOf s4 + 1).toNat)
  case atStart =>
    refine ⟨?_, (Blk.new _ _ _).alloc _, below_new (below_new (Below.refl _ _) _) _⟩
    have hb := Blk.new (w.alloc (.cells (Ve.arr fun _ => 0) 45)) 45 (Ve.arr fun _ => 0)
    rw [show (w.alloc (.cells (Ve.arr fun _ => 0) 45)).heap.size = w.heap.size + 1 from by simp] at hb
    cases hc : l.length with
    | zero =>
      have hln : l = [] := List.eq_nil_of_length_eq_zero hc
      subst hln
      exact .inl ⟨rfl, hb⟩
    | succ m =>
      refine .inr ⟨m, by omega, by go_num, ?_⟩
      rw [List.drop_of_length_le (by omega)]
      exact hb
  case round =>
    obtain ⟨hm, hB0, hbw⟩ := hrel
    rcases hm with ⟨rfl, hB1⟩ | ⟨m, hml, rfl, hB1⟩
    · go_wp2_with (first | (refine wpList_load_row rfl 45 _ rfl (w.heap.size + 1) rfl 45 _ (0, 0) _ hB1 Try.underlying45 rfl (by rw [Ve.arr_size]; exact info64) ?_) | (refine wpList_store_row rfl 45 _ _ rfl w.heap.size _ rfl rfl 45 _ hB0 (by rw [Ve.arr_size]; exact info64) (by rw [Ve.arr_size, Ve.arr_size]) (one_arr _) ?_))
      refine bodyPost_ret (v := .agg (Ve.arr (Ve.cnt l))) (results_cell_row rfl _ _ w.heap.size 45 (Ve.arr (Ve.cnt l)) (0, 0) _ rfl (setRow_heap _ _ _ _ _ _ hB0) Try.underlying45 rfl (by rw [Ve.arr_size]; exact info64)) rfl ⟨rfl, below_setRow hbw (Nat.le_refl _) _⟩
    · have hne : l ≠ [] := fun e => by subst e; simp at hml
      obtain ⟨b, off, hA, hc⟩ := HS.out hne
      subst hA
      obtain ⟨e0, e1⟩ := hc m hml
      have hb0 : b < w.heap.size := World.block_lt_of_cell? _ _ e0
      rw [List.getD_eq_getElem?_getD, List.getElem?_eq_getElem hml, Option.getD_some] at e0 e1
      have f0 := (hbw.cell (p := ⟨b, _, none⟩) hb0).trans e0
      have f1 := (hbw.cell (p := ⟨b, _, none⟩) hb0).trans e1
      have hcd := Ve.cnt_drop l m hml
      have HCD := Lib.hid hcd
      have HB1 := Lib.hid hB1
      have HB0 := Lib.hid hB0
      clear e0 e1 hc hcd hB1 hB0
      have hi0 : (0 : Int) ≤ (m : Int) := by omega
      have hi1 : (m : Int) < (l.length : Int) := by omega
      have fin : ∀ wx, Blk wx (w.heap.size + 1) 45 (Ve.arr (Ve.cnt (l.drop m))) → Blk wx w.heap.size 45 (Ve.arr fun _ => 0) → Below w.heap.size w wx →
          (((Value.int .i64 ((m : Int) - 1) = .int .i64 (-1) ∧ Blk wx (w.heap.size + 1) 45 (Ve.arr (Ve.cnt l))) ∨ (∃ m' : Nat, m' < l.length ∧ Value.int .i64 ((m : Int) - 1) = .int .i64 (m' : Int) ∧ Blk wx (w.heap.size + 1) 45 (Ve.arr (Ve.cnt (l.drop (m' + 1)))))) ∧
            Blk wx w.heap.size 45 (Ve.arr fun _ => 0) ∧ Below w.heap.size w wx) := by
        intro wx h1 h2 h3
        refine ⟨?_, h2, h3⟩
        cases m with
        | zero => exact .inl ⟨by simp, by simpa using h1⟩
        | succ m => exact .inr ⟨m, by omega, by rw [show ((m + 1 : Nat) : Int) - 1 = (m : Int) from by omega], h1⟩
      have FIN := Lib.hid fin
      clear fin
      go_wp2_with fail
      refine (rright_any _ _ _).mono ?_
      rintro e w1 ⟨rfl, hb1⟩
      have hbx := below_on hbw hb1
      have B1 := HB1.out.later hb1
      have B0 := HB0.out.later hb1
      cases hr : St.rgt l[m].1 l[m].2
      · have hs : ∀ i, i < 64 → Ve.cnt (l.drop (m + 1)) i = Ve.cnt (l.drop m) i := fun i _ => by rw [HCD.out i, if_neg (by rw [hr]; simp)]
        have B2 := Lib.hid (B1.same hs)
        have B3 := Lib.hid B0
        clear B1 B0 hr hs
        go_wp2_with fail
        go_roundw
        case rel => exact FIN.out _ B2.out B3.out hbx
        case measure => simp [intOf]
      · have hrr : 1 ≤ l[m].1 ∧ 0 ≤ l[m].2 ∧ l[m].2 ≤ 63 := by unfold St.rgt at hr; exact of_decide_eq_true hr
        obtain ⟨nn, hnn⟩ : ∃ nn : Nat, l[m].2 = (nn : Int) := ⟨l[m].2.toNat, by omega⟩
        have hn64 : nn < 64 := by omega
        have hs : ∀ i, i < 64 → (if i = nn then l[m].1 else Ve.cnt (l.drop (m + 1)) i) = Ve.cnt (l.drop m) i := fun i _ => by
          rw [HCD.out i, hr, hnn]
          by_cases hi : i = nn
          · rw [if_pos hi, if_pos ⟨rfl, by rw [hi]⟩]
          · rw [if_neg hi, if_neg (fun h => hi (by have := h.2; omega))]
        have g0 := cell_later hb1 f0
        have g1 := cell_later hb1 f1
        rw [hnn] at g1
        have c1 := B1.arr_cell nn hn64
        have c2 := B1.free nn
        have B2 := Lib.hid ((B1.arr_put nn hn64 l[m].1).same hs)
        have B3 := Lib.hid (B0.far (p := ⟨w.heap.size + 1, nn, none⟩) (by simp) (.int .i64 l[m].1))
        have hj0 : (0 : Int) ≤ (nn : Int) := by omega
        have hj1 : (nn : Int) < 64 := by omega
        clear B1 B0 hr hs hrr hnn f0 f1
        go_wp2_with fail
        go_region
        go_wp2_with fail
        go_roundw
        case rel => exact FIN.out _ B2.out.drew B3.out.drew (hbx.setCell (by simp) _).drew
        case measure => simp [intOf]

end Go.Proofs.Ytjdiopoikppifaa
