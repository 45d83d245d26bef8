/-
  What telltaleref02's Counts answers of any list of stamps in memory: of each node the count of its first right stamp.
  What telltaleref02's Of answers of any 64 counts: the vector of those above 0, in memory of its own.
  What telltaleref02's Covers, Compare, Greatest, Count, Same and Copy answer of any lists of stamps in memory.
  What telltaleref02's Same, Copy and Formed answer of any lists of stamps in memory.
-/
import Derived.Test.YtcfkpjbakccgiaaG06
import Derived.Test.YtcfkpjbakccgiaaG02
import Derived.Laws.Rows
import Derived.Laws.Tables
import Derived.Laws.CopyOwn
import Derived.Laws.ResultCell
import Derived.Deep.DeepCutAuto
import Derived.RegionTactic
import Derived.BigRegion
import Derived.Laws.OwnMore
import Derived.OwnWalk
import Derived.WalkSmall
import Derived.Deep.QuietTactic
import Derived.BigQuiet
import Derived.Lib.QuietBelow
import Derived.Test.YtcfkpjbakccgiaaG05
namespace Go.Proofs.Ytcfkpjbakccgiaa
open Go.RowKit

theorem info64 : (Try.prog.info? 81).map (·.size) = some 64 := by kernel_rfl

/-- A block that is an array of 64 numbers, one of them written anew. -/
theorem Blk.arr_put {w : World} {g : Nat} {t : TypeId} {f : Nat → Int} (h : Blk w g t (Ve.arr f)) (i : Nat) (hi : i < 64) (x : Int) : Blk (w.setCell ⟨g, i, none⟩ (.int .i64 x)) g t (Ve.arr fun j => if j = i then x else f j) := by
  have h2 := h.put i (.int .i64 x)
  rw [Ve.arr_set f i x hi] at h2
  exact h2
theorem Blk.arr_cell {w : World} {g : Nat} {t : TypeId} {f : Nat → Int} (h : Blk w g t (Ve.arr f)) (i : Nat) (hi : i < 64) : w.cell? ⟨g, i, none⟩ = some (.int .i64 (f i)) := h.cell (Ve.arr_get f i hi)
theorem Blk.same {w : World} {g : Nat} {t : TypeId} {f f' : Nat → Int} (h : Blk w g t (Ve.arr f)) (e : ∀ i, i < 64 → f i = f' i) : Blk w g t (Ve.arr f') := by rw [← Ve.arr_ext e]; exact h
theorem one_arr (f : Nat → Int) : (Ve.arr f).all (·.oneCell') = true := by
  rw [Array.all_eq_true_iff_forall_mem]
  intro x hx
  unfold Ve.arr at hx
  simp at hx
  obtain ⟨i, _, rfl⟩ := hx
  rfl

set_option maxRecDepth 100000 in
set_option maxHeartbeats 1600000 in
theorem counts_any (A : Option Addr) (cap : Nat) (l : List (Int × Int)) (w : World) (hl : l.length ≤ 9223372036854775807) (h : Stamps w A l) :
    Calls Try.prog 62 #[.slice A l.length cap] w fun e w' => e = .returned (.agg (Ve.arr (Ve.cnt l))) ∧ Below w.heap.size w w' := by
  have HS := Lib.hid h
  clear h
  go_enter Try.func62, Try.ntmps62
  go_wp2_with fail
  rw [← Ve.arr_zero]
  go_loopw [4] (fun s4 wr => ((s4 = .int .i64 (-1) ∧ Blk wr (w.heap.size + 1) 81 (Ve.arr (Ve.cnt l))) ∨ (∃ m : Nat, m < l.length ∧ s4 = .int .i64 (m : Int) ∧ Blk wr (w.heap.size + 1) 81 (Ve.arr (Ve.cnt (l.drop (m + 1)))))) ∧
      Blk wr w.heap.size 81 (Ve.arr fun _ => 0) ∧ Below w.heap.size w wr) (fun s4 _ => (intOf s4 + 1).toNat)
  case atStart =>
    refine ⟨?_, (Blk.new _ _ _).alloc _, below_new (below_new (Below.refl _ _) _) _⟩
    have hb := Blk.new (w.alloc (.cells (Ve.arr fun _ => 0) 81)) 81 (Ve.arr fun _ => 0)
    rw [show (w.alloc (.cells (Ve.arr fun _ => 0) 81)).heap.size = w.heap.size + 1 from by simp] at hb
    cases hc : l.length with
    | zero =>
      have hln : l = [] := List.eq_nil_of_length_eq_zero hc
      subst hln
      exact .inl ⟨rfl, hb⟩
    | succ m =>
      refine .inr ⟨m, by omega, by go_num, ?_⟩
      rw [List.drop_of_length_le (by omega)]
      exact hb
  case round =>
    obtain ⟨hm, hB0, hbw⟩ := hrel
    rcases hm with ⟨rfl, hB1⟩ | ⟨m, hml, rfl, hB1⟩
    · go_wp2_with (first | (refine wpList_load_row rfl 81 _ rfl (w.heap.size + 1) rfl 81 _ (0, 0) _ hB1 Try.underlying81 rfl (by rw [Ve.arr_size]; exact info64) ?_) | (refine wpList_store_row rfl 81 _ _ rfl w.heap.size _ rfl rfl 81 _ hB0 (by rw [Ve.arr_size]; exact info64) (by rw [Ve.arr_size, Ve.arr_size]) (one_arr _) ?_))
      refine bodyPost_ret (v := .agg (Ve.arr (Ve.cnt l))) (results_cell_row rfl _ _ w.heap.size 81 (Ve.arr (Ve.cnt l)) (0, 0) _ rfl (setRow_heap _ _ _ _ _ _ hB0) Try.underlying81 rfl (by rw [Ve.arr_size]; exact info64)) rfl ⟨rfl, below_setRow hbw (Nat.le_refl _) _⟩
    · have hne : l ≠ [] := fun e => by subst e; simp at hml
      obtain ⟨b, off, hA, hc⟩ := HS.out hne
      subst hA
      obtain ⟨e0, e1⟩ := hc m hml
      have hb0 : b < w.heap.size := World.block_lt_of_cell? _ _ e0
      rw [List.getD_eq_getElem?_getD, List.getElem?_eq_getElem hml, Option.getD_some] at e0 e1
      have f0 := (hbw.cell (p := ⟨b, _, none⟩) hb0).trans e0
      have f1 := (hbw.cell (p := ⟨b, _, none⟩) hb0).trans e1
      have hcd := Ve.cnt_drop l m hml
      have HCD := Lib.hid hcd
      have HB1 := Lib.hid hB1
      have HB0 := Lib.hid hB0
      clear e0 e1 hc hcd hB1 hB0
      have hi0 : (0 : Int) ≤ (m : Int) := by omega
      have hi1 : (m : Int) < (l.length : Int) := by omega
      have fin : ∀ wx, Blk wx (w.heap.size + 1) 81 (Ve.arr (Ve.cnt (l.drop m))) → Blk wx w.heap.size 81 (Ve.arr fun _ => 0) → Below w.heap.size w wx →
          (((Value.int .i64 ((m : Int) - 1) = .int .i64 (-1) ∧ Blk wx (w.heap.size + 1) 81 (Ve.arr (Ve.cnt l))) ∨ (∃ m' : Nat, m' < l.length ∧ Value.int .i64 ((m : Int) - 1) = .int .i64 (m' : Int) ∧ Blk wx (w.heap.size + 1) 81 (Ve.arr (Ve.cnt (l.drop (m' + 1)))))) ∧
            Blk wx w.heap.size 81 (Ve.arr fun _ => 0) ∧ Below w.heap.size w wx) := by
        intro wx h1 h2 h3
        refine ⟨?_, h2, h3⟩
        cases m with
        | zero => exact .inl ⟨by simp, by simpa using h1⟩
        | succ m => exact .inr ⟨m, by omega, by rw [show ((m + 1 : Nat) : Int) - 1 = (m : Int) from by omega], h1⟩
      have FIN := Lib.hid fin
      clear fin
      go_wp2_with fail
      refine (rright_any _ _ _).mono ?_
      rintro e w1 ⟨rfl, hb1⟩
      have hbx := below_on hbw hb1
      have B1 := HB1.out.later hb1
      have B0 := HB0.out.later hb1
      cases hr : St.rgt l[m].1 l[m].2
      · have hs : ∀ i, i < 64 → Ve.cnt (l.drop (m + 1)) i = Ve.cnt (l.drop m) i := fun i _ => by rw [HCD.out i, if_neg (by rw [hr]; simp)]
        have B2 := Lib.hid (B1.same hs)
        have B3 := Lib.hid B0
        clear B1 B0 hr hs
        go_wp2_with fail
        go_roundw
        case rel => exact FIN.out _ B2.out B3.out hbx
        case measure => simp [intOf]
      · have hrr : 1 ≤ l[m].1 ∧ 0 ≤ l[m].2 ∧ l[m].2 ≤ 63 := by unfold St.rgt at hr; exact of_decide_eq_true hr
        obtain ⟨nn, hnn⟩ : ∃ nn : Nat, l[m].2 = (nn : Int) := ⟨l[m].2.toNat, by omega⟩
        have hn64 : nn < 64 := by omega
        have hs : ∀ i, i < 64 → (if i = nn then l[m].1 else Ve.cnt (l.drop (m + 1)) i) = Ve.cnt (l.drop m) i := fun i _ => by
          rw [HCD.out i, hr, hnn]
          by_cases hi : i = nn
          · rw [if_pos hi, if_pos ⟨rfl, by rw [hi]⟩]
          · rw [if_neg hi, if_neg (fun h => hi (by have := h.2; omega))]
        have g0 := cell_later hb1 f0
        have g1 := cell_later hb1 f1
        rw [hnn] at g1
        have c1 := B1.arr_cell nn hn64
        have c2 := B1.free nn
        have B2 := Lib.hid ((B1.arr_put nn hn64 l[m].1).same hs)
        have B3 := Lib.hid (B0.far (p := ⟨w.heap.size + 1, nn, none⟩) (by simp) (.int .i64 l[m].1))
        have hj0 : (0 : Int) ≤ (nn : Int) := by omega
        have hj1 : (nn : Int) < 64 := by omega
        clear B1 B0 hr hs hrr hnn f0 f1
        go_wp2_with fail
        go_region
        go_wp2_with fail
        go_roundw
        case rel => exact FIN.out _ B2.out.drew B3.out.drew (hbx.setCell (by simp) _).drew
        case measure => simp [intOf]

end Go.Proofs.Ytcfkpjbakccgiaa
namespace Go.Proofs.Ytcfkpjbakccgiaa
open Go.RowKit

theorem infoSt : (Try.prog.info? 53).map (fun i => (i.zero, i.size, i.bytes)) = some (some (.agg #[.int .i64 0, .int .i64 0]), 2, 16) := by kernel_rfl

/-- A list of stamps is answered, in memory of the call's own; what was there before is as it was. -/
def Gives (l : List (Int × Int)) (w : World) (e : Ending) (w' : World) : Prop :=
  ∃ v, e = .returned v ∧ w'.ownsRow w.heap.size 53 2 v l.length (stCells l) ∧ Below w.heap.size w w'

set_option maxRecDepth 100000 in
set_option maxHeartbeats 1600000 in
theorem of_any (f : Nat → Int) (w : World) : Calls Try.prog 65 #[.agg (Ve.arr f)] w (Gives (Ve.ofL f) w) := by
  obtain ⟨i0, hi, hz0, hz1, hz2⟩ := info_parts infoSt
  go_enter Try.func65, Try.ntmps65
  go_wp2_with fail
  go_loopw [3, 4] (fun s3 s4 wr => ∃ k : Nat, k ≤ 64 ∧ s4 = .int .i64 (k : Int) ∧ wr.ownsRow (w.heap.size + 1) 53 2 s3 (Ve.ofTo f k).length (stCells (Ve.ofTo f k)) ∧ Blk wr w.heap.size 81 (Ve.arr f) ∧ Below w.heap.size w wr) (fun _ s4 _ => 64 - (intOf s4).toNat)
  case atStart => exact ⟨0, by omega, rfl, ⟨rfl, .inl ⟨rfl, rfl⟩⟩, Blk.new _ _ _, below_new (Below.refl _ _) _⟩
  case round =>
    obtain ⟨k, hk, rfl, hown, hB, hbw⟩ := hrel
    by_cases hlt : k < 64
    · have c0 := hB.arr_cell k hlt
      have hi0 : (0 : Int) ≤ (k : Int) := by omega
      have hi1 : (k : Int) < 64 := by omega
      have hln := Ve.ofTo_len f k
      have hsz := hbw.size
      have HB := Lib.hid hB
      clear hB
      by_cases hp : 0 < f k
      · have hd : decide (0 < f k) = true := decide_eq_true hp
        have hst : Ve.ofTo f (k + 1) = Ve.ofTo f k ++ [(f k, (k : Int))] := by rw [Ve.ofTo, if_pos hp]
        have HST := Lib.hid hst
        clear hst
        go_wp2_with (at_builtin; refine wpList_append_lies _ rfl _ _ 23 rfl (w.heap.size + 1) 53 i0 (.agg #[.int .i64 0, .int .i64 0]) 2 16 Try.underlying23 hi hz0 hz1 hz2 rfl (by decide) _ (Ve.ofTo f k).length (stCells (Ve.ofTo f k)) rfl (hown.alloc _) (some ⟨wr.heap.size, 0, none⟩) 1 1 (fun h => by cases h) (stCells [(f k, (k : Int))]) rfl rfl ?c1 (stCells_one _) ?c3 ?c4 ?c5 ?_)
        case c1 =>
          intro _
          refine ⟨wr.heap.size, 0, rfl, fun j u hu => ?_⟩
          rw [Nat.zero_add]
          exact (Blk.new wr 53 #[.int .i64 (f k), .int .i64 (k : Int)]).cell (by simpa [stCells] using hu)
        case c3 => unfold maxLen; omega
        case c4 => omega
        case c5 => have := HB.out.lt; simp; omega
        intro v' w1 hown1 hg1 _
        have hB1 : Blk w1 w.heap.size 81 (Ve.arr f) := (hg1.block w.heap.size (by have := HB.out.lt; simp; omega) (fun e => by have := own_ge hown _ e.symm; omega)).trans (HB.out.alloc _)
        have hb1 : Below w.heap.size w w1 := (below_new hbw _).grown hg1 (by simp; omega) (fun k' hk' => by have := own_ge hown _ hk'; omega)
        rw [← stCells_append, show (Ve.ofTo f k).length + 1 = (Ve.ofTo f k ++ [(f k, (k : Int))]).length from by simp, ← HST.out] at hown1
        have HO := Lib.hid hown1
        have HB1 := Lib.hid hB1
        clear hown1 hB1 hown hg1
        go_wp2_with fail
        go_roundw
        case rel => exact ⟨k + 1, by omega, by go_num, HO.out, HB1.out, hb1⟩
        case measure => simp [intOf]; omega
      · have hd : decide (0 < f k) = false := decide_eq_false hp
        have hst : Ve.ofTo f (k + 1) = Ve.ofTo f k := by rw [Ve.ofTo, if_neg hp, List.append_nil]
        have HST := Lib.hid hst
        clear hst
        have HO := Lib.hid hown
        clear hown
        go_wp2_with fail
        go_roundw
        case rel => exact ⟨k + 1, by omega, by go_num, by rw [HST.out]; exact HO.out, HB.out, hbw⟩
        case measure => simp [intOf]; omega
    · have hk64 : k = 64 := by omega
      subst hk64
      have HO := Lib.hid hown
      clear hown
      go_wp2
      go_ret
      exact ⟨_, rfl, own_base HO.out (by omega), hbw⟩

end Go.Proofs.Ytcfkpjbakccgiaa
namespace Go.Proofs.Ytcfkpjbakccgiaa
open Go.RowKit

set_option maxRecDepth 100000 in
set_option maxHeartbeats 1600000 in
theorem rcovers_any (A B : Option Addr) (c1 c2 : Nat) (l r : List (Int × Int)) (w : World) (hl : l.length ≤ 9223372036854775807) (hr : r.length ≤ 9223372036854775807) (h1 : Stamps w A l) (h2 : Stamps w B r) :
    Calls Try.prog 27 #[.slice A l.length c1, .slice B r.length c2] w fun e w' => e = .returned (.bool (Ve.cov (Ve.cnt l) (Ve.cnt r))) ∧ Below w.heap.size w w' := by
  have H1 := Lib.hid h1
  have H2 := Lib.hid h2
  clear h1 h2
  have n1 := fun w h => counts_any A c1 l w hl h
  have n2 := fun w h => counts_any B c2 r w hr h
  obtain ⟨f, hf⟩ : ∃ f, Ve.cnt l = f := ⟨_, rfl⟩
  obtain ⟨g, hg⟩ : ∃ g, Ve.cnt r = g := ⟨_, rfl⟩
  have hfg : Ve.cov (Ve.cnt l) (Ve.cnt r) = Ve.cov f g := by rw [hf, hg]
  rw [hf] at n1
  rw [hg] at n2
  have HFG := Lib.hid hfg
  have N1 := Lib.hid n1
  have N2 := Lib.hid n2
  clear hf hg hfg n1 n2
  go_enter Try.func27, Try.ntmps27
  go_wp2_with fail
  refine (N1.out _ H1.out).mono ?_
  rintro e w1 ⟨rfl, hb1⟩
  go_wp2_with fail
  refine (N2.out _ (H2.out.later hb1)).mono ?_
  rintro e w2 ⟨rfl, hb2⟩
  have hbx := below_on (below_on (Below.refl _ _) hb1) hb2
  clear H1 H2 hl hr hb1 hb2 N1 N2
  go_wp2_with (first | (refine wpList_store_row rfl 81 _ _ rfl w2.heap.size (Ve.arr f) rfl rfl 81 (Ve.arr fun _ => 0) ?s1 (by rw [Ve.arr_size]; exact info64) (by rw [Ve.arr_size, Ve.arr_size]) (one_arr _) ?_) | (refine wpList_store_row rfl 81 _ _ rfl (w2.heap.size + 1) (Ve.arr g) rfl rfl 81 (Ve.arr fun _ => 0) ?s2 (by rw [Ve.arr_size]; exact info64) (by rw [Ve.arr_size, Ve.arr_size]) (one_arr _) ?_))
  case s1 =>
    rw [← Ve.arr_zero]
    exact (Blk.new w2 _ _).alloc _
  case s2 =>
    rw [← Ve.arr_zero]
    have hb := Blk.new (w2.alloc (.cells (Ve.arr fun _ => 0) 81)) 81 (Ve.arr fun _ => 0)
    rw [show (w2.alloc (.cells (Ve.arr fun _ => 0) 81)).heap.size = w2.heap.size + 1 from by simp] at hb
    exact hb.rowFar (by omega) _
  rw [← Ve.arr_zero]
  have hb := Blk.new (w2.alloc (.cells (Ve.arr fun _ => 0) 81)) 81 (Ve.arr fun _ => 0)
  rw [show (w2.alloc (.cells (Ve.arr fun _ => 0) 81)).heap.size = w2.heap.size + 1 from by simp] at hb
  have B5 := (((Blk.new w2 81 (Ve.arr fun _ => 0)).alloc (.cells (Ve.arr fun _ => 0) 81)).row (Ve.arr f)).rowFar (g' := w2.heap.size + 1) (by omega) (Ve.arr g)
  have B6 := (hb.rowFar (g' := w2.heap.size) (by omega) (Ve.arr f)).row (Ve.arr g)
  have hz := hbx.size
  have b6 := below_setRow (below_setRow (below_new (below_new hbx (.cells (Ve.arr fun _ => 0) 81)) (.cells (Ve.arr fun _ => 0) 81)) (g := w2.heap.size) hz (Ve.arr f)) (g := w2.heap.size + 1) (by omega) (Ve.arr g)
  clear hb
  go_loopw [7] (fun s7 wr => ∃ k : Nat, k ≤ 64 ∧ s7 = .int .i64 (k : Int) ∧ Ve.covTo f g k ∧ Blk wr w2.heap.size 81 (Ve.arr f) ∧ Blk wr (w2.heap.size + 1) 81 (Ve.arr g) ∧ Below w.heap.size w wr) (fun s7 _ => 64 - (intOf s7).toNat)
  case atStart => exact ⟨0, by omega, rfl, fun n hn => by omega, B5, B6, b6⟩
  case round =>
    obtain ⟨k, hk, rfl, hcv, hB5, hB6, hbw⟩ := hrel
    have HCV := Lib.hid hcv
    clear B5 B6 b6 hcv
    by_cases hlt : k < 64
    · have x0 := hB5.arr_cell k hlt
      have y0 := hB6.arr_cell k hlt
      have HB5 := Lib.hid hB5
      have HB6 := Lib.hid hB6
      clear hB5 hB6
      have hi0 : (0 : Int) ≤ (k : Int) := by omega
      have hi1 : (k : Int) < 64 := by omega
      by_cases hgt : f k < g k
      · have hd : decide (f k < g k) = true := decide_eq_true hgt
        have hno := Ve.cov_no k hlt hgt
        have HNO := Lib.hid hno
        clear hno
        go_wp2_with fail
        go_quiet (fail)
        go_wp2
        go_ret
        exact ⟨by rw [HFG.out, HNO.out]; rfl, below_drewN hbw _⟩
      · have hd : decide (f k < g k) = false := decide_eq_false hgt
        have hd2 : g k ≤ f k := by omega
        go_wp2_with fail
        go_quiet (fail)
        go_wp2_with fail
        go_roundw
        case rel =>
          refine ⟨k + 1, by omega, by go_num, ?_, HB5.out.drewN _, HB6.out.drewN _, below_drewN hbw _⟩
          intro n hn
          by_cases e : n = k
          · subst e; exact hd2
          · exact HCV.out n (by omega)
        case measure => simp [intOf]; omega
    · have hk64 : k = 64 := by omega
      subst hk64
      have hyes := (Ve.cov_iff f g).2 HCV.out
      have HY := Lib.hid hyes
      clear hyes hB5 hB6
      go_wp2
      go_ret
      exact ⟨by rw [HFG.out, HY.out]; rfl, hbw⟩

/-- One of 64 numbers, by its place. -/
theorem index_arr (f : Nat → Int) (k : Nat) (hk : k < 64) (w : World) : (Instr.index 81 (.agg (Ve.arr f)) (.int .i64 (k : Int))).run Try.prog w = .ok (.int .i64 (f k)) w := by
  have h1 := Ve.arr_get f k hk
  simp [Instr.index, asIntOf, run_underlying Try.underlying81, part, Try.isAgg3, Try.sizeOf3, h1]
  intro h
  exact absurd h (by omega)

/-- The count of any number of a node. -/
def countOf (l : List (Int × Int)) (n : Int) : Int := if 0 ≤ n ∧ n ≤ 63 then Ve.cnt l n.toNat else 0

set_option maxHeartbeats 800000 in
theorem rcount_any (A : Option Addr) (c1 : Nat) (l : List (Int × Int)) (n : Int) (w : World) (hl : l.length ≤ 9223372036854775807) (h1 : Stamps w A l) :
    Calls Try.prog 92 #[.slice A l.length c1, .int .i64 n] w fun e w' => e = .returned (.int .i64 (countOf l n)) ∧ Below w.heap.size w w' := by
  have H1 := Lib.hid h1
  clear h1
  by_cases h0 : n < 0
  · have hc : countOf l n = 0 := by unfold countOf; rw [if_neg (by omega)]
    have HC := Lib.hid hc
    clear hc
    have hd : decide (n < 0) = true := decide_eq_true h0
    go_enter Try.func92, Try.ntmps92
    go_wp2
    go_ret
    exact ⟨by rw [HC.out]; rfl, Below.refl _ _⟩
  · have hd : decide (n < 0) = false := decide_eq_false h0
    by_cases h2 : 63 < n
    · have hc : countOf l n = 0 := by unfold countOf; rw [if_neg (by omega)]
      have HC := Lib.hid hc
      clear hc
      have hd2 : decide (63 < n) = true := decide_eq_true h2
      go_enter Try.func92, Try.ntmps92
      go_wp2
      go_ret
      exact ⟨by rw [HC.out]; rfl, Below.refl _ _⟩
    · obtain ⟨k, rfl⟩ : ∃ k : Nat, n = (k : Int) := ⟨n.toNat, by omega⟩
      have hk : k < 64 := by omega
      have hc : countOf l (k : Int) = Ve.cnt l k := by unfold countOf; rw [if_pos (by omega)]; rfl
      have HC := Lib.hid hc
      have hd2 : decide (63 < (k : Int)) = false := decide_eq_false h2
      have n1 := fun w h => counts_any A c1 l w hl h
      have N1 := Lib.hid n1
      clear hc n1
      have hix := fun w => index_arr (Ve.cnt l) k hk w
      go_enter Try.func92, Try.ntmps92
      go_wp2_with fail
      refine (N1.out _ H1.out).mono ?_
      rintro e w2 ⟨rfl, hb2⟩
      go_wp2
      go_ret
      exact ⟨by rw [HC.out]; rfl, hb2⟩

/-- Is a stamp in a list? -/
def hasOf (l : List (Int × Int)) (c n : Int) : Bool := St.rgt c n && decide (c ≤ countOf l n)

set_option maxHeartbeats 1600000 in
theorem rhas_any (A : Option Addr) (c1 : Nat) (l : List (Int × Int)) (c n : Int) (w : World) (hl : l.length ≤ 9223372036854775807) (h1 : Stamps w A l) :
    Calls Try.prog 84 #[.slice A l.length c1, .agg #[.int .i64 c, .int .i64 n]] w fun e w' => e = .returned (.bool (hasOf l c n)) ∧ Below w.heap.size w w' := by
  have hb0 := below_new (Below.refl w.heap.size w) (.cells #[.int .i64 c, .int .i64 n] 53)
  have hB := Blk.new w 53 #[.int .i64 c, .int .i64 n]
  have h1' := h1.later hb0
  clear h1
  obtain ⟨W, hW⟩ : ∃ W, w.alloc (.cells #[.int .i64 c, .int .i64 n] 53) = W := ⟨_, rfl⟩
  rw [hW] at hb0 hB h1'
  have HW := Lib.hid hW
  clear hW
  have k0 : ∀ d os, (Sort.grow (redrawn W d) os).cell? ⟨w.heap.size, 0, none⟩ = some (.int .i64 c) := cell_regrown (hB.cell rfl)
  have k1 : ∀ d os, (Sort.grow (redrawn W d) os).cell? ⟨w.heap.size, 1, none⟩ = some (.int .i64 n) := cell_regrown (hB.cell rfl)
  clear hB
  cases hr : St.rgt c n
  all_goals
    have hh : hasOf l c n = (St.rgt c n && decide (c ≤ countOf l n)) := rfl
    rw [hr] at hh
    have HH := Lib.hid hh
    have cR : ∀ d os, Calls Try.prog 63 #[.agg #[.int .i64 c, .int .i64 n]] (Sort.grow (redrawn W d) os) fun e w'' => e = .returned (.bool (St.rgt c n)) ∧ ∃ p : Regrown, w'' = Sort.grow (redrawn W p.d) p.os := fun d os => Calls.regrown_of (rright_any c n _)
    have cC : ∀ d os, Calls Try.prog 92 #[.slice A l.length c1, .int .i64 n] (Sort.grow (redrawn W d) os) fun e w'' => e = .returned (.int .i64 (countOf l n)) ∧ ∃ p : Regrown, w'' = Sort.grow (redrawn W p.d) p.os := fun d os => Calls.regrown_of (rcount_any A c1 l n _ hl (h1'.later (below_regrown W d os)))
    rw [hr] at cR
    have CR := Lib.hid cR
    have CC := Lib.hid cC
    clear hh hr cR cC
    go_enter Try.func84, Try.ntmps84
    go_wp2_with fail
    rw [HW.out]
    refine wp_region_quiet_below (by kernel_rfl) (by kernel_rfl) ?_
    repeat (first | go_big_quiet_step (first | exact CR.out _ _ | exact CC.out _ _) | quiet_step (first | exact CR.out _ _ | exact CC.out _ _))
    refine wpQuiet_nil ?_
    intro _ hw'
    obtain ⟨⟨dq, osq⟩, hw''⟩ := hw'
    subst hw''
    go_wp2
    go_ret
    exact ⟨by rw [HH.out]; rfl, below_on hb0 (below_regrown W dq osq)⟩

end Go.Proofs.Ytcfkpjbakccgiaa
namespace Go.Proofs.Ytcfkpjbakccgiaa
open Go.RowKit

set_option maxHeartbeats 1600000 in
theorem rsame_any (A B : Option Addr) (c1 c2 : Nat) (l r : List (Int × Int)) (w : World) (hl : l.length ≤ 9223372036854775807) (h1 : Stamps w A l) (h2 : Stamps w B r) :
    Calls Try.prog 16 #[.slice A l.length c1, .slice B r.length c2] w fun e w' => e = .returned (.bool (decide (l = r))) ∧ Below w.heap.size w w' := by
  have H1 := Lib.hid h1
  have H2 := Lib.hid h2
  clear h1 h2
  by_cases hlen : l.length = r.length
  · have hd0 : ((l.length : Int) != (r.length : Int)) = false := by rw [bne_eq_false_iff_eq]; omega
    have HLEN := Lib.hid hlen
    have hr1 : r.length ≤ l.length := by omega
    have hr2 : l.length ≤ r.length := by omega
    clear hlen
    go_enter Try.func16, Try.ntmps16
    go_wp2_with fail
    go_loopw [5] (fun s5 wr => ∃ k : Nat, k ≤ l.length ∧ s5 = .int .i64 (k : Int) ∧ (∀ j, j < k → l.getD j (0, 0) = r.getD j (0, 0)) ∧ Below w.heap.size w wr) (fun s5 _ => l.length - (intOf s5).toNat)
    case atStart => exact ⟨0, Nat.zero_le _, rfl, fun j hj => by omega, Below.refl _ _⟩
    case round =>
      obtain ⟨k, hk, rfl, heq, hbw⟩ := hrel
      have HEQ := Lib.hid heq
      clear heq
      by_cases hlt : k < l.length
      · have hne : l ≠ [] := fun e => by subst e; simp at hlt
        have hne2 : r ≠ [] := fun e => by have := HLEN.out; subst e; simp at this; exact hne this
        obtain ⟨b, off, hA, hcA⟩ := (H1.out.later hbw) hne
        obtain ⟨b', off', hB, hcB⟩ := (H2.out.later hbw) hne2
        obtain ⟨e0, e1⟩ := hcA k hlt
        obtain ⟨f0, f1⟩ := hcB k (by omega)
        have H1' := H1
        have H2' := H2
        subst hA hB
        clear hcA hcB
        have hi0 : (0 : Int) ≤ (k : Int) := by omega
        have hi1 : (k : Int) < (l.length : Int) := by omega
        have hi2 : (k : Int) < (r.length : Int) := by omega
        obtain ⟨x, hx⟩ : ∃ x, l.getD k (0, 0) = x := ⟨_, rfl⟩
        obtain ⟨y, hy⟩ : ∃ y, r.getD k (0, 0) = y := ⟨_, rfl⟩
        rw [hx] at e0 e1
        rw [hy] at f0 f1
        have HX := Lib.hid hx
        have HY := Lib.hid hy
        clear hx hy
        by_cases hxy : x = y
        · subst hxy
          go_wp2_with fail
          go_quiet (fail)
          go_wp2_with fail
          go_roundw
          case rel =>
            refine ⟨k + 1, by omega, by go_num, ?_, below_drewN hbw _⟩
            intro j hj
            by_cases e : j = k
            · subst e; rw [HX.out, HY.out]
            · exact HEQ.out j (by omega)
          case measure => simp [intOf]; omega
        · have hno : decide (l = r) = false := decide_eq_false (fun e => hxy (by rw [← HX.out, ← HY.out, e]))
          have HNO := Lib.hid hno
          clear hno
          obtain ⟨x1, x2⟩ := x
          obtain ⟨y1, y2⟩ := y
          by_cases h1 : x1 = y1
          · subst h1
            have h2 : (x2 == y2) = false := beq_eq_false_iff_ne.2 (fun e => hxy (by rw [e]))
            clear hxy
            go_wp2_with fail
            go_quiet (fail)
            go_wp2
            go_ret
            exact ⟨by rw [HNO.out]; rfl, below_drewN hbw _⟩
          · have h1b : (x1 == y1) = false := beq_eq_false_iff_ne.2 h1
            clear hxy h1
            go_wp2_with fail
            go_quiet (fail)
            go_wp2
            go_ret
            exact ⟨by rw [HNO.out]; rfl, below_drewN hbw _⟩
      · have hyes : decide (l = r) = true := decide_eq_true (take_ext HLEN.out (fun j hj => HEQ.out j (by omega)))
        have HY := Lib.hid hyes
        clear hyes
        go_wp2
        go_ret
        exact ⟨by rw [HY.out]; rfl, hbw⟩
  · have hd0 : ((l.length : Int) != (r.length : Int)) = true := by rw [bne_iff_ne]; omega
    have hno : decide (l = r) = false := decide_eq_false (fun e => hlen (by rw [e]))
    have HNO := Lib.hid hno
    clear hno
    go_enter Try.func16, Try.ntmps16
    go_wp2
    go_ret
    exact ⟨by rw [HNO.out]; rfl, Below.refl _ _⟩

set_option maxHeartbeats 800000 in
theorem rcopy_any (A : Option Addr) (c1 : Nat) (l : List (Int × Int)) (w : World) (hl : l.length * 16 ≤ 140737488355328) (hA : A = none → l.length = 0 ∧ c1 = 0) (h1 : Lies w A (stCells l)) :
    Calls Try.prog 33 #[.slice A l.length c1] w (Gives l w) := by
  obtain ⟨i0, hi, hz0, hz1, hz2⟩ := info_parts infoSt
  have hown : (w.alloc (.cells #[] 53)).ownsRow w.heap.size 53 2 (.slice (some ⟨w.heap.size, 0, none⟩) 0 0) 0 [] :=
    ⟨rfl, .inr ⟨w.heap.size, 0, #[], rfl, Nat.le_refl _, heap_alloc_new w _, Nat.le_refl _, Nat.zero_le _, rfl, rfl⟩⟩
  have HA := Lib.hid hA
  clear hA
  go_enter Try.func33, Try.ntmps33
  go_wp2_with (at_builtin; refine wpList_append_lies _ rfl _ _ 23 rfl w.heap.size 53 i0 (.agg #[.int .i64 0, .int .i64 0]) 2 16 Try.underlying23 hi hz0 hz1 hz2 rfl (by decide) _ 0 [] rfl hown A l.length c1 HA.out (stCells l) rfl (stCells_length l) (h1.alloc _) (stCells_one l) ?c3 ?c4 ?c5 ?_)
  case c3 => unfold maxLen; omega
  case c4 => omega
  case c5 => simp
  intro v' w1 hown1 hg1 _
  have hbw : Below w.heap.size w w1 := (below_new (Below.refl _ _) (.cells #[] 53)).grown hg1 (by simp) (by intro k hk; simp [Value.ownBlock] at hk; omega)
  try simp only [Nat.zero_add, List.nil_append] at hown1
  have HO := Lib.hid hown1
  clear hown hown1 hg1
  go_wp2
  go_ret
  exact ⟨_, rfl, HO.out, hbw⟩

end Go.Proofs.Ytcfkpjbakccgiaa
