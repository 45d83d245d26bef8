/-
  What span's isObject, Formed and Has answer.
  What a set's spans answers: the list of the set, in memory of its own.
  Plain mathematics of counted ends: how many spans hold an object, by differences at the spans' ends. Nothing of the program is imported.
  What span's setOf answers of any lists in memory: the objects that are in one of them.
-/
import Derived.Test.YtcfkpjbakccgiaaG14
import Derived.Test.YtcfkpjbakccgiaaG06
namespace Go.Proofs.Ytcfkpjbakccgiaa
open Go.RowKit Fb

set_option maxHeartbeats 800000 in
theorem isObject_any (o : Int) (w : World) : Calls Try.prog 67 #[.int .i64 o] w fun e w' => e = .returned (.bool (decide (0 ≤ o ∧ o ≤ 255))) ∧ Below w.heap.size w w' := by
  by_cases h0 : 0 ≤ o
  · have d0 : decide (0 ≤ o) = true := decide_eq_true h0
    by_cases h1 : o < 256
    · have d1 : decide (o < 256) = true := decide_eq_true h1
      rw [show decide (0 ≤ o ∧ o ≤ 255) = true from decide_eq_true (by omega)]
      go_enter Try.func67, Try.ntmps67
      go_wp2
      go_ret
      exact ⟨rfl, Below.refl _ _⟩
    · have d1 : decide (o < 256) = false := decide_eq_false h1
      rw [show decide (0 ≤ o ∧ o ≤ 255) = false from decide_eq_false (by omega)]
      go_enter Try.func67, Try.ntmps67
      go_wp2
      go_ret
      exact ⟨rfl, Below.refl _ _⟩
  · have d0 : decide (0 ≤ o) = false := decide_eq_false h0
    rw [show decide (0 ≤ o ∧ o ≤ 255) = false from decide_eq_false (by omega)]
    go_enter Try.func67, Try.ntmps67
    go_wp2
    go_ret
    exact ⟨rfl, Below.refl _ _⟩

/-- A span as it must be behind those ahead of it. -/
def Sp.apt (l : List (Int × Int)) (j : Nat) : Prop := 0 ≤ (l.getD j (0, 0)).1 ∧ (l.getD j (0, 0)).1 ≤ (l.getD j (0, 0)).2 ∧ (l.getD j (0, 0)).2 < 256 ∧ (0 < j → (l.getD (j - 1) (0, 0)).2 + 1 < (l.getD j (0, 0)).1)
theorem Sp.apt_good (l : List (Int × Int)) : Sp.good 256 l ↔ ∀ j, j < l.length → Sp.apt l j := Iff.rfl
theorem Sp.fmd_no (l : List (Int × Int)) (k : Nat) (hk : k < l.length) (h : ¬ Sp.apt l k) : Sp.fmd l = false := by
  rcases Sp.two (Sp.fmd l) with h1 | h1
  · exact absurd ((Sp.fmd_iff l).1 h1 k hk) h
  · exact h1

set_option maxHeartbeats 1600000 in
theorem spformed_any (A : Option Addr) (c1 : Nat) (l : List (Int × Int)) (w : World) (h1 : OneL w A c1 l) :
    Calls Try.prog 34 #[.slice A l.length c1] w (Says (.bool (Sp.fmd l)) w) := by
  have hl := h1.len
  have HS := Lib.hid h1.stamps
  clear h1
  go_enter Try.func34, Try.ntmps34
  go_wp2_with fail
  go_loopw [3, 8] (fun s3 s8 wr => ∃ (k : Nat) (least : Int), k ≤ l.length ∧ s8 = .int .i64 (k : Int) ∧ s3 = .int .i64 least ∧ (∀ j, j < k → Sp.apt l j) ∧ ((k = 0 ∧ least = 0) ∨ (0 < k ∧ least = (l.getD (k - 1) (0, 0)).2 + 2)) ∧ Below w.heap.size w wr) (fun _ s8 _ => l.length - (intOf s8).toNat)
  case atStart => exact ⟨0, 0, Nat.zero_le _, rfl, rfl, fun j hj => by omega, .inl ⟨rfl, rfl⟩, Below.refl _ _⟩
  case round =>
    obtain ⟨k, least, hk, rfl, rfl, hap, hle, hbw⟩ := hrel
    by_cases hlt : k < l.length
    · have hne : l ≠ [] := fun e => by subst e; simp at hlt
      obtain ⟨b, off, hA, hc⟩ := (HS.out.later hbw) hne
      subst hA
      obtain ⟨e0, e1⟩ := hc k hlt
      have hi0 : (0 : Int) ≤ (k : Int) := by omega
      have hi1 : (k : Int) < (l.length : Int) := by omega
      have hno := Sp.fmd_no l k hlt
      have hyes : Sp.apt l k → ∀ j, j < k + 1 → Sp.apt l j := fun h j hj => by
        by_cases e : j = k
        · rw [e]; exact h
        · exact hap j (by omega)
      have hle2 : (l.getD k (0, 0)).1 < least → ¬ Sp.apt l k := fun h1 h2 => by
        obtain ⟨q1, q2, q3, q4⟩ := h2
        rcases hle with ⟨h3, h4⟩ | ⟨h3, h4⟩
        · omega
        · have := q4 h3
          omega
      have hle3 : ¬ (l.getD k (0, 0)).1 < least → 0 ≤ (l.getD k (0, 0)).1 ∧ (0 < k → (l.getD (k - 1) (0, 0)).2 + 1 < (l.getD k (0, 0)).1) := fun h1 => by
        rcases hle with ⟨h3, h4⟩ | ⟨h3, h4⟩
        · exact ⟨by omega, by omega⟩
        · obtain ⟨q1, q2, q3, q4⟩ := hap (k - 1) (by omega)
          exact ⟨by omega, by omega⟩
      have hapt : Sp.apt l k = (0 ≤ (l.getD k (0, 0)).1 ∧ (l.getD k (0, 0)).1 ≤ (l.getD k (0, 0)).2 ∧ (l.getD k (0, 0)).2 < 256 ∧ (0 < k → (l.getD (k - 1) (0, 0)).2 + 1 < (l.getD k (0, 0)).1)) := rfl
      have hnx : l.getD (k + 1 - 1) (0, 0) = l.getD k (0, 0) := by rw [Nat.add_sub_cancel]
      obtain ⟨z, hz⟩ : ∃ z, l.getD k (0, 0) = z := ⟨_, rfl⟩
      rw [hz] at e0 e1 hle2 hle3 hapt hnx
      obtain ⟨x, y⟩ := z
      have hle2 : x < least → ¬ Sp.apt l k := hle2
      have hle3 : ¬ x < least → 0 ≤ x ∧ (0 < k → (l.getD (k - 1) (0, 0)).2 + 1 < x) := hle3
      have hapt : Sp.apt l k = (0 ≤ x ∧ x ≤ y ∧ y < 256 ∧ (0 < k → (l.getD (k - 1) (0, 0)).2 + 1 < x)) := hapt
      have HNO := Lib.hid hno
      have HY := Lib.hid hyes
      have HNX := Lib.hid hnx
      have HLE3 := Lib.hid hle3
      have HLE2 := Lib.hid hle2
      have HAPT := Lib.hid hapt
      have hbn := below_new hbw (.cells #[.int .i64 x, .int .i64 y] 55)
      clear hno hyes hnx hle hap hz hle2 hle3 hapt hc
      by_cases c1 : x < least
      · have d1 : decide (x < least) = true := decide_eq_true c1
        have HQ := Lib.hid (HNO.out (HLE2.out c1))
        clear HNO HLE2 HLE3 HAPT
        go_wp2
        go_ret
        exact ⟨by rw [HQ.out]; rfl, hbn⟩
      · have d1 : decide (x < least) = false := decide_eq_false c1
        by_cases c2 : y < x
        · have d2 : decide (y < x) = true := decide_eq_true c2
          have HQ := Lib.hid (HNO.out (fun h => by rw [HAPT.out] at h; omega))
          clear HNO HLE2 HLE3 HAPT
          go_wp2
          go_ret
          exact ⟨by rw [HQ.out]; rfl, hbn⟩
        · have d2 : decide (y < x) = false := decide_eq_false c2
          have n1 := fun wx => isObject_any y wx
          obtain ⟨q1, q2⟩ := HLE3.out c1
          have HQ2 := Lib.hid q2
          clear q2
          by_cases c3 : y < 256
          · have d3 : decide (0 ≤ y ∧ y ≤ 255) = true := decide_eq_true (by omega)
            rw [d3] at n1
            have N1 := Lib.hid n1
            have HAP := Lib.hid (show Sp.apt l k from by rw [HAPT.out]; exact ⟨q1, by omega, c3, HQ2.out⟩)
            clear HNO HLE2 HLE3 HAPT d3 n1
            go_wp2_with fail
            refine (N1.out _).mono ?_
            rintro e w2 ⟨rfl, b2⟩
            have hb2 := below_on hbn b2
            have hB := (Blk.new wr 55 #[.int .i64 x, .int .i64 y]).later b2
            have g1 := hB.cell (i := 1) rfl
            go_wp2_with fail
            go_roundw
            case rel => exact ⟨k + 1, y + 2, by omega, by go_num, by go_num, HY.out HAP.out, .inr ⟨by omega, by rw [HNX.out]⟩, hb2⟩
            case measure => simp [intOf]; omega
          · have d3 : decide (0 ≤ y ∧ y ≤ 255) = false := decide_eq_false (by omega)
            rw [d3] at n1
            have N1 := Lib.hid n1
            have HQ := Lib.hid (HNO.out (fun h => by rw [HAPT.out] at h; omega))
            clear HNO HLE2 HLE3 HAPT d3 n1
            go_wp2_with fail
            refine (N1.out _).mono ?_
            rintro e w2 ⟨rfl, b2⟩
            have hb2 := below_on hbn b2
            go_wp2
            go_ret
            exact ⟨by rw [HQ.out]; rfl, hb2⟩
    · have HQ := Lib.hid (show Sp.fmd l = true from (Sp.fmd_iff l).2 (fun j hj => hap j (by omega)))
      clear hap hle
      go_wp2
      go_ret
      exact ⟨by rw [HQ.out]; rfl, hbw⟩

set_option maxHeartbeats 1600000 in
theorem sphas_any (A : Option Addr) (c1 : Nat) (l : List (Int × Int)) (o : Int) (w : World) (h1 : OneL w A c1 l) :
    Calls Try.prog 43 #[.slice A l.length c1, .int .i64 o] w (Says (.bool (inOf l o)) w) := by
  have hl := h1.len
  have n1 := isObject_any o
  by_cases h0 : 0 ≤ o ∧ o ≤ 255
  · obtain ⟨p, rfl⟩ : ∃ p : Nat, o = (p : Int) := ⟨o.toNat, by omega⟩
    have hi : inOf l (p : Int) = Sp.inL l p := by unfold inOf; rw [decide_eq_true h0]; rfl
    rw [decide_eq_true h0] at n1
    rw [hi]
    have N1 := Lib.hid n1
    have HS := Lib.hid h1.stamps
    clear n1 h1 hi h0
    go_enter Try.func43, Try.ntmps43
    go_wp2_with fail
    refine (N1.out _).mono ?_
    rintro e w1 ⟨rfl, b1⟩
    clear N1
    go_wp2_with fail
    go_loopw [12] (fun s12 wr => ∃ k : Nat, k ≤ l.length ∧ s12 = .int .i64 (k : Int) ∧ Sp.inL (l.take k) p = false ∧ Below w.heap.size w wr) (fun s12 _ => l.length - (intOf s12).toNat)
    case atStart => exact ⟨0, Nat.zero_le _, rfl, rfl, b1⟩
    case round =>
      obtain ⟨k, hk, rfl, hin, hbw⟩ := hrel
      by_cases hlt : k < l.length
      · have hne : l ≠ [] := fun e => by subst e; simp at hlt
        obtain ⟨b, off, hA, hc⟩ := (HS.out.later hbw) hne
        subst hA
        obtain ⟨e0, e1⟩ := hc k hlt
        rw [List.getD_eq_getElem?_getD, List.getElem?_eq_getElem hlt, Option.getD_some] at e0 e1
        have hi0 : (0 : Int) ≤ (k : Int) := by omega
        have hi1 : (k : Int) < (l.length : Int) := by omega
        have hit := Sp.inL_take l k hlt p
        have hmem : l[k].1 ≤ (p : Int) → (p : Int) ≤ l[k].2 → Sp.inL l p = true := fun q1 q2 => (Sp.inL_iff l p).2 ⟨l[k], List.getElem_mem hlt, q1, q2⟩
        rw [hin, Bool.false_or] at hit
        obtain ⟨z, hz⟩ : ∃ z, l[k] = z := ⟨_, rfl⟩
        rw [hz] at e0 e1 hit hmem
        obtain ⟨x, y⟩ := z
        have HIT := Lib.hid (show Sp.inL (l.take (k + 1)) p = decide (x ≤ (p : Int) ∧ (p : Int) ≤ y) from hit)
        have HM := Lib.hid (show x ≤ (p : Int) → (p : Int) ≤ y → Sp.inL l p = true from hmem)
        have hbn := below_new hbw (.cells #[.int .i64 x, .int .i64 y] 55)
        clear hit hmem hz hin hc b1
        by_cases c1 : x ≤ (p : Int)
        · have d1 : decide (x ≤ (p : Int)) = true := decide_eq_true c1
          by_cases c2 : (p : Int) ≤ y
          · have d2 : decide ((p : Int) ≤ y) = true := decide_eq_true c2
            have HQ := Lib.hid (HM.out c1 c2)
            clear HM HIT
            go_wp2
            go_ret
            exact ⟨by rw [HQ.out]; rfl, hbn⟩
          · have d2 : decide ((p : Int) ≤ y) = false := decide_eq_false c2
            have HQ := Lib.hid (show Sp.inL (l.take (k + 1)) p = false from by rw [HIT.out]; exact decide_eq_false (fun h => c2 h.2))
            clear HM HIT
            go_wp2_with fail
            go_roundw
            case rel => exact ⟨k + 1, by omega, by go_num, HQ.out, hbn⟩
            case measure => simp [intOf]; omega
        · have d1 : decide (x ≤ (p : Int)) = false := decide_eq_false c1
          have HQ := Lib.hid (show Sp.inL (l.take (k + 1)) p = false from by rw [HIT.out]; exact decide_eq_false (fun h => c1 h.1))
          clear HM HIT
          go_wp2_with fail
          go_roundw
          case rel => exact ⟨k + 1, by omega, by go_num, HQ.out, hbn⟩
          case measure => simp [intOf]; omega
      · have hkl : k = l.length := by omega
        subst hkl
        rw [List.take_length] at hin
        have HQ := Lib.hid hin
        clear hin b1
        go_wp2
        go_ret
        exact ⟨by rw [HQ.out]; rfl, hbw⟩
  · have hi : inOf l o = false := by unfold inOf; rw [decide_eq_false h0]; rfl
    rw [decide_eq_false h0] at n1
    rw [hi]
    have N1 := Lib.hid n1
    clear n1 h1 hi
    go_enter Try.func43, Try.ntmps43
    go_wp2_with fail
    refine (N1.out _).mono ?_
    rintro e w1 ⟨rfl, b1⟩
    go_wp2
    go_ret
    exact ⟨rfl, b1⟩

end Go.Proofs.Ytcfkpjbakccgiaa
namespace Go.Proofs.Ytcfkpjbakccgiaa
open Go.RowKit Fb

theorem infoSet : (Try.prog.info? 88).map (·.size) = some 256 := by kernel_rfl

/-- One of 256 marks, by its place. -/
theorem index_set (f : Nat → Bool) (k : Nat) (hk : k < 256) (w : World) : (Instr.index 88 (.agg (Sp.arr f)) (.int .i64 (k : Int))).run Try.prog w = .ok (.bool (f k)) w := by
  have h1 := Sp.arr_get f k hk
  simp [Instr.index, asIntOf, run_underlying Try.underlying88, part, Try.isAgg4, Try.sizeOf4, h1]
  intro h
  exact absurd h (by omega)

set_option maxRecDepth 100000 in
set_option maxHeartbeats 3200000 in
theorem spans_any (f : Nat → Bool) (w : World) : Calls Try.prog 70 #[.agg (Sp.arr f)] w (GivesS (Sp.ofL f) w) := by
  obtain ⟨i0, hi, hz0, hz1, hz2⟩ := info_parts infoSp
  go_enter Try.func70, Try.ntmps70
  go_wp2_with (refine wpList_load_row rfl 88 _ rfl w.heap.size rfl 88 (Sp.arr f) (0, 0) _ (Blk.new w 88 (Sp.arr f)) Try.underlying88 rfl (by rw [Sp.arr_size]; exact infoSet) ?_)
  go_loopw [3, 7] (fun s3 s4 wr => ∃ k : Nat, k ≤ 256 ∧ s4 = .int .i64 (k : Int) ∧ wr.ownsRow (w.heap.size + 1) 55 2 s3 (Sp.ofTo f k).length (stCells (Sp.ofTo f k)) ∧ Blk wr w.heap.size 88 (Sp.arr f) ∧ Below w.heap.size w wr) (fun _ s4 _ => 256 - (intOf s4).toNat)
  case atStart => exact ⟨0, by omega, rfl, ⟨rfl, .inl ⟨rfl, rfl⟩⟩, Blk.new _ _ _, below_new (Below.refl _ _) _⟩
  case round =>
    obtain ⟨k, hk, rfl, hown, hB, hbw⟩ := hrel
    by_cases hlt : k < 256
    · have hix := fun w => index_set f k hlt w
      have hi0 : (0 : Int) ≤ (k : Int) := by omega
      have hi1 : (k : Int) < 256 := by omega
      have hln : (Sp.ofTo f k).length ≤ 256 := by have := Sp.ofTo_short f k; omega
      have hsz := hbw.size
      have HB := Lib.hid hB
      have hst := Sp.ofTo.eq_2 f k
      have his := (Sp.ofTo_is f k).2.2.1
      cases hp : f k
      · rw [hp] at hix hst
        have HST := Lib.hid (hst.trans (if_neg (by simp)))
        have HO := Lib.hid hown
        clear hown hst hp hB his
        go_wp2_with fail
        go_roundw
        case rel => exact ⟨k + 1, by omega, by go_num, by rw [HST.out]; exact HO.out, HB.out, hbw⟩
        case measure => simp [intOf]; omega
      · rw [hp] at hix hst
        rw [if_pos rfl] at hst
        by_cases hq : 0 < k ∧ f (k - 1) = true
        · rw [if_pos hq] at hst
          obtain ⟨hl0, _⟩ := his hq.1 hq.2
          obtain ⟨m, rfl⟩ : ∃ m, k = m + 1 := ⟨k - 1, by omega⟩
          have c1 := hB.marks_cell m (by omega)
          replace hix : ∀ w, (Instr.index 88 (.agg (Sp.arr f)) (.int .i64 ((m : Int) + 1))).run Try.prog w = .ok (.bool true) w := fun w => hix w
          have hfm : f m = true := hq.2
          rw [hfm] at c1
          have hm1 : ((m + 1 : Nat) : Int) - 1 = (m : Int) := by omega
          have hm0 : (0 : Int) ≤ (m : Int) := by omega
          have hm2 : (m : Int) < 256 := by omega
          have hg : decide (((m + 1 : Nat) : Int) > 0) = true := decide_eq_true (by omega)
          obtain ⟨g, cap, rfl⟩ := own_len hown hl0
          obtain ⟨hg1, hg2⟩ := own_base_le hown
          have hrc := reach_cells _ hl0 ((m + 1 : Nat) : Int)
          have hrl := Sp.reach_len _ ((m + 1 : Nat) : Int) hl0
          obtain ⟨L, hL⟩ : ∃ L, Sp.ofTo f (m + 1) = L := ⟨_, rfl⟩
          rw [hL] at hown hrc hrl hst hl0 hln
          obtain ⟨q, hq1⟩ : ∃ q, L.length = q + 1 := ⟨L.length - 1, by omega⟩
          have hcl := own_cell_at hown (i := q * 2 + 1) (stCells_get L q (by omega)).2
          have hfr := own_free_at hown (q * 2 + 1)
          have hpt := own_put hown (q * 2 + 1) (.int .i64 ((m + 1 : Nat) : Int))
          rw [hq1, show q + 1 - 1 = q from rfl] at hrc
          rw [hrc] at hpt
          rw [← hst] at hpt hrl
          rw [← hrl] at hpt
          have hq2 : ((q + 1 : Nat) : Int) - 1 = (q : Int) := by omega
          have hq3 : (0 : Int) ≤ (q : Int) := by omega
          have hq4 : (q : Int) < ((q + 1 : Nat) : Int) := by omega
          have hB2 := Lib.hid (HB.out.far (p := ⟨g, q * 2 + 1, none⟩) (by show w.heap.size ≠ g; omega) (.int .i64 ((m + 1 : Nat) : Int)))
          have hb2 := hbw.setCell (p := ⟨g, q * 2 + 1, none⟩) (by show w.heap.size ≤ g; omega) (.int .i64 ((m + 1 : Nat) : Int))
          rw [hrl, hq1] at hpt
          rw [hL, hq1]
          have HPT := Lib.hid hpt
          have HRL := Lib.hid (hrl.trans hq1)
          clear hpt hrc hst hown hB hq hp hfm hL his hl0
          go_wp2_with fail
          go_roundw
          case rel => exact ⟨m + 1 + 1, by omega, by go_num, by rw [HRL.out]; exact HPT.out, hB2.out, hb2⟩
          case measure => simp [intOf]; omega
        · have hgd : 0 < k → f (k - 1) = false := fun h0 => by
            cases hf : f (k - 1) with
            | false => rfl
            | true => exact absurd ⟨h0, hf⟩ hq
          rw [if_neg hq] at hst
          have HST := Lib.hid hst
          cases k with
          | zero =>
            replace hix : ∀ w, (Instr.index 88 (.agg (Sp.arr f)) (.int .i64 0)).run Try.prog w = .ok (.bool true) w := fun w => hix w
            clear hst hq hp hB his
            go_wp2_with (at_builtin; refine wpList_append_lies _ rfl _ _ 28 rfl (w.heap.size + 1) 55 i0 (.agg #[.int .i64 0, .int .i64 0]) 2 16 Try.underlying28 hi hz0 hz1 hz2 rfl (by decide) _ (Sp.ofTo f 0).length (stCells (Sp.ofTo f 0)) rfl (hown.alloc _) (some ⟨wr.heap.size, 0, none⟩) 1 1 (fun h => by cases h) (stCells [(0, 0)]) rfl rfl ?c1 (stCells_one _) ?c3 ?c4 ?c5 ?_)
            case c1 =>
              intro _
              refine ⟨wr.heap.size, 0, rfl, fun j u hu => ?_⟩
              rw [Nat.zero_add]
              exact (Blk.new wr 55 #[.int .i64 0, .int .i64 0]).cell (by simpa [stCells] using hu)
            case c3 => unfold maxLen; omega
            case c4 => omega
            case c5 => have := HB.out.lt; simp; omega
            intro v' w1 hown1 hg1 _
            have hB1 : Blk w1 w.heap.size 88 (Sp.arr f) := (hg1.block w.heap.size (by have := HB.out.lt; simp; omega) (fun e => by have := own_ge hown _ e.symm; omega)).trans (HB.out.alloc _)
            have hb1 : Below w.heap.size w w1 := (below_new hbw _).grown hg1 (by simp; omega) (fun k' hk' => by have := own_ge hown _ hk'; omega)
            rw [← stCells_append, show (Sp.ofTo f 0).length + 1 = (Sp.ofTo f 0 ++ [(((0 : Nat) : Int), ((0 : Nat) : Int))]).length from by simp] at hown1
            have HO := Lib.hid (show w1.ownsRow _ _ _ v' _ (stCells (Sp.ofTo f 0 ++ [(((0 : Nat) : Int), ((0 : Nat) : Int))])) from hown1)
            have HB1 := Lib.hid hB1
            clear hown1 hB1 hown hg1
            go_wp2_with fail
            go_roundw
            case rel => exact ⟨0 + 1, by omega, by go_num, by rw [HST.out]; exact HO.out, HB1.out, hb1⟩
            case measure => simp [intOf]
          | succ m =>
            have c1 := hB.marks_cell m (by omega)
            replace hix : ∀ w, (Instr.index 88 (.agg (Sp.arr f)) (.int .i64 ((m : Int) + 1))).run Try.prog w = .ok (.bool true) w := fun w => hix w
            have hfm : f m = false := hgd (by omega)
            rw [hfm] at c1
            have hm1 : ((m + 1 : Nat) : Int) - 1 = (m : Int) := by omega
            have hm0 : (0 : Int) ≤ (m : Int) := by omega
            have hm2 : (m : Int) < 256 := by omega
            have hg : decide (((m + 1 : Nat) : Int) > 0) = true := decide_eq_true (by omega)
            clear hst hq hp hB his hgd hfm
            go_wp2_with (at_builtin; refine wpList_append_lies _ rfl _ _ 28 rfl (w.heap.size + 1) 55 i0 (.agg #[.int .i64 0, .int .i64 0]) 2 16 Try.underlying28 hi hz0 hz1 hz2 rfl (by decide) _ (Sp.ofTo f (m + 1)).length (stCells (Sp.ofTo f (m + 1))) rfl (hown.alloc _) (some ⟨wr.heap.size, 0, none⟩) 1 1 (fun h => by cases h) (stCells [(((m + 1 : Nat) : Int), ((m + 1 : Nat) : Int))]) rfl rfl ?c1 (stCells_one _) ?c3 ?c4 ?c5 ?_)
            case c1 =>
              intro _
              refine ⟨wr.heap.size, 0, rfl, fun j u hu => ?_⟩
              rw [Nat.zero_add]
              exact (Blk.new wr 55 #[.int .i64 ((m + 1 : Nat) : Int), .int .i64 ((m + 1 : Nat) : Int)]).cell (by simpa [stCells] using hu)
            case c3 => unfold maxLen; omega
            case c4 => omega
            case c5 => have := HB.out.lt; simp; omega
            intro v' w1 hown1 hg1 _
            have hB1 : Blk w1 w.heap.size 88 (Sp.arr f) := (hg1.block w.heap.size (by have := HB.out.lt; simp; omega) (fun e => by have := own_ge hown _ e.symm; omega)).trans (HB.out.alloc _)
            have hb1 : Below w.heap.size w w1 := (below_new hbw _).grown hg1 (by simp; omega) (fun k' hk' => by have := own_ge hown _ hk'; omega)
            rw [← stCells_append, show (Sp.ofTo f (m + 1)).length + 1 = (Sp.ofTo f (m + 1) ++ [(((m + 1 : Nat) : Int), ((m + 1 : Nat) : Int))]).length from by simp] at hown1
            have HO := Lib.hid hown1
            have HB1 := Lib.hid hB1
            clear hown1 hB1 hown hg1
            go_wp2_with fail
            go_roundw
            case rel => exact ⟨m + 1 + 1, by omega, by go_num, by rw [HST.out]; exact HO.out, HB1.out, hb1⟩
            case measure => simp [intOf]; omega
    · have hk64 : k = 256 := by omega
      subst hk64
      have HO := Lib.hid hown
      clear hown
      go_wp2
      go_ret
      exact ⟨_, rfl, own_base HO.out (by omega), hbw⟩

end Go.Proofs.Ytcfkpjbakccgiaa
namespace Go.Proofs.Ytcfkpjbakccgiaa
namespace Sp

/-- Does a span hold an object? How many of a list, of the first k lists? -/
def cvS (s : Int × Int) (o : Nat) : Int := if s.1 ≤ (o : Int) ∧ (o : Int) ≤ s.2 then 1 else 0
def cvL : List (Int × Int) → Nat → Int
  | [], _ => 0
  | s :: r, o => cvS s o + cvL r o
theorem cvS_bd (s : Int × Int) (o : Nat) : 0 ≤ cvS s o ∧ cvS s o ≤ 1 := by unfold cvS; split <;> omega
theorem cvS_pos (s : Int × Int) (o : Nat) : 0 < cvS s o ↔ s.1 ≤ (o : Int) ∧ (o : Int) ≤ s.2 := by
  unfold cvS
  by_cases h : s.1 ≤ (o : Int) ∧ (o : Int) ≤ s.2
  · rw [if_pos h]; exact ⟨fun _ => h, fun _ => by omega⟩
  · rw [if_neg h]; exact ⟨fun h2 => by omega, fun h2 => absurd h2 h⟩
theorem cvL_snoc (s : Int × Int) (o : Nat) : ∀ l, cvL (l ++ [s]) o = cvL l o + cvS s o
  | [] => by show cvS s o + 0 = 0 + cvS s o; omega
  | t :: r => by
    have := cvL_snoc s o r
    show cvS t o + cvL (r ++ [s]) o = cvS t o + cvL r o + cvS s o
    omega
theorem cvL_take (l : List (Int × Int)) (k : Nat) (h : k < l.length) (o : Nat) : cvL (l.take (k + 1)) o = cvL (l.take k) o + cvS l[k] o := by
  rw [List.take_succ_eq_append_getElem h, cvL_snoc]
theorem cvL_bd (o : Nat) : ∀ l, 0 ≤ cvL l o ∧ cvL l o ≤ (l.length : Int)
  | [] => ⟨Int.le_refl _, Int.le_refl _⟩
  | s :: r => by
    have h1 := cvL_bd o r
    have h2 := cvS_bd s o
    have e : cvL (s :: r) o = cvS s o + cvL r o := rfl
    rw [e, List.length_cons]
    omega
theorem cvL_pos (o : Nat) : ∀ l, 0 < cvL l o ↔ inL l o = true
  | [] => ⟨fun h => absurd h (Int.lt_irrefl _), fun h => by cases h⟩
  | s :: r => by
    have h1 := cvL_pos o r
    have h2 := cvS_pos s o
    have h3 := (cvL_bd o r).1
    have h4 := (cvS_bd s o).1
    have e : cvL (s :: r) o = cvS s o + cvL r o := rfl
    rw [e, inL_cons, Bool.or_eq_true, decide_eq_true_eq, ← h1, ← h2]
    omega
def cvTo (ls : List (List (Int × Int))) : Nat → Nat → Int
  | 0, _ => 0
  | k + 1, o => cvTo ls k o + cvL (ls.getD k []) o
def totTo (ls : List (List (Int × Int))) : Nat → Nat
  | 0 => 0
  | k + 1 => totTo ls k + (ls.getD k []).length
theorem totTo_cons (l : List (Int × Int)) (ls : List (List (Int × Int))) : ∀ k, totTo (l :: ls) (k + 1) = l.length + totTo ls k
  | 0 => by show 0 + l.length = l.length + 0; omega
  | k + 1 => by
    have := totTo_cons l ls k
    show totTo (l :: ls) (k + 1) + (ls.getD k []).length = l.length + (totTo ls k + (ls.getD k []).length)
    omega
theorem totTo_all : ∀ ls, totTo ls ls.length = tot ls
  | [] => rfl
  | l :: r => by
    rw [List.length_cons, totTo_cons, totTo_all r]
    simp [tot]
theorem totTo_mono (ls : List (List (Int × Int))) (k : Nat) : ∀ m, k ≤ m → totTo ls k ≤ totTo ls m
  | 0, h => by rw [Nat.le_zero.1 h]; exact Nat.le_refl _
  | m + 1, h => by
    rcases Nat.lt_or_ge m k with h1 | h1
    · rw [show k = m + 1 from by omega]; exact Nat.le_refl _
    · have := totTo_mono ls k m h1
      show totTo ls k ≤ totTo ls m + _
      omega
theorem totTo_le (ls : List (List (Int × Int))) (k : Nat) (h : k < ls.length) : totTo ls k + (ls.getD k []).length ≤ tot ls := by
  have := totTo_mono ls (k + 1) ls.length h
  rw [totTo_all] at this
  exact this
theorem cvTo_bd (ls : List (List (Int × Int))) (o : Nat) : ∀ k, 0 ≤ cvTo ls k o ∧ cvTo ls k o ≤ (totTo ls k : Int)
  | 0 => ⟨Int.le_refl _, Int.le_refl _⟩
  | k + 1 => by
    have h1 := cvTo_bd ls o k
    have h2 := cvL_bd o (ls.getD k [])
    have e : cvTo ls (k + 1) o = cvTo ls k o + cvL (ls.getD k []) o := rfl
    have e2 : totTo ls (k + 1) = totTo ls k + (ls.getD k []).length := rfl
    rw [e, e2]
    omega
theorem cvTo_pos (ls : List (List (Int × Int))) (o : Nat) : ∀ k, 0 < cvTo ls k o ↔ anyTo ls k o = true
  | 0 => ⟨fun h => absurd h (Int.lt_irrefl _), fun h => by cases h⟩
  | k + 1 => by
    have h1 := cvTo_pos ls o k
    have h2 := cvL_pos o (ls.getD k [])
    have h3 := (cvTo_bd ls o k).1
    have h4 := (cvL_bd o (ls.getD k [])).1
    have e : cvTo ls (k + 1) o = cvTo ls k o + cvL (ls.getD k []) o := rfl
    have e2 : anyTo ls (k + 1) o = (anyTo ls k o || inL (ls.getD k []) o) := rfl
    rw [e, e2, Bool.or_eq_true, ← h1, ← h2]
    omega

/-- Sums of differences. -/
def sumTo (c : Nat → Int) : Nat → Int
  | 0 => 0
  | k + 1 => sumTo c k + c k
theorem sumTo_put (c : Nat → Int) (p : Nat) (v : Int) : ∀ k, sumTo (fun j => if j = p then v else c j) k = sumTo c k + (if p < k then v - c p else 0)
  | 0 => by
    rw [if_neg (by omega)]
    show (0 : Int) = 0 + 0
    omega
  | k + 1 => by
    have h := sumTo_put c p v k
    show sumTo (fun j => if j = p then v else c j) k + (if k = p then v else c k) = sumTo c k + c k + _
    rw [h]
    by_cases e : k = p
    · rw [if_neg (by omega), if_pos e, if_pos (by omega), e]
      omega
    · rw [if_neg e]
      by_cases e2 : p < k
      · rw [if_pos e2, if_pos (by omega)]
        omega
      · rw [if_neg e2, if_neg (by omega)]
        omega
theorem sumTo_zero : ∀ k, sumTo (fun _ => 0) k = 0
  | 0 => rfl
  | k + 1 => by
    have := sumTo_zero k
    show sumTo (fun _ => 0) k + 0 = 0
    omega
/-- The differences c count g, of n spans. -/
def Dif (n : Nat) (c g : Nat → Int) : Prop := (∀ o, o < 256 → sumTo c (o + 1) = g o) ∧ ∀ j, -(n : Int) ≤ c j ∧ c j ≤ (n : Int)
theorem Dif.zero : Dif 0 (fun _ => 0) (fun _ => 0) := ⟨fun _ _ => sumTo_zero _, fun _ => ⟨Int.le_refl _, Int.le_refl _⟩⟩
theorem Dif.same {n m : Nat} {c g g' : Nat → Int} (h : Dif n c g) (hm : n ≤ m) (hg : ∀ o, o < 256 → g o = g' o) : Dif m c g' := ⟨fun o ho => (h.1 o ho).trans (hg o ho), fun j => by have := h.2 j; omega⟩
theorem Dif.step {n : Nat} {c g g' : Nat → Int} (h : Dif n c g) (p q : Nat) (hpq : p ≤ q) (hg : ∀ o, o < 256 → g' o = g o + (if p ≤ o ∧ o ≤ q then 1 else 0)) :
    Dif (n + 1) (fun j => if j = q + 1 then c (q + 1) - 1 else (if j = p then c p + 1 else c j)) g' := by
  refine ⟨fun o ho => ?_, fun j => ?_⟩
  · rw [sumTo_put (fun j => if j = p then c p + 1 else c j) (q + 1) (c (q + 1) - 1), sumTo_put c p (c p + 1), h.1 o ho, hg o ho, if_neg (show ¬ (q + 1 = p) from by omega)]
    by_cases h1 : p ≤ o
    · rw [if_pos (show p < o + 1 from by omega)]
      by_cases h2 : o ≤ q
      · rw [if_neg (show ¬ (q + 1 < o + 1) from by omega), if_pos ⟨h1, h2⟩]
        omega
      · rw [if_pos (show q + 1 < o + 1 from by omega), if_neg (fun h => h2 h.2)]
        omega
    · rw [if_neg (show ¬ (p < o + 1) from by omega), if_neg (show ¬ (q + 1 < o + 1) from by omega), if_neg (fun h => h1 h.1)]
      omega
  · have h1 := h.2 j
    have h2 := h.2 p
    have h3 := h.2 (q + 1)
    show -((n + 1 : Nat) : Int) ≤ (if j = q + 1 then c (q + 1) - 1 else (if j = p then c p + 1 else c j)) ∧ (if j = q + 1 then c (q + 1) - 1 else (if j = p then c p + 1 else c j)) ≤ ((n + 1 : Nat) : Int)
    split
    · omega
    · split <;> omega
theorem over_any (ls : List (List (Int × Int))) (o : Nat) : decide (0 < cvTo ls ls.length o) = anyTo ls ls.length o := by
  rw [Bool.eq_iff_iff, decide_eq_true_eq]
  exact cvTo_pos ls o ls.length

end Sp
end Go.Proofs.Ytcfkpjbakccgiaa
namespace Go.Proofs.Ytcfkpjbakccgiaa
open Go.RowKit Fb

theorem infoChange : (Try.prog.info? 107).map (·.size) = some 257 := by kernel_rfl
section
variable {w : World} {g : Nat} {t : TypeId} {c : Nat → Int}
theorem Blk.nar_put (h : Blk w g t (Sp.nar c)) (i : Nat) (x : Int) : Blk (w.setCell ⟨g, i, none⟩ (.int .i64 x)) g t (Sp.nar fun j => if j = i then x else c j) := by
  have h2 := h.put i (.int .i64 x)
  rw [Sp.nar_set c i x] at h2
  exact h2
theorem Blk.nar_cell (h : Blk w g t (Sp.nar c)) (i : Nat) (hi : i < 257) : w.cell? ⟨g, i, none⟩ = some (.int .i64 (c i)) := h.cell (Sp.nar_get c i hi)
end

set_option maxRecDepth 100000 in
set_option maxHeartbeats 6400000 in
theorem setOf_any (A : Option Addr) (cap : Nat) (ls : List (List (Int × Int))) (w : World) (hn : ls.length ≤ 9223372036854775807) (htot : Sp.tot ls ≤ 9223372036854775807) (h : Rows w A ls) :
    Calls Try.prog 69 #[.slice A ls.length cap] w fun e w' => e = .returned (.agg (Sp.arr (Sp.anyTo ls ls.length))) ∧ Below w.heap.size w w' := by
  have HR := Lib.hid h
  have hov := fun o => Sp.over_any ls o
  obtain ⟨F, hF⟩ : ∃ F, Sp.anyTo ls ls.length = F := ⟨_, rfl⟩
  rw [hF] at hov ⊢
  have HOV0 := Lib.hid hov
  clear h hov hF
  go_enter Try.func69, Try.ntmps69
  go_wp2_with fail
  rw [set_zero, change_zero]
  go_loopw [15] (fun s15 wr => ∃ (k : Nat) (c : Nat → Int), k ≤ ls.length ∧ s15 = .int .i64 (k : Int) ∧ Sp.Dif (Sp.totTo ls k) c (Sp.cvTo ls k) ∧ Blk wr (w.heap.size + 1) 107 (Sp.nar c) ∧ Blk wr w.heap.size 88 (Sp.arr fun _ => false) ∧ Below w.heap.size w wr) (fun s15 _ => ls.length - (intOf s15).toNat)
  case atStart =>
    have hb := Blk.new (w.alloc (.cells (Sp.arr fun _ => false) 88)) 107 (Sp.nar fun _ => 0)
    rw [show (w.alloc (.cells (Sp.arr fun _ => false) 88)).heap.size = w.heap.size + 1 from by simp] at hb
    exact ⟨0, fun _ => 0, Nat.zero_le _, rfl, Sp.Dif.zero, hb, (Blk.new _ _ _).alloc _, below_new (below_new (Below.refl _ _) _) _⟩
  case round =>
    obtain ⟨k, c, hk, rfl, hdif, hB1, hB0, hbw⟩ := hrel
    by_cases hlt : k < ls.length
    · have hne : ls ≠ [] := fun e => by subst e; simp at hlt
      obtain ⟨b, off, hA, hc⟩ := HR.out hne
      obtain ⟨A', c', e0, o1⟩ := hc k hlt
      replace e0 := cell_later hbw e0
      have HR2 := HR
      subst hA
      have hi0 : (0 : Int) ≤ (k : Int) := by omega
      have hi1 : (k : Int) < (ls.length : Int) := by omega
      have htl := Sp.totTo_le ls k hlt
      have hnext : ∀ c2, Sp.Dif (Sp.totTo ls k + (ls.getD k []).length) c2 (fun o => Sp.cvTo ls k o + Sp.cvL ((ls.getD k []).take (ls.getD k []).length) o) → Sp.Dif (Sp.totTo ls (k + 1)) c2 (Sp.cvTo ls (k + 1)) := fun c2 h2 => by
        rw [List.take_length] at h2
        exact h2
      obtain ⟨l, hl⟩ : ∃ l, ls.getD k [] = l := ⟨_, rfl⟩
      rw [hl] at e0 o1 htl hnext
      have hll := o1.len
      have HS := Lib.hid o1.stamps
      have HO := Lib.hid o1
      have HNX := Lib.hid hnext
      have HB1 := Lib.hid hB1
      have HB0 := Lib.hid hB0
      have HD := Lib.hid hdif
      clear hc hl hnext hB1 hB0 hdif o1
      go_wp2_with fail
      go_loopw [21] (fun s21 wq => ∃ (i : Nat) (c : Nat → Int), i ≤ l.length ∧ s21 = .int .i64 (i : Int) ∧ Sp.Dif (Sp.totTo ls k + i) c (fun o => Sp.cvTo ls k o + Sp.cvL (l.take i) o) ∧ Blk wq (w.heap.size + 1) 107 (Sp.nar c) ∧ Blk wq w.heap.size 88 (Sp.arr fun _ => false) ∧ Below w.heap.size w wq) (fun s21 _ => l.length - (intOf s21).toNat)
      case atStart => exact ⟨0, c, Nat.zero_le _, rfl, HD.out.same (by omega) (fun o _ => (Int.add_zero _).symm), HB1.out, HB0.out, hbw⟩
      case round =>
        obtain ⟨i, c, hi, rfl, hdif, hC1, hC0, hbq⟩ := hrel
        clear HB1 HB0 HD
        by_cases hlt2 : i < l.length
        · have hne2 : l ≠ [] := fun e => by subst e; simp at hlt2
          obtain ⟨b2, off2, hA2, hc2⟩ := (HS.out.later hbq) hne2
          have HS2 := HS
          subst hA2
          obtain ⟨e1, e2⟩ := hc2 i hlt2
          rw [List.getD_eq_getElem?_getD, List.getElem?_eq_getElem hlt2, Option.getD_some] at e1 e2
          have hj0 : (0 : Int) ≤ (i : Int) := by omega
          have hj1 : (i : Int) < (l.length : Int) := by omega
          obtain ⟨z, hz⟩ : ∃ z, l[i] = z := ⟨_, rfl⟩
          obtain ⟨x, y⟩ := z
          have HXY := Lib.hid hz
          rw [hz] at e1 e2
          have e1 : wr.cell? ⟨b2, off2 + i * 2, none⟩ = some (.int .i64 x) := e1
          have e2 : wr.cell? ⟨b2, off2 + (i * 2 + 1), none⟩ = some (.int .i64 y) := e2
          have hbn0 := below_new hbq (.cells #[.int .i64 x, .int .i64 y] 55)
          have B2 := Blk.new wr 55 #[.int .i64 x, .int .i64 y]
          have hC1' := hC1.alloc (.cells #[.int .i64 x, .int .i64 y] 55)
          have hC0' := hC0.alloc (.cells #[.int .i64 x, .int .i64 y] 55)
          obtain ⟨W1, hW1⟩ : ∃ W1, wr.alloc (.cells #[.int .i64 x, .int .i64 y] 55) = W1 := ⟨_, rfl⟩
          rw [hW1] at hbn0 B2 hC1' hC0'
          have HW1 := Lib.hid hW1
          have g0 := B2.cell (i := 0) rfl
          have g1 := B2.cell (i := 1) rfl
          have FIN := Lib.hid (show ∀ c2 wx, Sp.Dif (Sp.totTo ls k + i + 1) c2 (fun o => Sp.cvTo ls k o + Sp.cvL (l.take (i + 1)) o) → Blk wx (w.heap.size + 1) 107 (Sp.nar c2) → Blk wx w.heap.size 88 (Sp.arr fun _ => false) → Below w.heap.size w wx →
              ∃ (i' : Nat) (c' : Nat → Int), i' ≤ l.length ∧ Value.int .i64 ((i : Int) + 1) = .int .i64 (i' : Int) ∧ Sp.Dif (Sp.totTo ls k + i') c' (fun o => Sp.cvTo ls k o + Sp.cvL (l.take i') o) ∧ Blk wx (w.heap.size + 1) 107 (Sp.nar c') ∧ Blk wx w.heap.size 88 (Sp.arr fun _ => false) ∧ Below w.heap.size w wx from
            fun c2 wx h1 h2 h3 h4 => ⟨i + 1, c2, by omega, by go_num, h1, h2, h3, h4⟩)
          clear hC1 hC0 hW1 hz hc2 B2
          rcases Int.lt_or_le x 0 with hx | hx
          · rcases Int.lt_or_le 255 y with hy | hy
            · have hst := hdif.step (g' := fun o => Sp.cvTo ls k o + Sp.cvL (l.take (i + 1)) o) 0 255 (by omega) (fun o ho => by
                rw [Sp.cvL_take l i hlt2 o, HXY.out, Int.add_assoc]
                congr 2
                unfold Sp.cvS
                by_cases hq : 0 ≤ o ∧ o ≤ 255
                · rw [if_pos hq, if_pos (by show x ≤ (o : Int) ∧ (o : Int) ≤ y; omega)]
                · rw [if_neg hq, if_neg (by show ¬ (x ≤ (o : Int) ∧ (o : Int) ≤ y); omega)])
              have hbp := hdif.2 0
              have hbq1 := hdif.2 (256)
              have y1 := hC1'.nar_cell 0 (by omega)
              have y2 := hC1'.free 0
              have y3 := (hC1'.nar_put 0 (c 0 + 1)).nar_cell (256) (by omega)
              have y4 := (hC1'.nar_put 0 (c 0 + 1)).free (256)
              have y5 := hC1'.nar_cell (256) (by omega)
              have y6 := hC1'.free (256)
              rw [if_neg (show ¬ (256 = 0) from by omega)] at y3
              have B5 := ((hC1'.nar_put 0 (c 0 + 1)).nar_put (256) (c (256) - 1)).drew
              have B6 := ((hC0'.far (p := ⟨w.heap.size + 1, 0, none⟩) (by show w.heap.size ≠ w.heap.size + 1; omega) (.int .i64 (c 0 + 1))).far (p := ⟨w.heap.size + 1, 256, none⟩) (by show w.heap.size ≠ w.heap.size + 1; omega) (.int .i64 (c (256) - 1))).drew
              have b6 := ((hbn0.setCell (p := ⟨w.heap.size + 1, 0, none⟩) (by show w.heap.size ≤ w.heap.size + 1; omega) (.int .i64 (c 0 + 1))).setCell (p := ⟨w.heap.size + 1, 256, none⟩) (by show w.heap.size ≤ w.heap.size + 1; omega) (.int .i64 (c (256) - 1))).drew
              obtain ⟨u, hu⟩ : ∃ u, c 0 = u := ⟨_, rfl⟩
              obtain ⟨v, hv⟩ : ∃ v, c (256) = v := ⟨_, rfl⟩
              rw [hu] at y1 y3 y4 hbp B5 B6 b6 hst
              rw [hv] at y3 y5 hbq1 B5 B6 b6 hst
              have HB5 := Lib.hid B5
              have HB6 := Lib.hid B6
              have HST := Lib.hid hst
              clear B5 B6 hst hC0' hdif hu hv hC1'
              go_wp2_with fail
              rw [HW1.out]
              go_region
              go_wp2_with fail
              go_roundw
              case rel => exact FIN.out _ _ HST.out HB5.out HB6.out b6
              case measure => simp [intOf]; omega
            · by_cases hle : 0 ≤ y
              · obtain ⟨q, rfl⟩ : ∃ q : Nat, y = (q : Int) := ⟨y.toNat, by omega⟩
                have hst := hdif.step (g' := fun o => Sp.cvTo ls k o + Sp.cvL (l.take (i + 1)) o) 0 q (by omega) (fun o ho => by
                  rw [Sp.cvL_take l i hlt2 o, HXY.out, Int.add_assoc]
                  congr 2
                  unfold Sp.cvS
                  by_cases hq : 0 ≤ o ∧ o ≤ q
                  · rw [if_pos hq, if_pos (by show x ≤ (o : Int) ∧ (o : Int) ≤ (q : Int); omega)]
                  · rw [if_neg hq, if_neg (by show ¬ (x ≤ (o : Int) ∧ (o : Int) ≤ (q : Int)); omega)])
                have hbp := hdif.2 0
                have hbq1 := hdif.2 (q + 1)
                have y1 := hC1'.nar_cell 0 (by omega)
                have y2 := hC1'.free 0
                have y3 := (hC1'.nar_put 0 (c 0 + 1)).nar_cell (q + 1) (by omega)
                have y4 := (hC1'.nar_put 0 (c 0 + 1)).free (q + 1)
                have y5 := hC1'.nar_cell (q + 1) (by omega)
                have y6 := hC1'.free (q + 1)
                rw [if_neg (show ¬ (q + 1 = 0) from by omega)] at y3
                have B5 := ((hC1'.nar_put 0 (c 0 + 1)).nar_put (q + 1) (c (q + 1) - 1)).drew
                have B6 := ((hC0'.far (p := ⟨w.heap.size + 1, 0, none⟩) (by show w.heap.size ≠ w.heap.size + 1; omega) (.int .i64 (c 0 + 1))).far (p := ⟨w.heap.size + 1, q + 1, none⟩) (by show w.heap.size ≠ w.heap.size + 1; omega) (.int .i64 (c (q + 1) - 1))).drew
                have b6 := ((hbn0.setCell (p := ⟨w.heap.size + 1, 0, none⟩) (by show w.heap.size ≤ w.heap.size + 1; omega) (.int .i64 (c 0 + 1))).setCell (p := ⟨w.heap.size + 1, q + 1, none⟩) (by show w.heap.size ≤ w.heap.size + 1; omega) (.int .i64 (c (q + 1) - 1))).drew
                obtain ⟨u, hu⟩ : ∃ u, c 0 = u := ⟨_, rfl⟩
                obtain ⟨v, hv⟩ : ∃ v, c (q + 1) = v := ⟨_, rfl⟩
                rw [hu] at y1 y3 y4 hbp B5 B6 b6 hst
                rw [hv] at y3 y5 hbq1 B5 B6 b6 hst
                have HB5 := Lib.hid B5
                have HB6 := Lib.hid B6
                have HST := Lib.hid hst
                clear B5 B6 hst hC0' hdif hu hv hC1'
                go_wp2_with fail
                rw [HW1.out]
                go_region
                go_wp2_with fail
                go_roundw
                case rel => exact FIN.out _ _ HST.out HB5.out HB6.out b6
                case measure => simp [intOf]; omega
              · have hst := hdif.same (m := Sp.totTo ls k + i + 1) (g' := fun o => Sp.cvTo ls k o + Sp.cvL (l.take (i + 1)) o) (by omega) (fun o ho => by
                  rw [Sp.cvL_take l i hlt2 o, HXY.out]
                  unfold Sp.cvS
                  rw [if_neg (by show ¬ (x ≤ (o : Int) ∧ (o : Int) ≤ y); omega), Int.add_zero])
                have HST := Lib.hid hst
                have HB5 := Lib.hid hC1'.drew
                have HB6 := Lib.hid hC0'.drew
                have hbn := hbn0.drew
                clear hst hC0' hdif hC1'
                go_wp2_with fail
                rw [HW1.out]
                go_region
                go_wp2_with fail
                go_roundw
                case rel => exact FIN.out _ _ HST.out HB5.out HB6.out hbn
                case measure => simp [intOf]; omega
          · obtain ⟨p, rfl⟩ : ∃ p : Nat, x = (p : Int) := ⟨x.toNat, by omega⟩
            rcases Int.lt_or_le 255 y with hy | hy
            · by_cases hle : (p : Int) ≤ (255 : Int)
              · have hst := hdif.step (g' := fun o => Sp.cvTo ls k o + Sp.cvL (l.take (i + 1)) o) p 255 (by omega) (fun o ho => by
                  rw [Sp.cvL_take l i hlt2 o, HXY.out, Int.add_assoc]
                  congr 2
                  unfold Sp.cvS
                  by_cases hq : p ≤ o ∧ o ≤ 255
                  · rw [if_pos hq, if_pos (by show (p : Int) ≤ (o : Int) ∧ (o : Int) ≤ y; omega)]
                  · rw [if_neg hq, if_neg (by show ¬ ((p : Int) ≤ (o : Int) ∧ (o : Int) ≤ y); omega)])
                have hbp := hdif.2 p
                have hbq1 := hdif.2 (256)
                have y1 := hC1'.nar_cell p (by omega)
                have y2 := hC1'.free p
                have y3 := (hC1'.nar_put p (c p + 1)).nar_cell (256) (by omega)
                have y4 := (hC1'.nar_put p (c p + 1)).free (256)
                have y5 := hC1'.nar_cell (256) (by omega)
                have y6 := hC1'.free (256)
                rw [if_neg (show ¬ (256 = p) from by omega)] at y3
                have B5 := ((hC1'.nar_put p (c p + 1)).nar_put (256) (c (256) - 1)).drew
                have B6 := ((hC0'.far (p := ⟨w.heap.size + 1, p, none⟩) (by show w.heap.size ≠ w.heap.size + 1; omega) (.int .i64 (c p + 1))).far (p := ⟨w.heap.size + 1, 256, none⟩) (by show w.heap.size ≠ w.heap.size + 1; omega) (.int .i64 (c (256) - 1))).drew
                have b6 := ((hbn0.setCell (p := ⟨w.heap.size + 1, p, none⟩) (by show w.heap.size ≤ w.heap.size + 1; omega) (.int .i64 (c p + 1))).setCell (p := ⟨w.heap.size + 1, 256, none⟩) (by show w.heap.size ≤ w.heap.size + 1; omega) (.int .i64 (c (256) - 1))).drew
                obtain ⟨u, hu⟩ : ∃ u, c p = u := ⟨_, rfl⟩
                obtain ⟨v, hv⟩ : ∃ v, c (256) = v := ⟨_, rfl⟩
                rw [hu] at y1 y3 y4 hbp B5 B6 b6 hst
                rw [hv] at y3 y5 hbq1 B5 B6 b6 hst
                have HB5 := Lib.hid B5
                have HB6 := Lib.hid B6
                have HST := Lib.hid hst
                clear B5 B6 hst hC0' hdif hu hv hC1'
                go_wp2_with fail
                rw [HW1.out]
                go_region
                go_wp2_with fail
                go_roundw
                case rel => exact FIN.out _ _ HST.out HB5.out HB6.out b6
                case measure => simp [intOf]; omega
              · have hst := hdif.same (m := Sp.totTo ls k + i + 1) (g' := fun o => Sp.cvTo ls k o + Sp.cvL (l.take (i + 1)) o) (by omega) (fun o ho => by
                  rw [Sp.cvL_take l i hlt2 o, HXY.out]
                  unfold Sp.cvS
                  rw [if_neg (by show ¬ ((p : Int) ≤ (o : Int) ∧ (o : Int) ≤ y); omega), Int.add_zero])
                have HST := Lib.hid hst
                have HB5 := Lib.hid hC1'.drew
                have HB6 := Lib.hid hC0'.drew
                have hbn := hbn0.drew
                clear hst hC0' hdif hC1'
                go_wp2_with fail
                rw [HW1.out]
                go_region
                go_wp2_with fail
                go_roundw
                case rel => exact FIN.out _ _ HST.out HB5.out HB6.out hbn
                case measure => simp [intOf]; omega
            · by_cases hle : (p : Int) ≤ y
              · obtain ⟨q, rfl⟩ : ∃ q : Nat, y = (q : Int) := ⟨y.toNat, by omega⟩
                have hst := hdif.step (g' := fun o => Sp.cvTo ls k o + Sp.cvL (l.take (i + 1)) o) p q (by omega) (fun o ho => by
                  rw [Sp.cvL_take l i hlt2 o, HXY.out, Int.add_assoc]
                  congr 2
                  unfold Sp.cvS
                  by_cases hq : p ≤ o ∧ o ≤ q
                  · rw [if_pos hq, if_pos (by show (p : Int) ≤ (o : Int) ∧ (o : Int) ≤ (q : Int); omega)]
                  · rw [if_neg hq, if_neg (by show ¬ ((p : Int) ≤ (o : Int) ∧ (o : Int) ≤ (q : Int)); omega)])
                have hbp := hdif.2 p
                have hbq1 := hdif.2 (q + 1)
                have y1 := hC1'.nar_cell p (by omega)
                have y2 := hC1'.free p
                have y3 := (hC1'.nar_put p (c p + 1)).nar_cell (q + 1) (by omega)
                have y4 := (hC1'.nar_put p (c p + 1)).free (q + 1)
                have y5 := hC1'.nar_cell (q + 1) (by omega)
                have y6 := hC1'.free (q + 1)
                rw [if_neg (show ¬ (q + 1 = p) from by omega)] at y3
                have B5 := ((hC1'.nar_put p (c p + 1)).nar_put (q + 1) (c (q + 1) - 1)).drew
                have B6 := ((hC0'.far (p := ⟨w.heap.size + 1, p, none⟩) (by show w.heap.size ≠ w.heap.size + 1; omega) (.int .i64 (c p + 1))).far (p := ⟨w.heap.size + 1, q + 1, none⟩) (by show w.heap.size ≠ w.heap.size + 1; omega) (.int .i64 (c (q + 1) - 1))).drew
                have b6 := ((hbn0.setCell (p := ⟨w.heap.size + 1, p, none⟩) (by show w.heap.size ≤ w.heap.size + 1; omega) (.int .i64 (c p + 1))).setCell (p := ⟨w.heap.size + 1, q + 1, none⟩) (by show w.heap.size ≤ w.heap.size + 1; omega) (.int .i64 (c (q + 1) - 1))).drew
                obtain ⟨u, hu⟩ : ∃ u, c p = u := ⟨_, rfl⟩
                obtain ⟨v, hv⟩ : ∃ v, c (q + 1) = v := ⟨_, rfl⟩
                rw [hu] at y1 y3 y4 hbp B5 B6 b6 hst
                rw [hv] at y3 y5 hbq1 B5 B6 b6 hst
                have HB5 := Lib.hid B5
                have HB6 := Lib.hid B6
                have HST := Lib.hid hst
                clear B5 B6 hst hC0' hdif hu hv hC1'
                go_wp2_with fail
                rw [HW1.out]
                go_region
                go_wp2_with fail
                go_roundw
                case rel => exact FIN.out _ _ HST.out HB5.out HB6.out b6
                case measure => simp [intOf]; omega
              · have hst := hdif.same (m := Sp.totTo ls k + i + 1) (g' := fun o => Sp.cvTo ls k o + Sp.cvL (l.take (i + 1)) o) (by omega) (fun o ho => by
                  rw [Sp.cvL_take l i hlt2 o, HXY.out]
                  unfold Sp.cvS
                  rw [if_neg (by show ¬ ((p : Int) ≤ (o : Int) ∧ (o : Int) ≤ y); omega), Int.add_zero])
                have HST := Lib.hid hst
                have HB5 := Lib.hid hC1'.drew
                have HB6 := Lib.hid hC0'.drew
                have hbn := hbn0.drew
                clear hst hC0' hdif hC1'
                go_wp2_with fail
                rw [HW1.out]
                go_region
                go_wp2_with fail
                go_roundw
                case rel => exact FIN.out _ _ HST.out HB5.out HB6.out hbn
                case measure => simp [intOf]; omega
        · have hil : i = l.length := by omega
          subst hil
          have HD2 := Lib.hid (HNX.out c hdif)
          have HC1 := Lib.hid hC1
          have HC0 := Lib.hid hC0
          clear hdif hC1 hC0
          go_wp2_with fail
          go_roundw
          case rel => exact ⟨k + 1, c, by omega, by go_num, HD2.out, HC1.out, HC0.out, hbq⟩
          case measure => simp [intOf]; omega
    · have hkl : k = ls.length := by omega
      subst hkl
      have hg : ∀ o, o < 256 → Sp.sumTo c o + c o = Sp.cvTo ls ls.length o := fun o ho => hdif.1 o ho
      have hgb : ∀ o, 0 ≤ Sp.cvTo ls ls.length o ∧ Sp.cvTo ls ls.length o ≤ 9223372036854775807 := fun o => by
        have h1 := Sp.cvTo_bd ls o ls.length
        rw [Sp.totTo_all] at h1
        omega
      have hov := HOV0.out
      have hgs : ∀ o, o ≤ 256 → 0 ≤ Sp.sumTo c o ∧ Sp.sumTo c o ≤ 9223372036854775807 := fun o ho => by
        cases o with
        | zero => exact ⟨Int.le_refl _, by show (0 : Int) ≤ _; omega⟩
        | succ m =>
          have h1 := hdif.1 m (by omega)
          have h2 := hgb m
          omega
      obtain ⟨G, hG⟩ : ∃ G, Sp.cvTo ls ls.length = G := ⟨_, rfl⟩
      rw [hG] at hg hgb hov
      have HG := Lib.hid hg
      have HGB := Lib.hid hgb
      have HGS := Lib.hid hgs
      have HOV := Lib.hid hov
      have HB1 := Lib.hid hB1
      have HB0 := Lib.hid hB0
      have hlt1 := hB1.lt
      obtain ⟨gN, hgN⟩ : ∃ gN, wr.heap.size = gN := ⟨_, rfl⟩
      have hNew := Blk.new wr 88 (Sp.arr fun _ => false)
      have hz := hbw.size
      rw [hgN] at hNew hlt1 hz
      clear hg hgb hgs hov hdif hB1 hB0 hG
      go_wp2_with fail
      rw [set_zero]
      go_loopw [11, 47] (fun s11 s47 wq => ∃ o : Nat, o ≤ 256 ∧ s47 = .int .i64 (o : Int) ∧ s11 = .int .i64 (Sp.sumTo c o) ∧ Blk wq gN 88 (Sp.arr fun j => decide (j < o) && F j) ∧ Blk wq (w.heap.size + 1) 107 (Sp.nar c) ∧ Blk wq w.heap.size 88 (Sp.arr fun _ => false) ∧ Below w.heap.size w wq) (fun _ s47 _ => 256 - (intOf s47).toNat)
      case atStart => exact ⟨0, by omega, rfl, rfl, hNew.marks_same (fun i _ => by rw [decide_eq_false (by omega), Bool.false_and]), HB1.out.alloc _, HB0.out.alloc _, below_new hbw _⟩
      case round =>
        obtain ⟨o, ho, rfl, rfl, hN, hC1, hC0, hbq⟩ := hrel
        clear HB1 HB0
        by_cases hlt2 : o < 256
        · have y1 := hC1.nar_cell o (by omega)
          have y0 := hN.marks_cell o hlt2
          have y2 := hN.free o
          have hj0 : (0 : Int) ≤ (o : Int) := by omega
          have hj1 : (o : Int) < 256 := by omega
          have hj2 : (o : Int) < 257 := by omega
          have hs1 := HGS.out o (by omega)
          have hs2 := HG.out o hlt2
          have hs3 := HGB.out o
          have hs4 := HOV.out o
          have hnx : ∀ x, x = F o → ∀ j, j < 256 → (if j = o then x else (decide (j < o) && F j)) = (decide (j < o + 1) && F j) := fun x hx j _ => by
            by_cases e : j = o
            · rw [if_pos e, e, decide_eq_true (by omega), Bool.true_and, hx]
            · rw [if_neg e]
              congr 1
              rw [Bool.eq_iff_iff, decide_eq_true_eq, decide_eq_true_eq]
              omega
          have hsn : Sp.sumTo c (o + 1) = Sp.sumTo c o + c o := rfl
          obtain ⟨s, hs⟩ : ∃ s, Sp.sumTo c o = s := ⟨_, rfl⟩
          obtain ⟨d, hd⟩ : ∃ d, c o = d := ⟨_, rfl⟩
          rw [hs] at hs1 hs2 hsn
          rw [hs]
          rw [hd] at y1 hs2 hsn
          rw [← hs2] at hs3 hs4
          cases hf : F o
          · rw [hf] at hs4 hnx
            have hp : s + d ≤ 0 := by have := of_decide_eq_false hs4; omega
            have B7 := (hN.marks_put o hlt2 false).marks_same (hnx false rfl)
            have B8 := hC1.far (p := ⟨gN, o, none⟩) (by show w.heap.size + 1 ≠ gN; omega) (.bool false)
            have B9 := hC0.far (p := ⟨gN, o, none⟩) (by show w.heap.size ≠ gN; omega) (.bool false)
            have b9 := hbq.setCell (p := ⟨gN, o, none⟩) hz (.bool false)
            have HB7 := Lib.hid B7
            have HB8 := Lib.hid B8
            have HB9 := Lib.hid B9
            have HSN := Lib.hid hsn
            clear hnx hN hC1 hC0 hs2 hf hs hd B7 B8 B9 hsn
            go_wp2_with fail
            go_roundw
            case rel => exact ⟨o + 1, by omega, by go_num, by rw [HSN.out], HB7.out, HB8.out, HB9.out, b9⟩
            case measure => simp [intOf]; omega
          · rw [hf] at hs4 hnx
            have hp : 0 < s + d := of_decide_eq_true hs4
            have B7 := (hN.marks_put o hlt2 true).marks_same (hnx true rfl)
            have B8 := hC1.far (p := ⟨gN, o, none⟩) (by show w.heap.size + 1 ≠ gN; omega) (.bool true)
            have B9 := hC0.far (p := ⟨gN, o, none⟩) (by show w.heap.size ≠ gN; omega) (.bool true)
            have b9 := hbq.setCell (p := ⟨gN, o, none⟩) hz (.bool true)
            have HB7 := Lib.hid B7
            have HB8 := Lib.hid B8
            have HB9 := Lib.hid B9
            have HSN := Lib.hid hsn
            clear hnx hN hC1 hC0 hs2 hf hs hd B7 B8 B9 hsn
            go_wp2_with fail
            go_roundw
            case rel => exact ⟨o + 1, by omega, by go_num, by rw [HSN.out], HB7.out, HB8.out, HB9.out, b9⟩
            case measure => simp [intOf]; omega
        · have ho256 : o = 256 := by omega
          subst ho256
          have hN2 := hN.marks_same (f' := F) (fun i hi => by rw [decide_eq_true hi, Bool.true_and])
          clear hN hC1
          go_wp2_with (first | (refine wpList_load_row rfl 88 _ rfl gN rfl 88 _ (0, 0) _ hN2 Try.underlying88 rfl (by rw [Sp.arr_size]; exact infoSet) ?_) | (refine wpList_store_row rfl 88 _ _ rfl w.heap.size _ rfl rfl 88 _ hC0 (by rw [Sp.arr_size]; exact infoSet) (by rw [Sp.arr_size, Sp.arr_size]) (one_marks _) ?_))
          refine bodyPost_ret (v := .agg (Sp.arr F)) (results_cell_row rfl _ _ w.heap.size 88 (Sp.arr F) (0, 0) _ rfl (setRow_heap _ _ _ _ _ _ hC0) Try.underlying88 rfl (by rw [Sp.arr_size]; exact infoSet)) rfl ⟨rfl, below_setRow hbq (Nat.le_refl _) _⟩

end Go.Proofs.Ytcfkpjbakccgiaa
