/-
  What telltaleref02's Covers, Compare, Greatest, Count, Same and Copy answer of any lists of stamps in memory.
-/
import Derived.Test.YtjdiopoikppifaaRefOf
import Derived.WalkSmall
import Derived.Deep.QuietTactic
import Derived.BigQuiet
import Derived.Lib.QuietBelow
namespace Go.Proofs.Ytjdiopoikppifaa
open Go.RowKit

theorem Blk.row {w : World} {g : Nat} {t : TypeId} {cs : Array Value} (h : Blk w g t cs) (cs' : Array Value) : Blk (w.setRow g cs') g t cs' := setRow_heap _ _ _ _ _ _ h
theorem Blk.rowFar {w : World} {g g' : Nat} {t : TypeId} {cs : Array Value} (h : Blk w g t cs) (hne : g ≠ g') (cs' : Array Value) : Blk (w.setRow g' cs') g t cs := (setRow_other _ _ _ _ hne).trans h
theorem Stamps.later {w w' : World} {A : Option Addr} {l : List (Int × Int)} (h : Stamps w A l) (hb : Below w.heap.size w w') : Stamps w' A l := fun hne => by
  obtain ⟨b, off, hA, hc⟩ := h hne
  exact ⟨b, off, hA, fun k hk => ⟨cell_later hb (hc k hk).1, cell_later hb (hc k hk).2⟩⟩

set_option maxRecDepth 100000 in
set_option maxHeartbeats 1600000 in
theorem rcovers_any (A B : Option Addr) (c1 c2 : Nat) (l r : List (Int × Int)) (w : World) (hl : l.length ≤ 9223372036854775807) (hr : r.length ≤ 9223372036854775807) (h1 : Stamps w A l) (h2 : Stamps w B r) :
    Calls Try.prog 21 #[.slice A l.length c1, .slice B r.length c2] w fun e w' => e = .returned (.bool (Ve.cov (Ve.cnt l) (Ve.cnt r))) ∧ Below w.heap.size w w' := by
  have H1 := Lib.hid h1
  have H2 := Lib.hid h2
  clear h1 h2
  have n1 := fun w h => counts_any A c1 l w hl h
  have n2 := fun w h => counts_any B c2 r w hr h
  obtain ⟨f, hf⟩ : ∃ f, Ve.cnt l = f := ⟨_, rfl⟩
  obtain ⟨g, hg⟩ : ∃ g, Ve.cnt r = g := ⟨_, rfl⟩
  have hfg : Ve.cov (Ve.cnt l) (Ve.cnt r) = Ve.cov f g := by rw [hf, hg]
  rw [hf] at n1
  rw [hg] at n2
  have HFG := Lib.hid hfg
  have N1 := Lib.hid n1
  have N2 := Lib.hid n2
  clear hf hg hfg n1 n2
  go_enter Try.func21, Try.ntmps21
  go_wp2_with fail
  refine (N1.out _ H1.out).mono ?_
  rintro e w1 ⟨rfl, hb1⟩
  go_wp2_with fail
  refine (N2.out _ (H2.out.later hb1)).mono ?_
  rintro e w2 ⟨rfl, hb2⟩
  have hbx := below_on (below_on (Below.refl _ _) hb1) hb2
  clear H1 H2 hl hr hb1 hb2 N1 N2
  go_wp2_with (first | (refine wpList_store_row rfl 45 _ _ rfl w2.heap.size (Ve.arr f) rfl rfl 45 (Ve.arr fun _ => 0) ?s1 (by rw [Ve.arr_size]; exact info64) (by rw [Ve.arr_size, Ve.arr_size]) (one_arr _) ?_) | (refine wpList_store_row rfl 45 _ _ rfl (w2.heap.size + 1) (Ve.arr g) rfl rfl 45 (Ve.arr fun _ => 0) ?s2 (by rw [Ve.arr_size]; exact info64) (by rw [Ve.arr_size, Ve.arr_size]) (one_arr _) ?_))
  case s1 =>
    rw [← Ve.arr_zero]
    exact (Blk.new w2 _ _).alloc _
  case s2 =>
    rw [← Ve.arr_zero]
    have hb := Blk.new (w2.alloc (.cells (Ve.arr fun _ => 0) 45)) 45 (Ve.arr fun _ => 0)
    rw [show (w2.alloc (.cells (Ve.arr fun _ => 0) 45)).heap.size = w2.heap.size + 1 from by simp] at hb
    exact hb.rowFar (by omega) _
  rw [← Ve.arr_zero]
  have hb := Blk.new (w2.alloc (.cells (Ve.arr fun _ => 0) 45)) 45 (Ve.arr fun _ => 0)
  rw [show (w2.alloc (.cells (Ve.arr fun _ => 0) 45)).heap.size = w2.heap.size + 1 from by simp] at hb
  have B5 := (((Blk.new w2 45 (Ve.arr fun _ => 0)).alloc (.cells (Ve.arr fun _ => 0) 45)).row (Ve.arr f)).rowFar (g' := w2.heap.size + 1) (by omega) (Ve.arr g)
  have B6 := (hb.rowFar (g' := w2.heap.size) (by omega) (Ve.arr f)).row (Ve.arr g)
  have hz := hbx.size
  have b6 := below_setRow (below_setRow (below_new (below_new hbx (.cells (Ve.arr fun _ => 0) 45)) (.cells (Ve.arr fun _ => 0) 45)) (g := w2.heap.size) hz (Ve.arr f)) (g := w2.heap.size + 1) (by omega) (Ve.arr g)
  clear hb
  go_loopw [7] (fun s7 wr => ∃ k : Nat, k ≤ 64 ∧ s7 = .int .i64 (k : Int) ∧ Ve.covTo f g k ∧ Blk wr w2.heap.size 45 (Ve.arr f) ∧ Blk wr (w2.heap.size + 1) 45 (Ve.arr g) ∧ Below w.heap.size w wr) (fun s7 _ => 64 - (intOf s7).toNat)
  case atStart => exact ⟨0, by omega, rfl, fun n hn => by omega, B5, B6, b6⟩
  case round =>
    obtain ⟨k, hk, rfl, hcv, hB5, hB6, hbw⟩ := hrel
    have HCV := Lib.hid hcv
    clear B5 B6 b6 hcv
    by_cases hlt : k < 64
    · have x0 := hB5.arr_cell k hlt
      have y0 := hB6.arr_cell k hlt
      have HB5 := Lib.hid hB5
      have HB6 := Lib.hid hB6
      clear hB5 hB6
      have hi0 : (0 : Int) ≤ (k : Int) := by omega
      have hi1 : (k : Int) < 64 := by omega
      by_cases hgt : f k < g k
      · have hd : decide (f k < g k) = true := decide_eq_true hgt
        have hno := Ve.cov_no k hlt hgt
        have HNO := Lib.hid hno
        clear hno
        go_wp2_with fail
        go_quiet (fail)
        go_wp2
        go_ret
        exact ⟨by rw [HFG.out, HNO.out]; rfl, below_drewN hbw _⟩
      · have hd : decide (f k < g k) = false := decide_eq_false hgt
        have hd2 : g k ≤ f k := by omega
        go_wp2_with fail
        go_quiet (fail)
        go_wp2_with fail
        go_roundw
        case rel =>
          refine ⟨k + 1, by omega, by go_num, ?_, HB5.out.drewN _, HB6.out.drewN _, below_drewN hbw _⟩
          intro n hn
          by_cases e : n = k
          · subst e; exact hd2
          · exact HCV.out n (by omega)
        case measure => simp [intOf]; omega
    · have hk64 : k = 64 := by omega
      subst hk64
      have hyes := (Ve.cov_iff f g).2 HCV.out
      have HY := Lib.hid hyes
      clear hyes hB5 hB6
      go_wp2
      go_ret
      exact ⟨by rw [HFG.out, HY.out]; rfl, hbw⟩

set_option maxHeartbeats 800000 in
theorem rcompare2_any (A B : Option Addr) (c1 c2 : Nat) (l r : List (Int × Int)) (w : World) (hl : l.length ≤ 9223372036854775807) (hr : r.length ≤ 9223372036854775807) (h1 : Stamps w A l) (h2 : Stamps w B r) :
    Calls Try.prog 23 #[.slice A l.length c1, .slice B r.length c2] w fun e w' => e = .returned (.int .i64 (Ve.stand (Ve.cnt l) (Ve.cnt r))) ∧ Below w.heap.size w w' := by
  have H1 := Lib.hid h1
  have H2 := Lib.hid h2
  clear h1 h2
  cases hx : Ve.cov (Ve.cnt l) (Ve.cnt r) <;> cases hy : Ve.cov (Ve.cnt r) (Ve.cnt l)
  all_goals
    have hs := Ve.stand_eq (Ve.cnt l) (Ve.cnt r)
    rw [hx, hy] at hs
    simp only [Bool.false_eq_true, if_true, if_false] at hs
    have HS := Lib.hid hs
    have HX := Lib.hid hx
    have HY := Lib.hid hy
    clear hs hx hy
    go_enter Try.func23, Try.ntmps23
    go_wp2_with fail
    refine (rcovers_any _ _ _ _ _ _ _ hl hr H1.out H2.out).mono ?_
    rintro e w1 ⟨rfl, hb1⟩
    rw [HX.out]
    go_wp2_with fail
    refine (rcovers_any _ _ _ _ _ _ _ hr hl (H2.out.later hb1) (H1.out.later hb1)).mono ?_
    rintro e w2 ⟨rfl, hb2⟩
    rw [HY.out]
    go_wp2
    go_ret
    exact ⟨by rw [HS.out]; rfl, below_on hb1 hb2⟩

set_option maxRecDepth 100000 in
set_option maxHeartbeats 1600000 in
theorem rgreatest_any (A : Option Addr) (c1 : Nat) (l : List (Int × Int)) (w : World) (hl : l.length ≤ 9223372036854775807) (h1 : Stamps w A l) :
    Calls Try.prog 18 #[.slice A l.length c1] w fun e w' => e = .returned (.int .i64 (Ve.top (Ve.cnt l))) ∧ Below w.heap.size w w' := by
  have H1 := Lib.hid h1
  clear h1
  have n1 := fun w h => counts_any A c1 l w hl h
  obtain ⟨f, hf⟩ : ∃ f, Ve.cnt l = f := ⟨_, rfl⟩
  have hfg : Ve.top (Ve.cnt l) = Ve.topTo f 64 := by rw [hf]; rfl
  rw [hf] at n1
  have HFG := Lib.hid hfg
  have N1 := Lib.hid n1
  clear hf hfg n1
  go_enter Try.func18, Try.ntmps18
  go_wp2_with fail
  refine (N1.out _ H1.out).mono ?_
  rintro e w2 ⟨rfl, hb2⟩
  have hbx := below_on (Below.refl _ _) hb2
  clear H1 hl N1 hb2
  go_wp2_with (refine wpList_store_row rfl 45 _ _ rfl w2.heap.size (Ve.arr f) rfl rfl 45 (Ve.arr fun _ => 0) ?s1 (by rw [Ve.arr_size]; exact info64) (by rw [Ve.arr_size, Ve.arr_size]) (one_arr _) ?_)
  case s1 =>
    rw [← Ve.arr_zero]
    exact Blk.new w2 _ _
  rw [← Ve.arr_zero]
  have B5 := (Blk.new w2 45 (Ve.arr fun _ => 0)).row (Ve.arr f)
  have hz := hbx.size
  have b6 := below_setRow (below_new hbx (.cells (Ve.arr fun _ => 0) 45)) (g := w2.heap.size) hz (Ve.arr f)
  go_loopw [4, 5] (fun s4 s5 wr => ∃ k : Nat, k ≤ 64 ∧ s5 = .int .i64 (k : Int) ∧ s4 = .int .i64 (Ve.topTo f k) ∧ Blk wr w2.heap.size 45 (Ve.arr f) ∧ Below w.heap.size w wr) (fun _ s5 _ => 64 - (intOf s5).toNat)
  case atStart => exact ⟨0, by omega, rfl, rfl, B5, b6⟩
  case round =>
    obtain ⟨k, hk, rfl, rfl, hB5, hbw⟩ := hrel
    clear B5 b6
    by_cases hlt : k < 64
    · have x0 := hB5.arr_cell k hlt
      have HB5 := Lib.hid hB5
      clear hB5
      have hi0 : (0 : Int) ≤ (k : Int) := by omega
      have hi1 : (k : Int) < 64 := by omega
      have hst : Ve.topTo f (k + 1) = if Ve.topTo f k < f k then f k else Ve.topTo f k := rfl
      by_cases hgt : Ve.topTo f k < f k
      · rw [if_pos hgt] at hst
        have HST := Lib.hid hst
        clear hst
        go_wp2_with fail
        go_roundw
        case rel => exact ⟨k + 1, by omega, by go_num, by rw [HST.out], HB5.out, hbw⟩
        case measure => simp [intOf]; omega
      · rw [if_neg hgt] at hst
        have hgt2 : f k ≤ Ve.topTo f k := by omega
        have HST := Lib.hid hst
        clear hst
        go_wp2_with fail
        go_roundw
        case rel => exact ⟨k + 1, by omega, by go_num, by rw [HST.out], HB5.out, hbw⟩
        case measure => simp [intOf]; omega
    · have hk64 : k = 64 := by omega
      subst hk64
      clear hB5
      go_wp2
      go_ret
      exact ⟨by rw [HFG.out]; rfl, hbw⟩

/-- One of 64 numbers, by its place. -/
theorem index_arr (f : Nat → Int) (k : Nat) (hk : k < 64) (w : World) : (Instr.index 45 (.agg (Ve.arr f)) (.int .i64 (k : Int))).run Try.prog w = .ok (.int .i64 (f k)) w := by
  have h1 := Ve.arr_get f k hk
  simp [Instr.index, asIntOf, run_underlying Try.underlying45, part, Try.isAgg3, Try.sizeOf3, h1]
  intro h
  exact absurd h (by omega)

/-- The count of any number of a node. -/
def countOf (l : List (Int × Int)) (n : Int) : Int := if 0 ≤ n ∧ n ≤ 63 then Ve.cnt l n.toNat else 0

set_option maxHeartbeats 800000 in
theorem rcount_any (A : Option Addr) (c1 : Nat) (l : List (Int × Int)) (n : Int) (w : World) (hl : l.length ≤ 9223372036854775807) (h1 : Stamps w A l) :
    Calls Try.prog 12 #[.slice A l.length c1, .int .i64 n] w fun e w' => e = .returned (.int .i64 (countOf l n)) ∧ Below w.heap.size w w' := by
  have H1 := Lib.hid h1
  clear h1
  by_cases h0 : n < 0
  · have hc : countOf l n = 0 := by unfold countOf; rw [if_neg (by omega)]
    have HC := Lib.hid hc
    clear hc
    have hd : decide (n < 0) = true := decide_eq_true h0
    go_enter Try.func12, Try.ntmps12
    go_wp2
    go_ret
    exact ⟨by rw [HC.out]; rfl, Below.refl _ _⟩
  · have hd : decide (n < 0) = false := decide_eq_false h0
    by_cases h2 : 63 < n
    · have hc : countOf l n = 0 := by unfold countOf; rw [if_neg (by omega)]
      have HC := Lib.hid hc
      clear hc
      have hd2 : decide (63 < n) = true := decide_eq_true h2
      go_enter Try.func12, Try.ntmps12
      go_wp2
      go_ret
      exact ⟨by rw [HC.out]; rfl, Below.refl _ _⟩
    · obtain ⟨k, rfl⟩ : ∃ k : Nat, n = (k : Int) := ⟨n.toNat, by omega⟩
      have hk : k < 64 := by omega
      have hc : countOf l (k : Int) = Ve.cnt l k := by unfold countOf; rw [if_pos (by omega)]; rfl
      have HC := Lib.hid hc
      have hd2 : decide (63 < (k : Int)) = false := decide_eq_false h2
      have n1 := fun w h => counts_any A c1 l w hl h
      have N1 := Lib.hid n1
      clear hc n1
      have hix := fun w => index_arr (Ve.cnt l) k hk w
      go_enter Try.func12, Try.ntmps12
      go_wp2_with fail
      refine (N1.out _ H1.out).mono ?_
      rintro e w2 ⟨rfl, hb2⟩
      go_wp2
      go_ret
      exact ⟨by rw [HC.out]; rfl, hb2⟩

/-- Is a stamp in a list? -/
def hasOf (l : List (Int × Int)) (c n : Int) : Bool := St.rgt c n && decide (c ≤ countOf l n)

set_option maxHeartbeats 1600000 in
theorem rhas_any (A : Option Addr) (c1 : Nat) (l : List (Int × Int)) (c n : Int) (w : World) (hl : l.length ≤ 9223372036854775807) (h1 : Stamps w A l) :
    Calls Try.prog 14 #[.slice A l.length c1, .agg #[.int .i64 c, .int .i64 n]] w fun e w' => e = .returned (.bool (hasOf l c n)) ∧ Below w.heap.size w w' := by
  have hb0 := below_new (Below.refl w.heap.size w) (.cells #[.int .i64 c, .int .i64 n] 24)
  have hB := Blk.new w 24 #[.int .i64 c, .int .i64 n]
  have h1' := h1.later hb0
  clear h1
  obtain ⟨W, hW⟩ : ∃ W, w.alloc (.cells #[.int .i64 c, .int .i64 n] 24) = W := ⟨_, rfl⟩
  rw [hW] at hb0 hB h1'
  have HW := Lib.hid hW
  clear hW
  have k0 : ∀ d os, (Sort.grow (redrawn W d) os).cell? ⟨w.heap.size, 0, none⟩ = some (.int .i64 c) := cell_regrown (hB.cell rfl)
  have k1 : ∀ d os, (Sort.grow (redrawn W d) os).cell? ⟨w.heap.size, 1, none⟩ = some (.int .i64 n) := cell_regrown (hB.cell rfl)
  clear hB
  cases hr : St.rgt c n
  all_goals
    have hh : hasOf l c n = (St.rgt c n && decide (c ≤ countOf l n)) := rfl
    rw [hr] at hh
    have HH := Lib.hid hh
    have cR : ∀ d os, Calls Try.prog 35 #[.agg #[.int .i64 c, .int .i64 n]] (Sort.grow (redrawn W d) os) fun e w'' => e = .returned (.bool (St.rgt c n)) ∧ ∃ p : Regrown, w'' = Sort.grow (redrawn W p.d) p.os := fun d os => Calls.regrown_of (rright_any c n _)
    have cC : ∀ d os, Calls Try.prog 12 #[.slice A l.length c1, .int .i64 n] (Sort.grow (redrawn W d) os) fun e w'' => e = .returned (.int .i64 (countOf l n)) ∧ ∃ p : Regrown, w'' = Sort.grow (redrawn W p.d) p.os := fun d os => Calls.regrown_of (rcount_any A c1 l n _ hl (h1'.later (below_regrown W d os)))
    rw [hr] at cR
    have CR := Lib.hid cR
    have CC := Lib.hid cC
    clear hh hr cR cC
    go_enter Try.func14, Try.ntmps14
    go_wp2_with fail
    rw [HW.out]
    refine wp_region_quiet_below (by kernel_rfl) (by kernel_rfl) ?_
    repeat (first | go_big_quiet_step (first | exact CR.out _ _ | exact CC.out _ _) | quiet_step (first | exact CR.out _ _ | exact CC.out _ _))
    refine wpQuiet_nil ?_
    intro _ hw'
    obtain ⟨⟨dq, osq⟩, hw''⟩ := hw'
    subst hw''
    go_wp2
    go_ret
    exact ⟨by rw [HH.out]; rfl, below_on hb0 (below_regrown W dq osq)⟩

end Go.Proofs.Ytjdiopoikppifaa
