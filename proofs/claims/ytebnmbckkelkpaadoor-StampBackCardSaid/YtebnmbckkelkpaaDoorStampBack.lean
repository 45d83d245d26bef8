/-
  For every stamp and every text the law StampBack returns true: a stamp that is shown is read again, and a text that is read is shown again. The card ties tables and the two errors of Go's library (math/bits, internal/strconv, strconv) to the program's text.
-/
import Derived.Test.YtebnmbckkelkpaaDoorRows
import Derived.Test.YtebnmbckkelkpaaDoorCards
import Derived.Test.YtebnmbckkelkpaaDoorTie
import Derived.Test.YtebnmbckkelkpaaDoorLaw
import Derived.Test.YtebnmbckkelkpaaDoorParseCalls
import Derived.Lib.LaidTab
import Derived.LaidMore
import Derived.SizedLaws
import Derived.Handed
import Derived.SevenTiedAt
import Derived.Stop.LaidErr
namespace Go.Proofs.YtebnmbckkelkpaaDoor.stampBack
open Go.ChangeShapes Go.WideShapes Go.ChangeAt Go.RowKit
open Go.ChangeMaps (open_string)

theorem parse_shown (c n : Int) (w : World) (hr : St.rgt c n = true) (hc : c ≤ 9223372036854775807) (ht : Tens w) (he : Errs w) :
    Calls Tryd.prog 8 #[.string ⟨(showB c n).toArray⟩] w fun e w' => e = .returned (.tuple #[.agg #[.int .i64 c, .int .i64 n], .int .i64 0]) ∧ Below w.heap.size w w' := by
  have hrr := (rgt_iff c n).1 hr
  have l1 := digits_le c hc
  have l2 := digits_le n (by omega)
  have hz : (⟨(showB c n).toArray⟩ : ByteArray).size ≤ 140737488355328 := by
    show (showB c n).toArray.size ≤ _
    unfold showB
    simp
    omega
  exact (parse_any ⟨(showB c n).toArray⟩ w hz ht he).mono fun _ _ h => ⟨h.1 c n (Num.parse_show hr hc), h.2.2⟩

theorem parse_yes (s : ByteArray) (c n : Int) (w : World) (hp : Num.parseOf s.data.toList = some (c, n)) (hm : s.size ≤ 140737488355328) (ht : Tens w) (he : Errs w) :
    Calls Tryd.prog 8 #[.string s] w fun e w' => e = .returned (.tuple #[.agg #[.int .i64 c, .int .i64 n], .int .i64 0]) ∧ Below w.heap.size w w' :=
  (parse_any s w hm ht he).mono fun _ _ h => ⟨h.1 c n hp, h.2.2⟩
theorem parse_no (s : ByteArray) (w : World) (hp : Num.parseOf s.data.toList = none) (hm : s.size ≤ 140737488355328) (ht : Tens w) (he : Errs w) :
    Calls Tryd.prog 8 #[.string s] w fun e w' => e = .returned (.tuple #[.agg #[.int .i64 0, .int .i64 0], .int .i64 17]) ∧ Below w.heap.size w w' :=
  (parse_any s w hm ht he).mono fun _ _ h => ⟨h.2.1 hp, h.2.2⟩

set_option maxHeartbeats 1600000 in
theorem walk_yes_yes (c n : Int) (s : ByteArray) (w : World) (hc : c ≤ 9223372036854775807) (hm : s.size ≤ 140737488355328) (ht : Tens w) (he : Errs w) (hr : St.rgt c n = true) (c' n' : Int) (hp : Num.parseOf s.data.toList = some (c', n')) :
    Calls Tryd.prog 5 #[.agg #[.int .i64 c, .int .i64 n], .string s] w fun e w' => e = .returned (.bool true) ∧ Below w.heap.size w w' := by
  have HR := Lib.hid hr
  have HP := Lib.hid hp
  clear hr hp
  have HT := Lib.hid ht
  have HE := Lib.hid he
  clear ht he
  have b0 := below_new (Below.refl w.heap.size w) (.cells #[.int .i64 c, .int .i64 n] 23)
  have HB0 := Lib.hid (Blk.new w 23 #[.int .i64 c, .int .i64 n])
  have hq := Num.parse_text HP.out
  have hcq : c' ≤ 9223372036854775807 := hq.2.1
  have HRQ := Lib.hid hq.1
  have hte : (showB c' n' == s.toList) = true := by rw [Lib.toList_data, ← hq.2.2]; exact beq_self_eq_true _
  clear hq
  go_enter Tryd.func5, Tryd.ntmps5
  go_wp2_with fail
  refine (show_yes _ _ _ HR.out hc (HT.out.later b0)).mono ?_
  rintro e w1 ⟨rfl, hb1⟩
  have b1 := below_on b0 hb1
  have B1 := Lib.hid (HB0.out.later hb1)
  have k0 : w1.cell? ⟨w.heap.size, 0, none⟩ = some (.int .i64 c) := B1.out.cell rfl
  have k1 : w1.cell? ⟨w.heap.size, 1, none⟩ = some (.int .i64 n) := B1.out.cell rfl
  go_wp2_with fail
  refine (right_any _ _ _).mono ?_
  rintro e w2 ⟨rfl, hb2⟩
  rw [HR.out]
  have b2 := below_on b1 hb2
  have B2 := Lib.hid (B1.out.later hb2)
  clear k0 k1
  go_wp2_with fail
  refine (parse_shown _ _ _ HR.out hc (HT.out.later b2) (HE.out.later b2)).mono ?_
  rintro e w3 ⟨rfl, hb3⟩
  have b3 := below_new (below_on b2 hb3) (.cells #[.int .i64 c, .int .i64 n] 23)
  have B3 := Lib.hid (B2.out.later hb3)
  have m0 : w3.cell? ⟨w.heap.size, 0, none⟩ = some (.int .i64 c) := B3.out.cell rfl
  have m1 : w3.cell? ⟨w.heap.size, 1, none⟩ = some (.int .i64 n) := B3.out.cell rfl
  have z3 := B3.out.lt
  go_wp2_with fail
  refine (parse_yes s c' n' _ HP.out hm (HT.out.later b3) (HE.out.later b3)).mono ?_
  rintro e w4 ⟨rfl, hb4⟩
  have b4 := below_new (below_on b3 hb4) (.cells #[.int .i64 c', .int .i64 n'] 23)
  have B4 := Lib.hid (Blk.new w4 23 #[.int .i64 c', .int .i64 n'])
  go_wp2_with fail
  refine (show_yes _ _ _ HRQ.out hcq (HT.out.later b4)).mono ?_
  rintro e w5 ⟨rfl, hb5⟩
  have b5 := below_on b4 hb5
  have B5 := Lib.hid (B4.out.later hb5)
  have q0 : w5.cell? ⟨w4.heap.size, 0, none⟩ = some (.int .i64 c') := B5.out.cell rfl
  have q1 : w5.cell? ⟨w4.heap.size, 1, none⟩ = some (.int .i64 n') := B5.out.cell rfl
  go_wp2_with fail
  refine (right_any _ _ _).mono ?_
  rintro e w6 ⟨rfl, hb6⟩
  rw [HRQ.out]
  have b6 := below_on b5 hb6
  go_wp2
  go_ret
  exact ⟨rfl, b6⟩

set_option maxHeartbeats 1600000 in
theorem walk_yes_no (c n : Int) (s : ByteArray) (w : World) (hc : c ≤ 9223372036854775807) (hm : s.size ≤ 140737488355328) (ht : Tens w) (he : Errs w) (hr : St.rgt c n = true) (hp : Num.parseOf s.data.toList = none) :
    Calls Tryd.prog 5 #[.agg #[.int .i64 c, .int .i64 n], .string s] w fun e w' => e = .returned (.bool true) ∧ Below w.heap.size w w' := by
  have HR := Lib.hid hr
  have HP := Lib.hid hp
  clear hr hp
  have HT := Lib.hid ht
  have HE := Lib.hid he
  clear ht he
  have b0 := below_new (Below.refl w.heap.size w) (.cells #[.int .i64 c, .int .i64 n] 23)
  have HB0 := Lib.hid (Blk.new w 23 #[.int .i64 c, .int .i64 n])
  go_enter Tryd.func5, Tryd.ntmps5
  go_wp2_with fail
  refine (show_yes _ _ _ HR.out hc (HT.out.later b0)).mono ?_
  rintro e w1 ⟨rfl, hb1⟩
  have b1 := below_on b0 hb1
  have B1 := Lib.hid (HB0.out.later hb1)
  have k0 : w1.cell? ⟨w.heap.size, 0, none⟩ = some (.int .i64 c) := B1.out.cell rfl
  have k1 : w1.cell? ⟨w.heap.size, 1, none⟩ = some (.int .i64 n) := B1.out.cell rfl
  go_wp2_with fail
  refine (right_any _ _ _).mono ?_
  rintro e w2 ⟨rfl, hb2⟩
  rw [HR.out]
  have b2 := below_on b1 hb2
  have B2 := Lib.hid (B1.out.later hb2)
  clear k0 k1
  go_wp2_with fail
  refine (parse_shown _ _ _ HR.out hc (HT.out.later b2) (HE.out.later b2)).mono ?_
  rintro e w3 ⟨rfl, hb3⟩
  have b3 := below_new (below_on b2 hb3) (.cells #[.int .i64 c, .int .i64 n] 23)
  have B3 := Lib.hid (B2.out.later hb3)
  have m0 : w3.cell? ⟨w.heap.size, 0, none⟩ = some (.int .i64 c) := B3.out.cell rfl
  have m1 : w3.cell? ⟨w.heap.size, 1, none⟩ = some (.int .i64 n) := B3.out.cell rfl
  have z3 := B3.out.lt
  go_wp2_with fail
  refine (parse_no s _ HP.out hm (HT.out.later b3) (HE.out.later b3)).mono ?_
  rintro e w4 ⟨rfl, hb4⟩
  have b4 := below_new (below_on b3 hb4) (.cells #[.int .i64 0, .int .i64 0] 23)
  go_wp2_with fail
  refine (right_any _ _ _).mono ?_
  rintro e w6 ⟨rfl, hb6⟩
  rw [show St.rgt 1 63 = true from by decide]
  have b6 := below_on b4 hb6
  go_wp2
  go_ret
  exact ⟨rfl, b6⟩

set_option maxHeartbeats 1600000 in
theorem walk_no_yes (c n : Int) (s : ByteArray) (w : World) (_hc : c ≤ 9223372036854775807) (hm : s.size ≤ 140737488355328) (ht : Tens w) (he : Errs w) (hr : St.rgt c n = false) (c' n' : Int) (hp : Num.parseOf s.data.toList = some (c', n')) :
    Calls Tryd.prog 5 #[.agg #[.int .i64 c, .int .i64 n], .string s] w fun e w' => e = .returned (.bool true) ∧ Below w.heap.size w w' := by
  have HR := Lib.hid hr
  have HP := Lib.hid hp
  clear hr hp
  have HT := Lib.hid ht
  have HE := Lib.hid he
  clear ht he
  have b0 := below_new (Below.refl w.heap.size w) (.cells #[.int .i64 c, .int .i64 n] 23)
  have HB0 := Lib.hid (Blk.new w 23 #[.int .i64 c, .int .i64 n])
  have hq := Num.parse_text HP.out
  have hcq : c' ≤ 9223372036854775807 := hq.2.1
  have HRQ := Lib.hid hq.1
  have hte : (showB c' n' == s.toList) = true := by rw [Lib.toList_data, ← hq.2.2]; exact beq_self_eq_true _
  clear hq
  go_enter Tryd.func5, Tryd.ntmps5
  go_wp2_with fail
  refine (show_no _ _ _ HR.out).mono ?_
  rintro e w1 ⟨rfl, hb1⟩
  have b1 := below_on b0 hb1
  have B1 := Lib.hid (HB0.out.later hb1)
  have k0 : w1.cell? ⟨w.heap.size, 0, none⟩ = some (.int .i64 c) := B1.out.cell rfl
  have k1 : w1.cell? ⟨w.heap.size, 1, none⟩ = some (.int .i64 n) := B1.out.cell rfl
  go_wp2_with fail
  refine (right_any _ _ _).mono ?_
  rintro e w2 ⟨rfl, hb2⟩
  rw [HR.out]
  have b2 := below_on b1 hb2
  have B2 := Lib.hid (B1.out.later hb2)
  clear k0 k1
  go_wp2_with fail
  refine (parse_yes s c' n' _ HP.out hm (HT.out.later b2) (HE.out.later b2)).mono ?_
  rintro e w4 ⟨rfl, hb4⟩
  have b4 := below_new (below_on b2 hb4) (.cells #[.int .i64 c', .int .i64 n'] 23)
  have B4 := Lib.hid (Blk.new w4 23 #[.int .i64 c', .int .i64 n'])
  go_wp2_with fail
  refine (show_yes _ _ _ HRQ.out hcq (HT.out.later b4)).mono ?_
  rintro e w5 ⟨rfl, hb5⟩
  have b5 := below_on b4 hb5
  have B5 := Lib.hid (B4.out.later hb5)
  have q0 : w5.cell? ⟨w4.heap.size, 0, none⟩ = some (.int .i64 c') := B5.out.cell rfl
  have q1 : w5.cell? ⟨w4.heap.size, 1, none⟩ = some (.int .i64 n') := B5.out.cell rfl
  go_wp2_with fail
  refine (right_any _ _ _).mono ?_
  rintro e w6 ⟨rfl, hb6⟩
  rw [HRQ.out]
  have b6 := below_on b5 hb6
  go_wp2
  go_ret
  exact ⟨rfl, b6⟩

set_option maxHeartbeats 1600000 in
theorem walk_no_no (c n : Int) (s : ByteArray) (w : World) (_hc : c ≤ 9223372036854775807) (hm : s.size ≤ 140737488355328) (ht : Tens w) (he : Errs w) (hr : St.rgt c n = false) (hp : Num.parseOf s.data.toList = none) :
    Calls Tryd.prog 5 #[.agg #[.int .i64 c, .int .i64 n], .string s] w fun e w' => e = .returned (.bool true) ∧ Below w.heap.size w w' := by
  have HR := Lib.hid hr
  have HP := Lib.hid hp
  clear hr hp
  have HT := Lib.hid ht
  have HE := Lib.hid he
  clear ht he
  have b0 := below_new (Below.refl w.heap.size w) (.cells #[.int .i64 c, .int .i64 n] 23)
  have HB0 := Lib.hid (Blk.new w 23 #[.int .i64 c, .int .i64 n])
  go_enter Tryd.func5, Tryd.ntmps5
  go_wp2_with fail
  refine (show_no _ _ _ HR.out).mono ?_
  rintro e w1 ⟨rfl, hb1⟩
  have b1 := below_on b0 hb1
  have B1 := Lib.hid (HB0.out.later hb1)
  have k0 : w1.cell? ⟨w.heap.size, 0, none⟩ = some (.int .i64 c) := B1.out.cell rfl
  have k1 : w1.cell? ⟨w.heap.size, 1, none⟩ = some (.int .i64 n) := B1.out.cell rfl
  go_wp2_with fail
  refine (right_any _ _ _).mono ?_
  rintro e w2 ⟨rfl, hb2⟩
  rw [HR.out]
  have b2 := below_on b1 hb2
  have B2 := Lib.hid (B1.out.later hb2)
  clear k0 k1
  go_wp2_with fail
  refine (parse_no s _ HP.out hm (HT.out.later b2) (HE.out.later b2)).mono ?_
  rintro e w4 ⟨rfl, hb4⟩
  have b4 := below_new (below_on b2 hb4) (.cells #[.int .i64 0, .int .i64 0] 23)
  go_wp2_with fail
  refine (right_any _ _ _).mono ?_
  rintro e w6 ⟨rfl, hb6⟩
  rw [show St.rgt 1 63 = true from by decide]
  have b6 := below_on b4 hb6
  go_wp2
  go_ret
  exact ⟨rfl, b6⟩

theorem walk (c n : Int) (s : ByteArray) (w : World) (hc : c ≤ 9223372036854775807) (hm : s.size ≤ 140737488355328) (ht : Tens w) (he : Errs w) :
    Calls Tryd.prog 5 #[.agg #[.int .i64 c, .int .i64 n], .string s] w fun e w' => e = .returned (.bool true) ∧ Below w.heap.size w w' := by
  cases hr : St.rgt c n with
  | true =>
    cases hp : Num.parseOf s.data.toList with
    | none => exact walk_yes_no c n s w hc hm ht he hr hp
    | some q => exact walk_yes_yes c n s w hc hm ht he hr q.1 q.2 hp
  | false =>
    cases hp : Num.parseOf s.data.toList with
    | none => exact walk_no_no c n s w hc hm ht he hr hp
    | some q => exact walk_no_yes c n s w hc hm ht he hr q.1 q.2 hp

theorem cells : Tryd.prog.cellsOf 23 = 2 := by kernel_rfl
theorem own : ownKnob Tryd.prog.godebug = none := by kernel_rfl
theorem laidOut : laidOutB Tryd.prog = true := by kernel_rfl
theorem reads : ∀ t ∈ Tryd.f5.params.toList, Tryd.prog.readableRec t = true ∧ t < Tryd.prog.types.size := by
  intro t ht
  rw [Tryd.params5] at ht
  have : t = 23 ∨ t = 9 := by simpa using ht
  rcases this with rfl | rfl <;> exact ⟨by kernel_rfl, of_decide_eq_true (by kernel_rfl)⟩

/-- The heap that the program's own initialisers leave meets the row's condition. -/
theorem door_met (os : Os) (args : Array Value) : laidMetH Tryd.prog Rows.stampBackRow.laid ((World.doorLaid Tryd.prog 400 os).forCall (fun _ _ => 0) ⟨#[], args, []⟩).memory :=
  laidMetH_of_parts3 (fuel := 8) (laidMet_of_run' 8 (by kernel_rfl) (by kernel_rfl)) (by kernel_rfl) (by kernel_rfl)

theorem tens_type : (Tryd.prog.globals[3]?).map (·.type) = some 68 := by kernel_rfl
theorem tens_data : (Rows.laid_internal_strconv_uint64pow10 : DataW Unit) = Lib.tabData .u64 Lib.pow10Tab := by rfl
theorem syn_type : (Tryd.prog.globals[1]?).map (·.type) = some 36 := by kernel_rfl
theorem rng_type : (Tryd.prog.globals[2]?).map (·.type) = some 36 := by kernel_rfl
theorem cells_e : Tryd.prog.cellsOf 78 = 1 := by kernel_rfl
theorem cells_s : Tryd.prog.cellsOf 9 = 1 := by kernel_rfl
theorem star : "*" ++ "errors.errorString" = "*errors.errorString" := by decide
theorem row_e (u : TypeId) (h : Tryd.prog.typeName? 3 u = some "*errors.errorString") : u = 76 :=
  typeName_ptr_named (nm := "errors.errorString") (by rw [star]; kernel_rfl) (by kernel_rfl) (by decide) u (by rw [star]; exact h)

/-- What the row's condition gives the walk: the powers of ten, the two errors. -/
theorem of_laid {W : World} (h : laidMetH Tryd.prog Rows.stampBackRow.laid W) : Tens W ∧ Errs W := by
  rw [MakeChecks.laidMetH_plain _ _ _ (by kernel_rfl)] at h
  have h2 : laidMet Tryd.prog [("internal/strconv.uint64pow10", Rows.laid_internal_strconv_uint64pow10), ("strconv.ErrRange", Rows.laid_strconv_ErrRange), ("strconv.ErrSyntax", Rows.laid_strconv_ErrSyntax)] W := laidMet.tail (laidMet.tail h)
  have h3 := laidMet.tail h2
  have h4 := laidMet.tail h3
  rw [tens_data] at h2
  obtain ⟨a0, s0, hv0, -, -, -⟩ := laid_sentinel h3 rng_global rng_type Tryd.underlying36 row_e Tryd.underlying76 Tryd.underlying78 rfl rfl Tryd.underlying9 cells_e cells_s
  obtain ⟨a1, s1, hv1, -, -, -⟩ := laid_sentinel h4 syn_global syn_type Tryd.underlying36 row_e Tryd.underlying76 Tryd.underlying78 rfl rfl Tryd.underlying9 cells_e cells_s
  exact ⟨Lib.tabIs_of_head tens_global tens_type Tryd.underlying68 Tryd.underlying44 (by kernel_rfl) (by kernel_rfl) h2, ⟨_, _, hv1⟩, ⟨_, _, hv0⟩⟩

set_option maxRecDepth 100000 in
theorem lifted (os : Os) (started : os.Started) (H : Type) (enc : TypeId × Value → H) :
    ReturnsInHanded {} Tryd.checked os 5 .any (fun w args => (Rows.stampBackSpec.pre enc Tryd.prog Tryd.f5 [] false w args ∧ laidMetH Tryd.prog Rows.stampBackRow.laid w) ∧ sizedMet enc Tryd.prog Tryd.f5 (OpenSpec.ofChange Rows.stampBackSpec) false w args)
      (Rows.stampBackSpec.post enc Tryd.prog Tryd.f5 false true false false) := by
  refine returnsInHanded_of_change_and (C := Tryd.checked) (X := fun w _ => laidMetH Tryd.prog Rows.stampBackRow.laid w) (fun _ _ _ hh h => h.of_heap hh) own started (by kernel_rfl) Tryd.func5
    (ChangeSpec.witness_shaped (enc := enc) (C := Tryd.checked) (os := os) (X := fun w _ => laidMetH Tryd.prog Rows.stampBackRow.laid w) false (World.doorLaid Tryd.prog 400 os) #[.agg #[.int .i64 0, .int .i64 0], .string ⟨#[]⟩] 8 rfl (World.shaped_of_RefB (by kernel_rfl) (by kernel_rfl)) (by kernel_rfl) (by kernel_rfl) (by kernel_rfl) (door_met os _)) ?_
  intro W base args ds gs before hval0 hW _ hsz0 hL _
  have hval : ∀ (j : Nat) t v, Tryd.f5.params[j]? = some t → args[j]? = some v → Value.okWide Tryd.prog W .any base t v := hval0
  have hsz : (DataW.weightsEach Tryd.prog (Tryd.f5.params.toList ++ Rows.stampBackSpec.plain.varTypes Tryd.prog) (ds ++ gs)).all (· ≤ reachBytes) = true := hsz0
  have hW' := hW
  obtain ⟨p, q, hA0, hV, rfl, hfz, hnd⟩ := hW
  have hA : DataW.TrodAll enc Tryd.prog W 0 (fun _ => true) true Tryd.f5.params.toList args.toList ds p := hA0
  rw [Tryd.params5] at hA hval hsz
  obtain ⟨v0, vs0, d0, ds0, p0, q0, hargs, rfl, rfl, h0, r0⟩ := trodAll_cons hA
  obtain ⟨v1, vs1, d1, ds1, p1, q1, rfl, rfl, rfl, h1, r1⟩ := trodAll_cons r0
  obtain ⟨rfl, rfl, rfl⟩ := trodAll_nil r1
  obtain rfl : args = #[v0, v1] := by cases args; simp_all
  obtain ⟨rfl, rfl⟩ := trodVars_none hV
  obtain ⟨c, n, rfl, _, hc, _, _⟩ := open_stamp Tryd.underlying23 (by kernel_rfl) cells rfl rfl Tryd.underlying3 (hval 0 23 v0 rfl rfl) h0
  obtain ⟨s, rfl, rfl, rfl, _⟩ := open_string Tryd.underlying9 (hval 1 9 v1 rfl rfl) h1
  have hlim : s.size ≤ 140737488355328 := by
    have hs1 := sized_string hsz (j := 1) (t := 9) rfl rfl
    have e1 : s.size = s.data.size := rfl
    have e2 : s.data.toList.length = s.data.size := Array.length_toList
    simp only [reachBytes] at hs1
    omega
  clear hA0 hval0 hsz hsz0
  refine (walk c n s W hc hlim (of_laid hL).1 (of_laid hL).2).mono fun e W' ⟨he, hg⟩ => ?_
  subst he
  exact ⟨_, rfl, law_post laidOut hW' rfl rfl (by kernel_rfl) Tryd.underlying4 reads hg⟩

theorem over : Rows.stampBackRow.holds Tryd.pinned (OpenSpec.ofChange Rows.stampBackSpec) :=
  OpenClaim.holds_of_wide 5 Tryd.f5 rfl rfl rfl rfl rfl rfl rfl ⟨rfl, rfl, rfl, rfl, rfl⟩ rfl rfl rfl rfl rfl (by kernel_rfl) Tryd.func5 (by kernel_rfl)
    (of_decide_eq_true (by kernel_rfl)) (by unfold Func.isWrapper; first | (rw [if_pos (by decide +kernel)]; kernel_rfl) | (rw [if_neg (by decide +kernel)]; exact ⟨rfl, rfl⟩))
    (fun os started H enc _ => lifted os started H enc)

/-- The statement: the card. -/
theorem proved : Rows.StampBackCardSaid :=
  Claim7.holds_tied_plain_at .later [] Rows.stampBackCard.laidKinds true Rows.stampBackCard.stood.harness true
    over (fun _ h => by cases h) (by kernel_rfl) (fun _ h => by cases h) stampBack_row_tie rfl ⟨rfl, rfl⟩ (by kernel_rfl) rfl
    (fun f fn hf hfn => by
      obtain rfl : f = 5 := Option.some.inj ((show Tryd.prog.funcNamed "telltale/telltalelaw01.StampBack" = some 5 by kernel_rfl).symm.trans hf) |>.symm
      obtain rfl : fn = Tryd.f5 := (Option.some.inj (Tryd.func5.symm.trans hfn)).symm
      exact ⟨by kernel_rfl, fun j t ht => by
        rw [Tryd.params5] at ht
        have hm : t ∈ [23, 9] := by simpa using Array.mem_of_getElem? ht
        have hall : ([23, 9].all fun u => !Tryd.prog.wantsStandIn u) = true := by kernel_rfl
        exact (show Tryd.prog.wantsStandIn t = false by simpa using List.all_eq_true.1 hall t hm)⟩)
    (by kernel_rfl)

end Go.Proofs.YtebnmbckkelkpaaDoor.stampBack
