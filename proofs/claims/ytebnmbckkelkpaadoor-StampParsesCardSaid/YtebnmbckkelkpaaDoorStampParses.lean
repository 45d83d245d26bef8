/-
  For every text the law StampParses returns true: Parse answers the right stamp of that text as the document says, or refuses. The card ties tables and the two errors of Go's library (math/bits, internal/strconv, strconv) to the program's text.
-/
import Derived.Test.YtebnmbckkelkpaaDoorRows
import Derived.Test.YtebnmbckkelkpaaDoorCards
import Derived.Test.YtebnmbckkelkpaaDoorTie
import Derived.Test.YtebnmbckkelkpaaDoorLaw
import Derived.Test.YtebnmbckkelkpaaDoorParseCalls
import Derived.Lib.LaidTab
import Derived.LaidMore
import Derived.SizedLaws
import Derived.Handed
import Derived.SevenTiedAt
import Derived.Stop.LaidErr
namespace Go.Proofs.YtebnmbckkelkpaaDoor.stampParses
open Go.ChangeShapes Go.WideShapes Go.ChangeAt Go.RowKit
open Go.ChangeMaps (open_string)

theorem parse_ten (w : World) (ht : Tens w) (he : Errs w) :
    Calls Tryd.prog 8 #[.string ⟨#[49, 48, 64, 48]⟩] w fun e w' => e = .returned (.tuple #[.agg #[.int .i64 10, .int .i64 0], .int .i64 0]) ∧ Below w.heap.size w w' :=
  (parse_any ⟨#[49, 48, 64, 48]⟩ w (by decide) ht he).mono fun _ _ h => ⟨h.1 10 0 Num.ten_parse, h.2.2⟩

/-- What Parse answers of a text, as numbers. -/
def ansC (l : List UInt8) : Int := match Num.parseOf l with | some (c, _) => c | none => 0
def ansN (l : List UInt8) : Int := match Num.parseOf l with | some (_, n) => n | none => 0
def ansE (l : List UInt8) : Int := match Num.parseOf l with | some _ => 0 | none => 17
theorem ans_of {l : List UInt8} {w w' : World} {e : Ending} (h : ParsePost l w e w') : e = .returned (.tuple #[.agg #[.int .i64 (ansC l), .int .i64 (ansN l)], .int .i64 (ansE l)]) ∧ Below w.heap.size w w' := by
  refine ⟨?_, h.2.2⟩
  unfold ansC ansN ansE
  cases hp : Num.parseOf l with
  | none => exact h.2.1 hp
  | some q => exact h.1 q.1 q.2 hp

set_option maxHeartbeats 800000 in
theorem walk (s : ByteArray) (w : World) (hm : s.size ≤ 140737488355328) (ht : Tens w) (he : Errs w) :
    Calls Tryd.prog 4 #[.string s] w fun e w' => e = .returned (.bool true) ∧ Below w.heap.size w w' := by
  have c1 := fun w ht he => (parse_any s w hm ht he).mono fun _ _ h => ans_of h
  have c2 := fun w => (rparse_any s w (by omega)).mono fun _ _ h => ans_of h
  have C1 := Lib.hid c1
  have C2 := Lib.hid c2
  have HT := Lib.hid ht
  have HE := Lib.hid he
  clear c1 c2 ht he
  generalize ansC s.data.toList = c at C1 C2
  generalize ansN s.data.toList = n at C1 C2
  generalize ansE s.data.toList = x at C1 C2
  go_enter Tryd.func4, Tryd.ntmps4
  go_wp2_with fail
  refine (C1.out _ HT.out HE.out).mono ?_
  rintro e w1 ⟨rfl, hb1⟩
  have hbx := below_on (Below.refl _ _) hb1
  have hB1 := Blk.new w1 23 #[.int .i64 c, .int .i64 n]
  have hby := below_new hbx (.cells #[.int .i64 c, .int .i64 n] 23)
  have HB1 := Lib.hid hB1
  clear hB1
  go_wp2_with fail
  refine (C2.out _).mono ?_
  rintro e w2 ⟨rfl, hb2⟩
  have hB2 := HB1.out.later hb2
  have hbz := below_on hby hb2
  have hB3 := hB2.alloc (.cells #[.int .i64 c, .int .i64 n] 23)
  have hC3 := Blk.new w2 23 #[.int .i64 c, .int .i64 n]
  have hbv := below_new hbz (.cells #[.int .i64 c, .int .i64 n] 23)
  have HB3 := Lib.hid hB3
  have HC3 := Lib.hid hC3
  have HBV := Lib.hid hbv
  clear hB3 hC3 hB2 hbv
  go_wp2_with fail
  refine (parse_ten _ (HT.out.later HBV.out) (HE.out.later HBV.out)).mono ?_
  rintro e w3 ⟨rfl, hb3⟩
  have hB4 := HB3.out.later hb3
  have hC4 := HC3.out.later hb3
  have z1 := hB4.lt
  have z2 := hC4.lt
  have k0 : w3.cell? ⟨w1.heap.size, 0, none⟩ = some (.int .i64 c) := hB4.cell rfl
  have k1 : w3.cell? ⟨w1.heap.size, 1, none⟩ = some (.int .i64 n) := hB4.cell rfl
  have m0 : w3.cell? ⟨w2.heap.size, 0, none⟩ = some (.int .i64 c) := hC4.cell rfl
  have m1 : w3.cell? ⟨w2.heap.size, 1, none⟩ = some (.int .i64 n) := hC4.cell rfl
  have hfin := below_on HBV.out hb3
  clear hB4 hC4
  go_wp2
  go_ret
  exact ⟨rfl, below_new hfin _⟩

theorem own : ownKnob Tryd.prog.godebug = none := by kernel_rfl
theorem laidOut : laidOutB Tryd.prog = true := by kernel_rfl
theorem reads : ∀ t ∈ Tryd.f4.params.toList, Tryd.prog.readableRec t = true ∧ t < Tryd.prog.types.size := by
  intro t ht
  rw [Tryd.params4] at ht
  obtain rfl : t = 9 := by simpa using ht
  exact ⟨by kernel_rfl, of_decide_eq_true (by kernel_rfl)⟩

/-- The heap that the program's own initialisers leave meets the row's condition. -/
theorem door_met (os : Os) (args : Array Value) : laidMetH Tryd.prog Rows.stampParsesRow.laid ((World.doorLaid Tryd.prog 400 os).forCall (fun _ _ => 0) ⟨#[], args, []⟩).memory :=
  laidMetH_of_parts3 (fuel := 8) (laidMet_of_run' 8 (by kernel_rfl) (by kernel_rfl)) (by kernel_rfl) (by kernel_rfl)

theorem tens_type : (Tryd.prog.globals[3]?).map (·.type) = some 68 := by kernel_rfl
theorem tens_data : (Rows.laid_internal_strconv_uint64pow10 : DataW Unit) = Lib.tabData .u64 Lib.pow10Tab := by rfl
theorem syn_type : (Tryd.prog.globals[1]?).map (·.type) = some 36 := by kernel_rfl
theorem rng_type : (Tryd.prog.globals[2]?).map (·.type) = some 36 := by kernel_rfl
theorem cells_e : Tryd.prog.cellsOf 78 = 1 := by kernel_rfl
theorem cells_s : Tryd.prog.cellsOf 9 = 1 := by kernel_rfl
theorem star : "*" ++ "errors.errorString" = "*errors.errorString" := by decide
theorem row_e (u : TypeId) (h : Tryd.prog.typeName? 3 u = some "*errors.errorString") : u = 76 :=
  typeName_ptr_named (nm := "errors.errorString") (by rw [star]; kernel_rfl) (by kernel_rfl) (by decide) u (by rw [star]; exact h)

/-- What the row's condition gives the walk: the powers of ten, the two errors. -/
theorem of_laid {W : World} (h : laidMetH Tryd.prog Rows.stampParsesRow.laid W) : Tens W ∧ Errs W := by
  rw [MakeChecks.laidMetH_plain _ _ _ (by kernel_rfl)] at h
  have h2 : laidMet Tryd.prog [("internal/strconv.uint64pow10", Rows.laid_internal_strconv_uint64pow10), ("strconv.ErrRange", Rows.laid_strconv_ErrRange), ("strconv.ErrSyntax", Rows.laid_strconv_ErrSyntax)] W := laidMet.tail (laidMet.tail h)
  have h3 := laidMet.tail h2
  have h4 := laidMet.tail h3
  rw [tens_data] at h2
  obtain ⟨a0, s0, hv0, -, -, -⟩ := laid_sentinel h3 rng_global rng_type Tryd.underlying36 row_e Tryd.underlying76 Tryd.underlying78 rfl rfl Tryd.underlying9 cells_e cells_s
  obtain ⟨a1, s1, hv1, -, -, -⟩ := laid_sentinel h4 syn_global syn_type Tryd.underlying36 row_e Tryd.underlying76 Tryd.underlying78 rfl rfl Tryd.underlying9 cells_e cells_s
  exact ⟨Lib.tabIs_of_head tens_global tens_type Tryd.underlying68 Tryd.underlying44 (by kernel_rfl) (by kernel_rfl) h2, ⟨_, _, hv1⟩, ⟨_, _, hv0⟩⟩

set_option maxRecDepth 100000 in
theorem lifted (os : Os) (started : os.Started) (H : Type) (enc : TypeId × Value → H) :
    ReturnsInHanded {} Tryd.checked os 4 .any (fun w args => (Rows.stampParsesSpec.pre enc Tryd.prog Tryd.f4 [] false w args ∧ laidMetH Tryd.prog Rows.stampParsesRow.laid w) ∧ sizedMet enc Tryd.prog Tryd.f4 (OpenSpec.ofChange Rows.stampParsesSpec) false w args)
      (Rows.stampParsesSpec.post enc Tryd.prog Tryd.f4 false true false false) := by
  refine returnsInHanded_of_change_and (C := Tryd.checked) (X := fun w _ => laidMetH Tryd.prog Rows.stampParsesRow.laid w) (fun _ _ _ hh h => h.of_heap hh) own started (by kernel_rfl) Tryd.func4
    (ChangeSpec.witness_shaped (enc := enc) (C := Tryd.checked) (os := os) (X := fun w _ => laidMetH Tryd.prog Rows.stampParsesRow.laid w) false (World.doorLaid Tryd.prog 400 os) #[.string ⟨#[]⟩] 8 rfl (World.shaped_of_RefB (by kernel_rfl) (by kernel_rfl)) (by kernel_rfl) (by kernel_rfl) (by kernel_rfl) (door_met os _)) ?_
  intro W base args ds gs before hval0 hW _ hsz0 hL _
  have hval : ∀ (j : Nat) t v, Tryd.f4.params[j]? = some t → args[j]? = some v → Value.okWide Tryd.prog W .any base t v := hval0
  have hsz : (DataW.weightsEach Tryd.prog (Tryd.f4.params.toList ++ Rows.stampParsesSpec.plain.varTypes Tryd.prog) (ds ++ gs)).all (· ≤ reachBytes) = true := hsz0
  have hW' := hW
  obtain ⟨p, q, hA0, hV, rfl, hfz, hnd⟩ := hW
  have hA : DataW.TrodAll enc Tryd.prog W 0 (fun _ => true) true Tryd.f4.params.toList args.toList ds p := hA0
  rw [Tryd.params4] at hA hval hsz
  obtain ⟨v0, vs0, d0, ds0, p0, q0, hargs, rfl, rfl, h0, r0⟩ := trodAll_cons hA
  obtain ⟨rfl, rfl, rfl⟩ := trodAll_nil r0
  obtain rfl : args = #[v0] := by cases args; simp_all
  obtain ⟨rfl, rfl⟩ := trodVars_none hV
  obtain ⟨s, rfl, rfl, rfl, _⟩ := open_string Tryd.underlying9 (hval 0 9 v0 rfl rfl) h0
  have hlim : s.size ≤ 140737488355328 := by
    have hs1 := sized_string hsz (j := 0) (t := 9) rfl rfl
    have e1 : s.size = s.data.size := rfl
    have e2 : s.data.toList.length = s.data.size := Array.length_toList
    simp only [reachBytes] at hs1
    omega
  clear hA0 hval0 hsz hsz0
  refine (walk s W hlim (of_laid hL).1 (of_laid hL).2).mono fun e W' ⟨he, hg⟩ => ?_
  subst he
  exact ⟨_, rfl, law_post laidOut hW' rfl rfl (by kernel_rfl) Tryd.underlying4 reads hg⟩

theorem over : Rows.stampParsesRow.holds Tryd.pinned (OpenSpec.ofChange Rows.stampParsesSpec) :=
  OpenClaim.holds_of_wide 4 Tryd.f4 rfl rfl rfl rfl rfl rfl rfl ⟨rfl, rfl, rfl, rfl, rfl⟩ rfl rfl rfl rfl rfl (by kernel_rfl) Tryd.func4 (by kernel_rfl)
    (of_decide_eq_true (by kernel_rfl)) (by unfold Func.isWrapper; first | (rw [if_pos (by decide +kernel)]; kernel_rfl) | (rw [if_neg (by decide +kernel)]; exact ⟨rfl, rfl⟩))
    (fun os started H enc _ => lifted os started H enc)

/-- The statement: the card. -/
theorem proved : Rows.StampParsesCardSaid :=
  Claim7.holds_tied_plain_at .later [] Rows.stampParsesCard.laidKinds true Rows.stampParsesCard.stood.harness true
    over (fun _ h => by cases h) (by kernel_rfl) (fun _ h => by cases h) stampParses_row_tie rfl ⟨rfl, rfl⟩ (by kernel_rfl) rfl
    (fun f fn hf hfn => by
      obtain rfl : f = 4 := Option.some.inj ((show Tryd.prog.funcNamed "telltale/telltalelaw01.StampParses" = some 4 by kernel_rfl).symm.trans hf) |>.symm
      obtain rfl : fn = Tryd.f4 := (Option.some.inj (Tryd.func4.symm.trans hfn)).symm
      exact ⟨by kernel_rfl, fun j t ht => by
        rw [Tryd.params4] at ht
        have hm : t ∈ [9] := by simpa using Array.mem_of_getElem? ht
        have hall : ([9].all fun u => !Tryd.prog.wantsStandIn u) = true := by kernel_rfl
        exact (show Tryd.prog.wantsStandIn t = false by simpa using List.all_eq_true.1 hall t hm)⟩)
    (by kernel_rfl)

end Go.Proofs.YtebnmbckkelkpaaDoor.stampParses
