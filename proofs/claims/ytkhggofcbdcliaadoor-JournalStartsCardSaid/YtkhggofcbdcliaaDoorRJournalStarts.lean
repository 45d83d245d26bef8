/-
  For any disk and all bytes, the law JournalStarts returns true and leaves its arguments as they were. No condition. The card ties the table of frame's sum to the program's text.
-/
import Derived.Test.YtkhggofcbdcliaaDoorRows
import Derived.Test.YtkhggofcbdcliaaDoorCards
import Derived.Test.YtkhggofcbdcliaaDoorTie
import Derived.Test.YtkhggofcbdcliaaDoorG01
import Derived.Test.YtkhggofcbdcliaaDoorG21
import Derived.Test.YtkhggofcbdcliaaDoorG07
import Derived.Lib.LaidTab
import Derived.LaidMore
import Derived.SizedLaws
import Derived.Handed
import Derived.SevenTiedAt
import Derived.Stop.LaidErr
namespace Go.Proofs.YtkhggofcbdcliaaDoor.journalStarts
open Go.ChangeShapes Go.WideShapes Go.ChangeAt Go.RowKit

theorem cells : Tryd.prog.cellsOf 5 = 1 := by kernel_rfl
theorem own : ownKnob Tryd.prog.godebug = none := by kernel_rfl
theorem laidOut : laidOutB Tryd.prog = true := by kernel_rfl
theorem reads : ∀ t ∈ Tryd.f4.params.toList, Tryd.prog.readableRec t = true ∧ t < Tryd.prog.types.size := by
  intro t ht
  rw [Tryd.params4] at ht
  have : t = 24 ∨ t = 25 := by simpa using ht
  rcases this with rfl | rfl <;> exact ⟨by kernel_rfl, of_decide_eq_true (by kernel_rfl)⟩

/-- The heap that the program's own initialisers leave meets the row's condition. -/
theorem door_met (os : Os) (args : Array Value) : laidMetH Tryd.prog Rows.journalStartsRow.laid ((World.doorLaid Tryd.prog 400 os).forCall (fun _ _ => 0) ⟨#[], args, []⟩).memory :=
  laidMetH_of_parts3 (fuel := 8) (laidMet_of_run' 8 (by kernel_rfl) (by kernel_rfl)) (by kernel_rfl) (by kernel_rfl)

theorem halves_global : Tryd.prog.globalNamed "telltale/frame.halves" = some 0 := by kernel_rfl
theorem halves_type : (Tryd.prog.globals[0]?).map (·.type) = some 85 := by kernel_rfl
theorem halves_data : (Rows.laid_telltale_frame_halves : DataW Unit) = Lib.tabData .u32 (Fr.tab.map fun n : Nat => (n : Int)) := by rfl
/-- What the row's condition gives the walk: the table. -/
theorem halves_of {W : World} (h : laidMetH Tryd.prog Rows.journalStartsRow.laid W) : Halves W := by
  rw [MakeChecks.laidMetH_plain _ _ _ (by kernel_rfl)] at h
  have h2 : laidMet Tryd.prog [("telltale/frame.halves", Rows.laid_telltale_frame_halves)] W := h
  rw [halves_data] at h2
  have ht := Lib.tabIs_of_head halves_global halves_type Tryd.underlying85 Tryd.underlying66 (by kernel_rfl) (by kernel_rfl) h2
  intro v hv
  have hc := ht.cell halves_global v hv
  rw [hc]
  have hall : ∀ i : Fin 16, (Fr.tab.map fun n : Nat => (n : Int)).getD i.val 0 = ((Fr.tab.getD i.val 0 : Nat) : Int) := by decide
  rw [hall ⟨v, hv⟩]

set_option maxRecDepth 100000 in
theorem lifted (os : Os) (started : os.Started) (H : Type) (enc : TypeId × Value → H) :
    ReturnsInHanded {} Tryd.checked os 4 .any (fun w args => (Rows.journalStartsSpec.pre enc Tryd.prog Tryd.f4 [] false w args ∧ laidMetH Tryd.prog Rows.journalStartsRow.laid w) ∧ sizedMet enc Tryd.prog Tryd.f4 (OpenSpec.ofChange Rows.journalStartsSpec) false w args)
      (Rows.journalStartsSpec.post enc Tryd.prog Tryd.f4 false true false false) := by
  refine returnsInHanded_of_change_and (C := Tryd.checked) (X := fun w _ => laidMetH Tryd.prog Rows.journalStartsRow.laid w) (fun _ _ _ hh h => h.of_heap hh) own started (by kernel_rfl) Tryd.func4
    (ChangeSpec.witness_shaped (enc := enc) (C := Tryd.checked) (os := os) (X := fun w _ => laidMetH Tryd.prog Rows.journalStartsRow.laid w) false (World.doorLaid Tryd.prog 400 os) #[.agg #[.int .i64 0, .slice none 0 0], .slice none 0 0] 8 rfl (World.shaped_of_RefB (by kernel_rfl) (by kernel_rfl)) (by kernel_rfl) (by kernel_rfl) (by kernel_rfl) (door_met os _)) ?_
  intro W base args ds gs before hval0 hW _ hsz0 hL _
  have hval : ∀ (j : Nat) t v, Tryd.f4.params[j]? = some t → args[j]? = some v → Value.okWide Tryd.prog W .any base t v := hval0
  have hsz : (DataW.weightsEach Tryd.prog (Tryd.f4.params.toList ++ Rows.journalStartsSpec.plain.varTypes Tryd.prog) (ds ++ gs)).all (· ≤ reachBytes) = true := hsz0
  have hW' := hW
  obtain ⟨p, q, hA0, hV, rfl, hfz, hnd⟩ := hW
  have hA : DataW.TrodAll enc Tryd.prog W 0 (fun _ => true) true Tryd.f4.params.toList args.toList ds p := hA0
  rw [Tryd.params4] at hA hval hsz
  obtain ⟨v0, vs0, d0, ds0, p0, q0, hargs, rfl, rfl, h0, r0⟩ := trodAll_cons hA
  obtain ⟨v1, vs1, d1, ds1, p1, q1, rfl, rfl, rfl, h1, r1⟩ := trodAll_cons r0
  obtain ⟨rfl, rfl, rfl⟩ := trodAll_nil r1
  obtain rfl : args = #[v0, v1] := by cases args; simp_all
  obtain ⟨rfl, rfl⟩ := trodVars_none hV
  obtain ⟨room0, A0, c0, L0, rfl, o0, e0, f0, rfl, g0⟩ := open_disk (hval 0 24 v0 rfl rfl) h0
  have z0 := fit_disk hsz (j := 0) rfl rfl g0
  obtain ⟨A1, cap1, l1, rfl, o1, hd1⟩ := open_bytes Tryd.underlying25 Tryd.underlying5 cells (hval 1 25 v1 rfl rfl) h1
  clear hA0 hval0 hsz hsz0
  refine (lawJournalStarts_any journalSpec room0 A0 A1 c0 cap1 L0 l1 W o0 z0 o1 (halves_of hL)).mono fun e W' ⟨he, hg⟩ => ?_
  subst he
  exact ⟨_, rfl, law_post laidOut hW' rfl rfl (by kernel_rfl) Tryd.underlying4 reads hg⟩

theorem over : Rows.journalStartsRow.holds Tryd.pinned (OpenSpec.ofChange Rows.journalStartsSpec) :=
  OpenClaim.holds_of_wide 4 Tryd.f4 rfl rfl rfl rfl rfl rfl rfl ⟨rfl, rfl, rfl, rfl, rfl⟩ rfl rfl rfl rfl rfl (by kernel_rfl) Tryd.func4 (by kernel_rfl)
    (of_decide_eq_true (by kernel_rfl)) (by unfold Func.isWrapper; first | (rw [if_pos (by decide +kernel)]; kernel_rfl) | (rw [if_neg (by decide +kernel)]; exact ⟨rfl, rfl⟩))
    (fun os started H enc _ => lifted os started H enc)

/-- The statement: the card. -/
theorem proved : Rows.JournalStartsCardSaid :=
  Claim7.holds_tied_plain_at .later [] Rows.journalStartsCard.laidKinds true Rows.journalStartsCard.stood.harness Rows.journalStartsCard.stood.looks
    over (fun _ h => by cases h) (by kernel_rfl) (fun _ h => by cases h) journalStarts_row_tie rfl ⟨rfl, rfl⟩ (by kernel_rfl) rfl
    (fun f fn hf hfn => by
      obtain rfl : f = 4 := Option.some.inj ((show Tryd.prog.funcNamed "telltale/telltalelaw09.JournalStarts" = some 4 by kernel_rfl).symm.trans hf) |>.symm
      obtain rfl : fn = Tryd.f4 := (Option.some.inj (Tryd.func4.symm.trans hfn)).symm
      exact ⟨by kernel_rfl, fun j t ht => by
        rw [Tryd.params4] at ht
        have hm : t ∈ [24, 25] := by simpa using Array.mem_of_getElem? ht
        have hall : ([24, 25].all fun u => !Tryd.prog.wantsStandIn u) = true := by kernel_rfl
        exact (show Tryd.prog.wantsStandIn t = false by simpa using List.all_eq_true.1 hall t hm)⟩)
    (by kernel_rfl)

end Go.Proofs.YtkhggofcbdcliaaDoor.journalStarts
