/-
  For all bytes, the law FrameSeals returns true and leaves its argument as it was. No condition. The card ties the table of frame's sum to the program's text.
-/
import Derived.Test.YtobgbaejdamecaaDoorRows
import Derived.Test.YtobgbaejdamecaaDoorCards
import Derived.Test.YtobgbaejdamecaaDoorTie
import Derived.Test.YtobgbaejdamecaaDoorLaw
import Derived.Test.YtobgbaejdamecaaDoorFrLawB
import Derived.Test.YtobgbaejdamecaaDoorOpenBytes
import Derived.Lib.LaidTab
import Derived.LaidMore
import Derived.SizedLaws
import Derived.Handed
import Derived.SevenTiedAt
import Derived.Stop.LaidErr
namespace Go.Proofs.YtobgbaejdamecaaDoor.frameSeals
open Go.ChangeShapes Go.WideShapes Go.ChangeAt Go.RowKit

theorem cells : Tryd.prog.cellsOf 5 = 1 := by kernel_rfl
theorem bytes : Tryd.prog.bytesOf 5 = 1 := by kernel_rfl
theorem own : ownKnob Tryd.prog.godebug = none := by kernel_rfl
theorem laidOut : laidOutB Tryd.prog = true := by kernel_rfl
theorem reads : ∀ t ∈ Tryd.f4.params.toList, Tryd.prog.readableRec t = true ∧ t < Tryd.prog.types.size := by
  intro t ht
  rw [Tryd.params4] at ht
  obtain rfl : t = 22 := by simpa using ht
  exact ⟨by kernel_rfl, of_decide_eq_true (by kernel_rfl)⟩

/-- The heap that the program's own initialisers leave meets the row's condition. -/
theorem door_met (os : Os) (args : Array Value) : laidMetH Tryd.prog Rows.frameSealsRow.laid ((World.doorLaid Tryd.prog 400 os).forCall (fun _ _ => 0) ⟨#[], args, []⟩).memory :=
  laidMetH_of_parts3 (fuel := 8) (laidMet_of_run' 8 (by kernel_rfl) (by kernel_rfl)) (by kernel_rfl) (by kernel_rfl)

theorem halves_global : Tryd.prog.globalNamed "telltale/frame.halves" = some 0 := by kernel_rfl
theorem halves_type : (Tryd.prog.globals[0]?).map (·.type) = some 51 := by kernel_rfl
theorem halves_data : (Rows.laid_telltale_frame_halves : DataW Unit) = Lib.tabData .u32 (Fr.tab.map fun n : Nat => (n : Int)) := by rfl
/-- What the row's condition gives the walk: the table. -/
theorem halves_of {W : World} (h : laidMetH Tryd.prog Rows.frameSealsRow.laid W) : Halves W := by
  rw [MakeChecks.laidMetH_plain _ _ _ (by kernel_rfl)] at h
  have h2 : laidMet Tryd.prog [("telltale/frame.halves", Rows.laid_telltale_frame_halves)] W := h
  rw [halves_data] at h2
  have ht := Lib.tabIs_of_head halves_global halves_type Tryd.underlying51 Tryd.underlying25 (by kernel_rfl) (by kernel_rfl) h2
  intro v hv
  have hc := ht.cell halves_global v hv
  rw [hc]
  have hall : ∀ i : Fin 16, (Fr.tab.map fun n : Nat => (n : Int)).getD i.val 0 = ((Fr.tab.getD i.val 0 : Nat) : Int) := by decide
  rw [hall ⟨v, hv⟩]

set_option maxRecDepth 100000 in
theorem lifted (os : Os) (started : os.Started) (H : Type) (enc : TypeId × Value → H) :
    ReturnsInHanded {} Tryd.checked os 4 .any (fun w args => (Rows.frameSealsSpec.pre enc Tryd.prog Tryd.f4 [] false w args ∧ laidMetH Tryd.prog Rows.frameSealsRow.laid w) ∧ sizedMet enc Tryd.prog Tryd.f4 (OpenSpec.ofChange Rows.frameSealsSpec) false w args)
      (Rows.frameSealsSpec.post enc Tryd.prog Tryd.f4 false true false false) := by
  refine returnsInHanded_of_change_and (C := Tryd.checked) (X := fun w _ => laidMetH Tryd.prog Rows.frameSealsRow.laid w) (fun _ _ _ hh h => h.of_heap hh) own started (by kernel_rfl) Tryd.func4
    (ChangeSpec.witness_shaped (enc := enc) (C := Tryd.checked) (os := os) (X := fun w _ => laidMetH Tryd.prog Rows.frameSealsRow.laid w) false (World.doorLaid Tryd.prog 400 os) #[.slice none 0 0] 8 rfl (World.shaped_of_RefB (by kernel_rfl) (by kernel_rfl)) (by kernel_rfl) (by kernel_rfl) (by kernel_rfl) (door_met os _)) ?_
  intro W base args ds gs before hval0 hW _ hsz0 hL _
  have hval : ∀ (j : Nat) t v, Tryd.f4.params[j]? = some t → args[j]? = some v → Value.okWide Tryd.prog W .any base t v := hval0
  have hsz : (DataW.weightsEach Tryd.prog (Tryd.f4.params.toList ++ Rows.frameSealsSpec.plain.varTypes Tryd.prog) (ds ++ gs)).all (· ≤ reachBytes) = true := hsz0
  have hW' := hW
  obtain ⟨p, q, hA0, hV, rfl, hfz, hnd⟩ := hW
  have hA : DataW.TrodAll enc Tryd.prog W 0 (fun _ => true) true Tryd.f4.params.toList args.toList ds p := hA0
  rw [Tryd.params4] at hA hval hsz
  obtain ⟨v0, vs0, d0, ds0, p0, q0, hargs, rfl, rfl, h0, r0⟩ := trodAll_cons hA
  obtain ⟨rfl, rfl, rfl⟩ := trodAll_nil r0
  obtain rfl : args = #[v0] := by cases args; simp_all
  obtain ⟨rfl, rfl⟩ := trodVars_none hV
  obtain ⟨A0, cap0, l0, rfl, o0, hd0⟩ := open_bytes Tryd.underlying22 Tryd.underlying5 cells (hval 0 22 v0 rfl rfl) h0
  have z0 : l0.length ≤ 140737488355328 := by
    rcases hd0 with ⟨_, h, _⟩ | ⟨elems, spare, rfl, h1, h2⟩
    · omega
    · have := sized_slice hsz (j := 0) (t := 22) (e := 5) rfl rfl Tryd.underlying22
      rw [bytes] at this
      simp only [reachBytes] at this
      omega
  clear hA0 hval0 hsz hsz0
  refine (lawFSeals_any A0 cap0 l0 W z0 o0 (halves_of hL)).mono fun e W' ⟨he, hg⟩ => ?_
  subst he
  exact ⟨_, rfl, law_post laidOut hW' rfl rfl (by kernel_rfl) Tryd.underlying4 reads hg⟩

theorem over : Rows.frameSealsRow.holds Tryd.pinned (OpenSpec.ofChange Rows.frameSealsSpec) :=
  OpenClaim.holds_of_wide 4 Tryd.f4 rfl rfl rfl rfl rfl rfl rfl ⟨rfl, rfl, rfl, rfl, rfl⟩ rfl rfl rfl rfl rfl (by kernel_rfl) Tryd.func4 (by kernel_rfl)
    (of_decide_eq_true (by kernel_rfl)) (by unfold Func.isWrapper; first | (rw [if_pos (by decide +kernel)]; kernel_rfl) | (rw [if_neg (by decide +kernel)]; exact ⟨rfl, rfl⟩))
    (fun os started H enc _ => lifted os started H enc)

/-- The statement: the card. -/
theorem proved : Rows.FrameSealsCardSaid :=
  Claim7.holds_tied_plain_at .later [] Rows.frameSealsCard.laidKinds true Rows.frameSealsCard.stood.harness Rows.frameSealsCard.stood.looks
    over (fun _ h => by cases h) (by kernel_rfl) (fun _ h => by cases h) frameSeals_row_tie rfl ⟨rfl, rfl⟩ (by kernel_rfl) rfl
    (fun f fn hf hfn => by
      obtain rfl : f = 4 := Option.some.inj ((show Tryd.prog.funcNamed "telltale/telltalelaw07.FrameSeals" = some 4 by kernel_rfl).symm.trans hf) |>.symm
      obtain rfl : fn = Tryd.f4 := (Option.some.inj (Tryd.func4.symm.trans hfn)).symm
      exact ⟨by kernel_rfl, fun j t ht => by
        rw [Tryd.params4] at ht
        have hm : t ∈ [22] := by simpa using Array.mem_of_getElem? ht
        have hall : ([22].all fun u => !Tryd.prog.wantsStandIn u) = true := by kernel_rfl
        exact (show Tryd.prog.wantsStandIn t = false by simpa using List.all_eq_true.1 hall t hm)⟩)
    (by kernel_rfl)

end Go.Proofs.YtobgbaejdamecaaDoor.frameSeals
