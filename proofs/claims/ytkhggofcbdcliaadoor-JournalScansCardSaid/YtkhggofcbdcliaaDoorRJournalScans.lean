/-
  The law JournalScans, walked over the contracts of journal's functions.
  For any disk, the law JournalScans returns true and leaves its argument as it was. No condition. The card ties the table of frame's sum to the program's text.
-/
import Derived.Test.YtkhggofcbdcliaaDoorG21
import Derived.Test.YtkhggofcbdcliaaDoorRows
import Derived.Test.YtkhggofcbdcliaaDoorCards
import Derived.Test.YtkhggofcbdcliaaDoorTie
import Derived.Test.YtkhggofcbdcliaaDoorG01
import Derived.Test.YtkhggofcbdcliaaDoorG07
import Derived.Lib.LaidTab
import Derived.LaidMore
import Derived.SizedLaws
import Derived.Handed
import Derived.SevenTiedAt
import Derived.Stop.LaidErr
namespace Go.Proofs.YtkhggofcbdcliaaDoor
open Go.RowKit

set_option maxRecDepth 100000 in
set_option maxHeartbeats 6400000 in
theorem lawJournalScans_any (JS : JournalSpec) (room : Int) (A : Option Addr) (c : Nat) (L : List Fc) (w : World) (h : OneD w A c L) (hf : Fit L) (hH : Halves w) :
    Calls Tryd.prog 5 #[.agg #[.int .i64 room, .slice A L.length c]] w (Says (.bool true) w) := by
  obtain ⟨⟨rs, ⟨rm, fs, k⟩⟩, hR⟩ : ∃ r, Jn.scanR room (L.map Fc.fi) = r := ⟨_, rfl⟩
  have HR := Lib.hid hR
  clear hR
  have SP := Lib.hid JS
  clear JS
  have b := below_new (Below.refl w.heap.size w) (.cells #[.int .i64 room, .slice A L.length c] 24)
  have HV := Lib.hid (hH.later b)
  have HD := Lib.hid (h.later b)
  have Y3 := Lib.hid (Blk.new w 24 #[.int .i64 room, .slice A L.length c])
  have HFT := Lib.hid hf
  have BB0 := Lib.hid b
  clear b h hf hH
  go_enter Tryd.func5, Tryd.ntmps5
  have nn := jalive_any SP.out (w.alloc (.cells #[.int .i64 room, .slice A L.length c] 24)) HV.out
  have NN := Lib.hid nn
  clear nn
  go_wp2_with fail
  refine NN.out.mono ?_
  clear NN
  rintro e x1 ⟨rfl, b⟩
  replace HV := Lib.hid (HV.out.later b)
  replace HD := Lib.hid (HD.out.later b)
  replace Y3 := Lib.hid (Y3.out.later b)
  have BB1 := Lib.hid (below_on BB0.out b)
  clear b
  have nn := rcopyD_any room A c L _ HD.out HFT.out
  have NN := Lib.hid nn
  clear nn
  have cY30 := Y3.out.cell (i := 0) rfl
  have cY31 := Y3.out.cell (i := 1) rfl
  go_wp2_with fail
  refine NN.out.mono ?_
  clear NN
  rintro e xo ⟨v, Lo, rfl, hO, hf, b⟩
  obtain ⟨Ao, co, rfl, -⟩ := hO.one
  clear cY30 cY31
  replace HV := Lib.hid (HV.out.later b)
  replace HD := Lib.hid (HD.out.later b)
  replace Y3 := Lib.hid (Y3.out.later b)
  have Oo := Lib.hid (hO.oneD)
  have HFo := Lib.hid hf
  have BB2 := Lib.hid (below_on BB1.out b)
  clear b hO hf
  have b := below_new (Below.refl xo.heap.size xo) (.cells #[.int .i64 room, .slice Ao Lo.length co] 24)
  replace HV := Lib.hid (HV.out.later b)
  replace HD := Lib.hid (HD.out.later b)
  replace Y3 := Lib.hid (Y3.out.later b)
  replace Oo := Lib.hid (Oo.out.later b)
  have Y7 := Lib.hid (Blk.new xo 24 #[.int .i64 room, .slice Ao Lo.length co])
  have BB2a := Lib.hid (below_on BB2.out b)
  clear b
  have nn := SP.out.scan room Ao co Lo _ Oo.out HV.out
  rw [HFo.out, HR.out] at nn
  have NN := Lib.hid nn
  clear nn
  have cY70 := Y7.out.cell (i := 0) rfl
  have cY71 := Y7.out.cell (i := 1) rfl
  go_wp2_with fail
  refine NN.out.mono ?_
  clear NN
  intro e xp h
  obtain ⟨Vp, vp, Ap, cp, Lp, rfl, hV, hO, hf, b⟩ := h.open
  clear h
  clear cY70 cY71
  replace HV := Lib.hid (HV.out.later b)
  replace HD := Lib.hid (HD.out.later b)
  replace Y3 := Lib.hid (Y3.out.later b)
  replace Oo := Lib.hid (Oo.out.later b)
  replace Y7 := Lib.hid (Y7.out.later b)
  have Rp := Lib.hid (hV)
  have Op := Lib.hid (hO.oneD)
  have HFp := Lib.hid hf
  have BB3 := Lib.hid (below_on BB2a.out b)
  clear b hO hf hV
  have b := below_new (Below.refl xp.heap.size xp) (.cells #[.int .i64 rm, .slice Ap Lp.length cp] 24)
  replace HV := Lib.hid (HV.out.later b)
  replace HD := Lib.hid (HD.out.later b)
  replace Y3 := Lib.hid (Y3.out.later b)
  replace Oo := Lib.hid (Oo.out.later b)
  replace Y7 := Lib.hid (Y7.out.later b)
  replace Rp := Lib.hid (Rp.out.later b)
  replace Op := Lib.hid (Op.out.later b)
  have Y5 := Lib.hid (Blk.new xp 24 #[.int .i64 rm, .slice Ap Lp.length cp])
  have BB3a := Lib.hid (below_on BB3.out b)
  clear b
  have nn := rscan_any room A c L _ HD.out
  rw [HR.out] at nn
  have NN := Lib.hid nn
  clear nn
  have cY30 := Y3.out.cell (i := 0) rfl
  have cY31 := Y3.out.cell (i := 1) rfl
  go_wp2_with fail
  refine NN.out.mono ?_
  clear NN
  intro e xq h
  obtain ⟨Vq, vq, Aq, cq, Lq, rfl, hV, hO, hf, b⟩ := h.open
  clear h
  clear cY30 cY31
  replace HV := Lib.hid (HV.out.later b)
  replace HD := Lib.hid (HD.out.later b)
  replace Y3 := Lib.hid (Y3.out.later b)
  replace Oo := Lib.hid (Oo.out.later b)
  replace Y7 := Lib.hid (Y7.out.later b)
  replace Rp := Lib.hid (Rp.out.later b)
  replace Op := Lib.hid (Op.out.later b)
  replace Y5 := Lib.hid (Y5.out.later b)
  have Rq := Lib.hid (hV)
  have Oq := Lib.hid (hO.oneD)
  have HFq := Lib.hid hf
  have BB4 := Lib.hid (below_on BB3a.out b)
  clear b hO hf hV
  have b := below_new (Below.refl xq.heap.size xq) (.cells #[.int .i64 rm, .slice Aq Lq.length cq] 24)
  replace HV := Lib.hid (HV.out.later b)
  replace HD := Lib.hid (HD.out.later b)
  replace Y3 := Lib.hid (Y3.out.later b)
  replace Oo := Lib.hid (Oo.out.later b)
  replace Y7 := Lib.hid (Y7.out.later b)
  replace Rp := Lib.hid (Rp.out.later b)
  replace Op := Lib.hid (Op.out.later b)
  replace Y5 := Lib.hid (Y5.out.later b)
  replace Rq := Lib.hid (Rq.out.later b)
  replace Oq := Lib.hid (Oq.out.later b)
  have Y8 := Lib.hid (Blk.new xq 24 #[.int .i64 rm, .slice Aq Lq.length cq])
  have BB4a := Lib.hid (below_on BB4.out b)
  clear b
  have nn := rlists_any Vp Vq vp vq rs rs _ Rp.out Rq.out
  rw [decide_eq_true rfl] at nn
  have NN := Lib.hid nn
  clear nn
  go_wp2_with fail
  refine NN.out.mono ?_
  clear NN
  rintro e x5 ⟨rfl, b⟩
  replace HV := Lib.hid (HV.out.later b)
  replace HD := Lib.hid (HD.out.later b)
  replace Y3 := Lib.hid (Y3.out.later b)
  replace Oo := Lib.hid (Oo.out.later b)
  replace Y7 := Lib.hid (Y7.out.later b)
  replace Rp := Lib.hid (Rp.out.later b)
  replace Op := Lib.hid (Op.out.later b)
  replace Y5 := Lib.hid (Y5.out.later b)
  replace Rq := Lib.hid (Rq.out.later b)
  replace Oq := Lib.hid (Oq.out.later b)
  replace Y8 := Lib.hid (Y8.out.later b)
  have BB5 := Lib.hid (below_on BB4a.out b)
  clear b
  have nn := rsameD_any rm rm Ap Aq cp cq Lp Lq _ Op.out Oq.out
  rw [decide_eq_true (show rm = rm ∧ Lp.map Fc.fi = Lq.map Fc.fi from ⟨rfl, by rw [HFp.out, HFq.out]⟩)] at nn
  have NN := Lib.hid nn
  clear nn
  have cY50 := Y5.out.cell (i := 0) rfl
  have cY51 := Y5.out.cell (i := 1) rfl
  have cY80 := Y8.out.cell (i := 0) rfl
  have cY81 := Y8.out.cell (i := 1) rfl
  go_wp2_with fail
  refine NN.out.mono ?_
  clear NN
  rintro e x6 ⟨rfl, b⟩
  clear cY50 cY51 cY80 cY81
  replace HV := Lib.hid (HV.out.later b)
  replace HD := Lib.hid (HD.out.later b)
  replace Y3 := Lib.hid (Y3.out.later b)
  replace Oo := Lib.hid (Oo.out.later b)
  replace Y7 := Lib.hid (Y7.out.later b)
  replace Rp := Lib.hid (Rp.out.later b)
  replace Op := Lib.hid (Op.out.later b)
  replace Y5 := Lib.hid (Y5.out.later b)
  replace Rq := Lib.hid (Rq.out.later b)
  replace Oq := Lib.hid (Oq.out.later b)
  replace Y8 := Lib.hid (Y8.out.later b)
  have BB6 := Lib.hid (below_on BB5.out b)
  clear b
  have nn := rsameD_any room room Ao A co c Lo L _ Oo.out HD.out
  rw [decide_eq_true (show room = room ∧ Lo.map Fc.fi = L.map Fc.fi from ⟨rfl, HFo.out⟩)] at nn
  have NN := Lib.hid nn
  clear nn
  have cY70 := Y7.out.cell (i := 0) rfl
  have cY71 := Y7.out.cell (i := 1) rfl
  have cY30 := Y3.out.cell (i := 0) rfl
  have cY31 := Y3.out.cell (i := 1) rfl
  go_wp2_with fail
  refine NN.out.mono ?_
  clear NN
  rintro e x7 ⟨rfl, b⟩
  clear cY70 cY71 cY30 cY31
  replace HV := Lib.hid (HV.out.later b)
  replace HD := Lib.hid (HD.out.later b)
  replace Y3 := Lib.hid (Y3.out.later b)
  replace Oo := Lib.hid (Oo.out.later b)
  replace Y7 := Lib.hid (Y7.out.later b)
  replace Rp := Lib.hid (Rp.out.later b)
  replace Op := Lib.hid (Op.out.later b)
  replace Y5 := Lib.hid (Y5.out.later b)
  replace Rq := Lib.hid (Rq.out.later b)
  replace Oq := Lib.hid (Oq.out.later b)
  replace Y8 := Lib.hid (Y8.out.later b)
  have BB7 := Lib.hid (below_on BB6.out b)
  clear b
  go_wp2
  go_ret
  exact ⟨rfl, BB7.out⟩
end Go.Proofs.YtkhggofcbdcliaaDoor
namespace Go.Proofs.YtkhggofcbdcliaaDoor.journalScans
open Go.ChangeShapes Go.WideShapes Go.ChangeAt Go.RowKit

theorem cells : Tryd.prog.cellsOf 5 = 1 := by kernel_rfl
theorem own : ownKnob Tryd.prog.godebug = none := by kernel_rfl
theorem laidOut : laidOutB Tryd.prog = true := by kernel_rfl
theorem reads : ∀ t ∈ Tryd.f5.params.toList, Tryd.prog.readableRec t = true ∧ t < Tryd.prog.types.size := by
  intro t ht
  rw [Tryd.params5] at ht
  obtain rfl : t = 24 := by simpa using ht
  exact ⟨by kernel_rfl, of_decide_eq_true (by kernel_rfl)⟩

/-- The heap that the program's own initialisers leave meets the row's condition. -/
theorem door_met (os : Os) (args : Array Value) : laidMetH Tryd.prog Rows.journalScansRow.laid ((World.doorLaid Tryd.prog 400 os).forCall (fun _ _ => 0) ⟨#[], args, []⟩).memory :=
  laidMetH_of_parts3 (fuel := 8) (laidMet_of_run' 8 (by kernel_rfl) (by kernel_rfl)) (by kernel_rfl) (by kernel_rfl)

theorem halves_global : Tryd.prog.globalNamed "telltale/frame.halves" = some 0 := by kernel_rfl
theorem halves_type : (Tryd.prog.globals[0]?).map (·.type) = some 85 := by kernel_rfl
theorem halves_data : (Rows.laid_telltale_frame_halves : DataW Unit) = Lib.tabData .u32 (Fr.tab.map fun n : Nat => (n : Int)) := by rfl
/-- What the row's condition gives the walk: the table. -/
theorem halves_of {W : World} (h : laidMetH Tryd.prog Rows.journalScansRow.laid W) : Halves W := by
  rw [MakeChecks.laidMetH_plain _ _ _ (by kernel_rfl)] at h
  have h2 : laidMet Tryd.prog [("telltale/frame.halves", Rows.laid_telltale_frame_halves)] W := h
  rw [halves_data] at h2
  have ht := Lib.tabIs_of_head halves_global halves_type Tryd.underlying85 Tryd.underlying66 (by kernel_rfl) (by kernel_rfl) h2
  intro v hv
  have hc := ht.cell halves_global v hv
  rw [hc]
  have hall : ∀ i : Fin 16, (Fr.tab.map fun n : Nat => (n : Int)).getD i.val 0 = ((Fr.tab.getD i.val 0 : Nat) : Int) := by decide
  rw [hall ⟨v, hv⟩]

set_option maxRecDepth 100000 in
theorem lifted (os : Os) (started : os.Started) (H : Type) (enc : TypeId × Value → H) :
    ReturnsInHanded {} Tryd.checked os 5 .any (fun w args => (Rows.journalScansSpec.pre enc Tryd.prog Tryd.f5 [] false w args ∧ laidMetH Tryd.prog Rows.journalScansRow.laid w) ∧ sizedMet enc Tryd.prog Tryd.f5 (OpenSpec.ofChange Rows.journalScansSpec) false w args)
      (Rows.journalScansSpec.post enc Tryd.prog Tryd.f5 false true false false) := by
  refine returnsInHanded_of_change_and (C := Tryd.checked) (X := fun w _ => laidMetH Tryd.prog Rows.journalScansRow.laid w) (fun _ _ _ hh h => h.of_heap hh) own started (by kernel_rfl) Tryd.func5
    (ChangeSpec.witness_shaped (enc := enc) (C := Tryd.checked) (os := os) (X := fun w _ => laidMetH Tryd.prog Rows.journalScansRow.laid w) false (World.doorLaid Tryd.prog 400 os) #[.agg #[.int .i64 0, .slice none 0 0]] 8 rfl (World.shaped_of_RefB (by kernel_rfl) (by kernel_rfl)) (by kernel_rfl) (by kernel_rfl) (by kernel_rfl) (door_met os _)) ?_
  intro W base args ds gs before hval0 hW _ hsz0 hL _
  have hval : ∀ (j : Nat) t v, Tryd.f5.params[j]? = some t → args[j]? = some v → Value.okWide Tryd.prog W .any base t v := hval0
  have hsz : (DataW.weightsEach Tryd.prog (Tryd.f5.params.toList ++ Rows.journalScansSpec.plain.varTypes Tryd.prog) (ds ++ gs)).all (· ≤ reachBytes) = true := hsz0
  have hW' := hW
  obtain ⟨p, q, hA0, hV, rfl, hfz, hnd⟩ := hW
  have hA : DataW.TrodAll enc Tryd.prog W 0 (fun _ => true) true Tryd.f5.params.toList args.toList ds p := hA0
  rw [Tryd.params5] at hA hval hsz
  obtain ⟨v0, vs0, d0, ds0, p0, q0, hargs, rfl, rfl, h0, r0⟩ := trodAll_cons hA
  obtain ⟨rfl, rfl, rfl⟩ := trodAll_nil r0
  obtain rfl : args = #[v0] := by cases args; simp_all
  obtain ⟨rfl, rfl⟩ := trodVars_none hV
  obtain ⟨room0, A0, c0, L0, rfl, o0, e0, f0, rfl, g0⟩ := open_disk (hval 0 24 v0 rfl rfl) h0
  have z0 := fit_disk hsz (j := 0) rfl rfl g0
  clear hA0 hval0 hsz hsz0
  refine (lawJournalScans_any journalSpec room0 A0 c0 L0 W o0 z0 (halves_of hL)).mono fun e W' ⟨he, hg⟩ => ?_
  subst he
  exact ⟨_, rfl, law_post laidOut hW' rfl rfl (by kernel_rfl) Tryd.underlying4 reads hg⟩

theorem over : Rows.journalScansRow.holds Tryd.pinned (OpenSpec.ofChange Rows.journalScansSpec) :=
  OpenClaim.holds_of_wide 5 Tryd.f5 rfl rfl rfl rfl rfl rfl rfl ⟨rfl, rfl, rfl, rfl, rfl⟩ rfl rfl rfl rfl rfl (by kernel_rfl) Tryd.func5 (by kernel_rfl)
    (of_decide_eq_true (by kernel_rfl)) (by unfold Func.isWrapper; first | (rw [if_pos (by decide +kernel)]; kernel_rfl) | (rw [if_neg (by decide +kernel)]; exact ⟨rfl, rfl⟩))
    (fun os started H enc _ => lifted os started H enc)

/-- The statement: the card. -/
theorem proved : Rows.JournalScansCardSaid :=
  Claim7.holds_tied_plain_at .later [] Rows.journalScansCard.laidKinds true Rows.journalScansCard.stood.harness Rows.journalScansCard.stood.looks
    over (fun _ h => by cases h) (by kernel_rfl) (fun _ h => by cases h) journalScans_row_tie rfl ⟨rfl, rfl⟩ (by kernel_rfl) rfl
    (fun f fn hf hfn => by
      obtain rfl : f = 5 := Option.some.inj ((show Tryd.prog.funcNamed "telltale/telltalelaw09.JournalScans" = some 5 by kernel_rfl).symm.trans hf) |>.symm
      obtain rfl : fn = Tryd.f5 := (Option.some.inj (Tryd.func5.symm.trans hfn)).symm
      exact ⟨by kernel_rfl, fun j t ht => by
        rw [Tryd.params5] at ht
        have hm : t ∈ [24] := by simpa using Array.mem_of_getElem? ht
        have hall : ([24].all fun u => !Tryd.prog.wantsStandIn u) = true := by kernel_rfl
        exact (show Tryd.prog.wantsStandIn t = false by simpa using List.all_eq_true.1 hall t hm)⟩)
    (by kernel_rfl)

end Go.Proofs.YtkhggofcbdcliaaDoor.journalScans
