/-
  NoteForms walked from note's contracts.
  For every note and list of stamps, the law NoteForms returns true and leaves its arguments as they were. No condition.
-/
import Derived.Test.YtoaclofobfaflaaG19
import Derived.Lib.QuietBelow
import Derived.Test.YtoaclofobfaflaaRows
import Derived.Test.YtoaclofobfaflaaG20
import Derived.OpenShut
import Derived.WalkKit
import Derived.ProofKit
import Derived.SizedLaws
namespace Go.Proofs.Ytoaclofobfaflaa
open Go.RowKit

set_option maxRecDepth 100000 in
set_option maxHeartbeats 3200000 in
theorem lawNForms_any (SP : NoteSpec) (S E B V K : Option Addr) (cs ce cb cv c : Nat) (n : Note) (l : List (Int × Int)) (w : World) (hls : n.s.length * 16 ≤ 140737488355328) (hle : n.e.length * 16 ≤ 140737488355328) (hlb : n.b.length * 16 ≤ 140737488355328) (hlw : n.ws.length * 32 ≤ 140737488355328) (h1 : NoteAt w S E B V cs ce cb cv n) (h2 : OneL w K c l) :
    Calls Try.prog 3 #[.agg (noteCells S E B V cs ce cb cv n), .slice K l.length c] w (Says (.bool true) w) := by
  have N0 := Lib.hid (fun wx => nalive_any SP wx)
  have b0 := below_new (Below.refl w.heap.size w) (.cells (noteCells S E B V cs ce cb cv n) 26)
  have HB := Lib.hid (Blk.new w 26 (noteCells S E B V cs ce cb cv n))
  obtain ⟨c0, c1, c2, c3⟩ := note_cells HB.out
  have HN := Lib.hid (h1.later b0)
  have HL := Lib.hid (h2.later b0)
  have N1 := Lib.hid (fun wx (hx : NoteAt wx S E B V cs ce cb cv n) => ncopy_any S E B V cs ce cb cv n wx hls hle hlb hlw hx)
  clear h1 h2
  go_enter Try.func3, Try.ntmps3
  go_wp2_with fail
  refine (N0.out _).mono ?_
  rintro e w1 ⟨rfl, b1⟩
  have d0 := cell_later b1 c0
  have d1 := cell_later b1 c1
  have d2 := cell_later b1 c2
  have d3 := cell_later b1 c3
  go_wp2_with fail
  refine (N1.out _ (HN.out.later b1)).mono ?_
  rintro e w2 ⟨A1, A2, A3, A4, k1, k2, k3, k4, rfl, hN, b2⟩
  rw [show noteCells A1 A2 A3 A4 k1 k2 k3 k4 n = #[.slice A1 n.s.length k1, .slice A2 n.e.length k2, .slice A3 n.b.length k3, .slice A4 n.ws.length k4] from rfl]
  have bA := below_new (below_on b1 b2) (.cells #[.slice A1 n.s.length k1, .slice A2 n.e.length k2, .slice A3 n.b.length k3, .slice A4 n.ws.length k4] 26)
  have hX := Blk.new w2 26 #[.slice A1 n.s.length k1, .slice A2 n.e.length k2, .slice A3 n.b.length k3, .slice A4 n.ws.length k4]
  have hN1 := hN.later (below_new (Below.refl _ _) (.cells #[.slice A1 n.s.length k1, .slice A2 n.e.length k2, .slice A3 n.b.length k3, .slice A4 n.ws.length k4] 26))
  have HWE := Lib.hid (show ∃ W3, w2.alloc (.cells #[.slice A1 n.s.length k1, .slice A2 n.e.length k2, .slice A3 n.b.length k3, .slice A4 n.ws.length k4] 26) = W3 from ⟨_, rfl⟩)
  obtain ⟨W3, hW3⟩ := HWE.out
  rw [hW3] at bA hX hN1
  have hR1 := HN.out.later bA
  have hL1 := HL.out.later bA
  obtain ⟨⟨m0, m1, m2, m3⟩, _⟩ := nt_cells hX
  have g0 : ∀ r os, (Sort.grow (redrawn W3 r) os).cell? ⟨w2.heap.size, 0, none⟩ = _ := cell_regrown m0
  have e0 : ∀ r os, (Sort.grow (redrawn W3 r) os).cell? ⟨w.heap.size, 0, none⟩ = _ := cell_regrown (cell_later bA c0)
  have g1 : ∀ r os, (Sort.grow (redrawn W3 r) os).cell? ⟨w2.heap.size, 1, none⟩ = _ := cell_regrown m1
  have e1 : ∀ r os, (Sort.grow (redrawn W3 r) os).cell? ⟨w.heap.size, 1, none⟩ = _ := cell_regrown (cell_later bA c1)
  have g2 : ∀ r os, (Sort.grow (redrawn W3 r) os).cell? ⟨w2.heap.size, 2, none⟩ = _ := cell_regrown m2
  have e2 : ∀ r os, (Sort.grow (redrawn W3 r) os).cell? ⟨w.heap.size, 2, none⟩ = _ := cell_regrown (cell_later bA c2)
  have g3 : ∀ r os, (Sort.grow (redrawn W3 r) os).cell? ⟨w2.heap.size, 3, none⟩ = _ := cell_regrown m3
  have e3 : ∀ r os, (Sort.grow (redrawn W3 r) os).cell? ⟨w.heap.size, 3, none⟩ = _ := cell_regrown (cell_later bA c3)
  have q0 : ∀ r os, Calls Try.prog 12 #[.agg #[.slice A1 n.s.length k1, .slice A2 n.e.length k2, .slice A3 n.b.length k3, .slice A4 n.ws.length k4]] (Sort.grow (redrawn W3 r) os) fun e w'' => e = .returned (.bool (Nt.fmd n)) ∧ ∃ p : Regrown, w'' = Sort.grow (redrawn W3 p.d) p.os := fun r os => Calls.regrown_of (SP.formed A1 A2 A3 A4 k1 k2 k3 k4 n _ (hN1.later (below_regrown W3 r os)))
  have q1 : ∀ r os, Calls Try.prog 13 #[.agg #[.slice S n.s.length cs, .slice E n.e.length ce, .slice B n.b.length cb, .slice V n.ws.length cv]] (Sort.grow (redrawn W3 r) os) fun e w'' => e = .returned (.bool (Nt.fmd n)) ∧ ∃ p : Regrown, w'' = Sort.grow (redrawn W3 p.d) p.os := fun r os => Calls.regrown_of (nformed_any S E B V cs ce cb cv n _ (hR1.later (below_regrown W3 r os)))
  have q2 : ∀ r os, Calls Try.prog 14 #[.agg #[.slice A1 n.s.length k1, .slice A2 n.e.length k2, .slice A3 n.b.length k3, .slice A4 n.ws.length k4], .slice K l.length c] (Sort.grow (redrawn W3 r) os) fun e w'' => e = .returned (.bool (Ve.cov (Ve.cnt l) (Ve.cnt n.s))) ∧ ∃ p : Regrown, w'' = Sort.grow (redrawn W3 p.d) p.os := fun r os => Calls.regrown_of (SP.fits A1 A2 A3 A4 K k1 k2 k3 k4 c n l _ (hN1.later (below_regrown W3 r os)) (hL1.later (below_regrown W3 r os)))
  have q3 : ∀ r os, Calls Try.prog 15 #[.agg #[.slice S n.s.length cs, .slice E n.e.length ce, .slice B n.b.length cb, .slice V n.ws.length cv], .slice K l.length c] (Sort.grow (redrawn W3 r) os) fun e w'' => e = .returned (.bool (Ve.cov (Ve.cnt l) (Ve.cnt n.s))) ∧ ∃ p : Regrown, w'' = Sort.grow (redrawn W3 p.d) p.os := fun r os => Calls.regrown_of (nfits_any S E B V K cs ce cb cv c n l _ (hR1.later (below_regrown W3 r os)) (hL1.later (below_regrown W3 r os)))
  have q4 : ∀ r os, Calls Try.prog 16 #[.agg #[.slice A1 n.s.length k1, .slice A2 n.e.length k2, .slice A3 n.b.length k3, .slice A4 n.ws.length k4], .slice K l.length c] (Sort.grow (redrawn W3 r) os) fun e w'' => e = .returned (.bool (!Ve.cov (Ve.cnt l) (Ve.cnt n.e))) ∧ ∃ p : Regrown, w'' = Sort.grow (redrawn W3 p.d) p.os := fun r os => Calls.regrown_of (SP.news A1 A2 A3 A4 K k1 k2 k3 k4 c n l _ (hN1.later (below_regrown W3 r os)) (hL1.later (below_regrown W3 r os)))
  have q5 : ∀ r os, Calls Try.prog 17 #[.agg #[.slice S n.s.length cs, .slice E n.e.length ce, .slice B n.b.length cb, .slice V n.ws.length cv], .slice K l.length c] (Sort.grow (redrawn W3 r) os) fun e w'' => e = .returned (.bool (!Ve.cov (Ve.cnt l) (Ve.cnt n.e))) ∧ ∃ p : Regrown, w'' = Sort.grow (redrawn W3 p.d) p.os := fun r os => Calls.regrown_of (nnews_any S E B V K cs ce cb cv c n l _ (hR1.later (below_regrown W3 r os)) (hL1.later (below_regrown W3 r os)))
  have q6 : ∀ r os, Calls Try.prog 18 #[.agg #[.slice A1 n.s.length k1, .slice A2 n.e.length k2, .slice A3 n.b.length k3, .slice A4 n.ws.length k4], .agg #[.slice S n.s.length cs, .slice E n.e.length ce, .slice B n.b.length cb, .slice V n.ws.length cv]] (Sort.grow (redrawn W3 r) os) fun e w'' => e = .returned (.bool (true)) ∧ ∃ p : Regrown, w'' = Sort.grow (redrawn W3 p.d) p.os := fun r os => Calls.regrown_of ((show Calls Try.prog 18 #[.agg #[.slice A1 n.s.length k1, .slice A2 n.e.length k2, .slice A3 n.b.length k3, .slice A4 n.ws.length k4], .agg #[.slice S n.s.length cs, .slice E n.e.length ce, .slice B n.b.length cb, .slice V n.ws.length cv]] (Sort.grow (redrawn W3 r) os) (Says (.bool true) (Sort.grow (redrawn W3 r) os)) from by have q := nsame_any A1 A2 A3 A4 S E B V k1 k2 k3 k4 cs ce cb cv n n (Sort.grow (redrawn W3 r) os) (hN1.later (below_regrown W3 r os)) (hR1.later (below_regrown W3 r os)); rw [sameN_self] at q; exact q))
  obtain ⟨x1, hx1⟩ : ∃ x, Nt.fmd n = x := ⟨_, rfl⟩
  obtain ⟨x2, hx2⟩ : ∃ x, Ve.cov (Ve.cnt l) (Ve.cnt n.s) = x := ⟨_, rfl⟩
  obtain ⟨x3, hx3⟩ : ∃ x, (!Ve.cov (Ve.cnt l) (Ve.cnt n.e)) = x := ⟨_, rfl⟩
  rw [hx1] at q0 q1
  rw [hx2] at q2 q3
  rw [hx3] at q4 q5
  have Q0 := Lib.hid q0
  have Q1 := Lib.hid q1
  have Q2 := Lib.hid q2
  have Q3 := Lib.hid q3
  have Q4 := Lib.hid q4
  have Q5 := Lib.hid q5
  have Q6 := Lib.hid q6
  have HW3 := Lib.hid hW3
  clear q0 q1 q2 q3 q4 q5 q6 hx1 hx2 hx3 hN hN1 hR1 hL1 d0 d1 d2 d3 m0 m1 m2 m3 N0 N1 hX hW3 HWE
  go_wp2_with fail
  rw [HW3.out]
  refine wp_region_quiet_below (by kernel_rfl) (by kernel_rfl) ?_
  repeat (first | go_big_quiet_step (first | exact Q0.out _ _ | exact Q1.out _ _ | exact Q2.out _ _ | exact Q3.out _ _ | exact Q4.out _ _ | exact Q5.out _ _ | exact Q6.out _ _) | quiet_step (first | exact Q0.out _ _ | exact Q1.out _ _ | exact Q2.out _ _ | exact Q3.out _ _ | exact Q4.out _ _ | exact Q5.out _ _ | exact Q6.out _ _))
  refine wpQuiet_nil ?_
  intro _ hw'
  obtain ⟨⟨dq, osq⟩, hw''⟩ := hw'
  subst hw''
  go_wp2
  go_ret
  exact ⟨rfl, below_on b0 (below_on bA (below_regrown W3 dq osq))⟩

end Go.Proofs.Ytoaclofobfaflaa
namespace Go.Proofs.Ytoaclofobfaflaa.noteForms
open Go.ChangeShapes Go.WideShapes Go.ChangeAt Go.RowKit

theorem cellsStamp : Try.prog.cellsOf 33 = 2 := by kernel_rfl
theorem bytesStamp : Try.prog.bytesOf 33 = 16 := by kernel_rfl
theorem cellsSpan : Try.prog.cellsOf 50 = 2 := by kernel_rfl
theorem bytesSpan : Try.prog.bytesOf 50 = 16 := by kernel_rfl
theorem cellsWrite : Try.prog.cellsOf 35 = 4 := by kernel_rfl
theorem bytesWrite : Try.prog.bytesOf 35 = 32 := by kernel_rfl
theorem stampE {H : Type} {enc : TypeId × Value → H} {w : World} (fuel : Nat) (cs : List Value) (x : DataW H × List MemPlace) (h : DataW.trod enc Try.prog w 0 (fun _ => true) true fuel 33 cs = some x) : ∃ a, cs = stCell a := by
  obtain ⟨c, n, rfl, _⟩ := stamp_cells Try.underlying33 (by kernel_rfl) (by kernel_rfl) rfl rfl Try.underlying3 h
  exact ⟨(c, n), rfl⟩
theorem spanE {H : Type} {enc : TypeId × Value → H} {w : World} (fuel : Nat) (cs : List Value) (x : DataW H × List MemPlace) (h : DataW.trod enc Try.prog w 0 (fun _ => true) true fuel 50 cs = some x) : ∃ a, cs = stCell a := by
  obtain ⟨c, n, rfl, _⟩ := stamp_cells Try.underlying50 (by kernel_rfl) (by kernel_rfl) rfl rfl Try.underlying3 h
  exact ⟨(c, n), rfl⟩
theorem writeE {H : Type} {enc : TypeId × Value → H} {w : World} (fuel : Nat) (cs : List Value) (x : DataW H × List MemPlace) (h : DataW.trod enc Try.prog w 0 (fun _ => true) true fuel 35 cs = some x) : ∃ a, cs = Nt.wrCell a :=
  write_cells Try.underlying35 (by kernel_rfl) (by kernel_rfl) rfl (by kernel_rfl) rfl (by kernel_rfl) rfl Try.underlying33 (by kernel_rfl) rfl rfl Try.underlying3 Try.underlying3 Try.underlying4 h
theorem own : ownKnob Try.prog.godebug = none := by kernel_rfl
theorem laidOut : laidOutB Try.prog = true := by kernel_rfl
theorem reads : ∀ t ∈ Try.f3.params.toList, Try.prog.readableRec t = true ∧ t < Try.prog.types.size := by
  intro t ht
  rw [Try.params3] at ht
  have : t = 26 ∨ t = 22 := by simpa using ht
  rcases this with rfl | rfl <;> exact ⟨by kernel_rfl, of_decide_eq_true (by kernel_rfl)⟩

set_option maxRecDepth 100000 in
theorem lifted (os : Os) (started : os.Started) (H : Type) (enc : TypeId × Value → H) :
    ReturnsInHanded {} Try.checked os 3 .any (Rows.noteFormsSpec.pre6 enc Try.prog Try.f3 Rows.noteFormsRow.domain false) (Rows.noteFormsSpec.post enc Try.prog Try.f3 false true false false) := by
  refine returnsInHanded_of_change_sized (C := Try.checked) own started (by kernel_rfl) Try.func3
    (ChangeSpec.witness6 (enc := enc) (C := Try.checked) false ⟨#[], #[.agg #[.slice none 0 0, .slice none 0 0, .slice none 0 0, .slice none 0 0], .slice none 0 0], []⟩ 8 (by kernel_rfl) (by kernel_rfl) (by kernel_rfl) (by kernel_rfl)) ?_
  intro W base args ds gs before hval0 hW _ hsz0 _
  have hval : ∀ (j : Nat) t v, Try.f3.params[j]? = some t → args[j]? = some v → Value.okWide Try.prog W .any base t v := hval0
  have hsz : (DataW.weightsEach Try.prog (Try.f3.params.toList ++ Rows.noteFormsSpec.plain.varTypes Try.prog) (ds ++ gs)).all (· ≤ reachBytes) = true := hsz0
  have hW' := hW
  obtain ⟨p, q, hA0, hV, rfl, hfz, hnd⟩ := hW
  have hA : DataW.TrodAll enc Try.prog W 0 (fun _ => true) true Try.f3.params.toList args.toList ds p := hA0
  rw [Try.params3] at hA hval hsz
  obtain ⟨v0, vs0, d0, ds0, p0, q0, hargs, rfl, rfl, h0, r0⟩ := trodAll_cons hA
  obtain ⟨v1, vs1, d1, ds1, p1, q1, rfl, rfl, rfl, h1, r1⟩ := trodAll_cons r0
  obtain ⟨rfl, rfl, rfl⟩ := trodAll_nil r1
  obtain rfl : args = #[v0, v1] := by cases args; simp_all
  obtain ⟨rfl, rfl⟩ := trodVars_none hV
  obtain ⟨S0, E0, B0, V0, cs0, ce0, cb0, cv0, n0, rfl, o0, x00, x01, x02, x03, rfl, m00, m01, m02, m03⟩ := open_note Try.underlying26 (by kernel_rfl) (by kernel_rfl) Try.underlying22 Try.underlying22 Try.underlying23 Try.underlying24 (by kernel_rfl) (by kernel_rfl) (by kernel_rfl) stampE spanE writeE (hval 0 26 v0 rfl rfl) h0
  have z0s : n0.s.length * 16 ≤ 140737488355328 := by
    have := sized_field hsz (j := 0) (t := 26) rfl rfl Try.underlying26 (i := 0) (tf := 22) (e := 33) rfl rfl Try.underlying22 m00
    rw [bytesStamp] at this
    simp only [reachBytes] at this
    omega
  have z0e : n0.e.length * 16 ≤ 140737488355328 := by
    have := sized_field hsz (j := 0) (t := 26) rfl rfl Try.underlying26 (i := 1) (tf := 22) (e := 33) rfl rfl Try.underlying22 m01
    rw [bytesStamp] at this
    simp only [reachBytes] at this
    omega
  have z0b : n0.b.length * 16 ≤ 140737488355328 := by
    have := sized_field hsz (j := 0) (t := 26) rfl rfl Try.underlying26 (i := 2) (tf := 23) (e := 50) rfl rfl Try.underlying23 m02
    rw [bytesSpan] at this
    simp only [reachBytes] at this
    omega
  have z0w : n0.ws.length * 32 ≤ 140737488355328 := by
    have := sized_field hsz (j := 0) (t := 26) rfl rfl Try.underlying26 (i := 3) (tf := 24) (e := 35) rfl rfl Try.underlying24 m03
    rw [bytesWrite] at this
    simp only [reachBytes] at this
    omega
  obtain ⟨A1, cap1, l1, rfl, hc1, hm1, hn1, hl1, _, hd1⟩ := open_stamps Try.underlying22 Try.underlying33 (by kernel_rfl) cellsStamp rfl rfl Try.underlying3 (hval 1 22 v1 rfl rfl) h1
  have o1 : OneL W A1 cap1 l1 := ⟨hc1, hm1, hn1, hl1⟩
  clear hA0 hval0 hsz hsz0
  refine (lawNForms_any noteSpec S0 E0 B0 V0 A1 cs0 ce0 cb0 cv0 cap1 n0 l1 W z0s z0e z0b z0w o0 o1).mono fun e W' ⟨he, hg⟩ => ?_
  subst he
  exact ⟨_, rfl, law_post laidOut hW' rfl rfl (by kernel_rfl) Try.underlying4 reads hg⟩

theorem over : Rows.noteFormsRow.holds Try.pinned (OpenSpec.ofChange Rows.noteFormsSpec) :=
  OpenClaim.holds_of_wide 3 Try.f3 rfl rfl rfl rfl rfl rfl rfl ⟨rfl, rfl, rfl, rfl, rfl⟩ rfl rfl rfl rfl rfl (by kernel_rfl) Try.func3 (by kernel_rfl)
    (of_decide_eq_true (by kernel_rfl)) (by unfold Func.isWrapper; first | (rw [if_pos (by decide +kernel)]; kernel_rfl) | (rw [if_neg (by decide +kernel)]; exact ⟨rfl, rfl⟩))
    (fun os started H enc _ => lifted os started H enc)

/-- The statement. -/
theorem proved : Rows.NoteFormsSaid :=
  over

end Go.Proofs.Ytoaclofobfaflaa.noteForms
