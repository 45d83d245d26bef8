/-
  The law ShelfPuts over the contracts of shelf's functions.
  For any two lists of writes, the law ShelfPuts returns true and leaves its arguments as they were. No condition.
-/
import Derived.Test.YtbpgofgdlikedaaG19
import Derived.Test.YtbpgofgdlikedaaRows
import Derived.Test.YtbpgofgdlikedaaG09
import Derived.Test.YtbpgofgdlikedaaG01
import Derived.OpenShut
import Derived.WalkKit
import Derived.ProofKit
import Derived.SizedLaws
namespace Go.Proofs.Ytbpgofgdlikedaa
open Go.RowKit

set_option maxRecDepth 100000 in
set_option maxHeartbeats 12800000 in
theorem lawSfPuts_any (SS : ShelfSpec) (A B : Option Addr) (c d : Nat) (l r : List Wr) (w : World) (h : OneW w A c l) (h2 : OneW w B d r) (hl : l.length * 32 ≤ 140737488355328) (hr : r.length * 32 ≤ 140737488355328) :
    Calls Try.prog 4 #[.slice A l.length c, .slice B r.length d] w (Says (.bool true) w) := by
  obtain ⟨i0, hI, hz0, hz1, hz2⟩ := info_parts infoWr
  have N0 := Lib.hid (sfalive_any SS w)
  have N1 := Lib.hid (fun A1 B1 c1 d1 wx (h1 : OneW wx A1 c1 l) (h2 : OneW wx B1 d1 r) => SS.put A1 B1 c1 d1 l r wx hr h1 h2)
  have N2 := Lib.hid (fun wx (h1 : OneW wx A c l) (h2 : OneW wx B d r) => fput_any A B c d l r wx h1 h2)
  have HL := Lib.hid h
  have HR := Lib.hid h2
  clear h h2
  go_enter Try.func4, Try.ntmps4
  go_wp2_with fail
  refine N0.out.mono ?_
  rintro e w1 ⟨rfl, b1⟩
  have b1' := below_new b1 (.cells #[] 27)
  have hg := Blk.new w1 27 #[]
  have hgb := b1.size
  have HV := HL.out.later b1'
  go_wp2_with (at_builtin; refine wpList_append_fresh _ rfl _ _ 22 rfl w.heap.size w1.heap.size 27 i0 (.agg #[.int .i64 0, .int .i64 0, .int .i64 0, .bool false]) 4 32 Try.underlying22 hI hz0 hz1 hz2 rfl (by decide) rfl hg hgb A l.length c HV.2.2.1 (Nt.wrCells l) rfl (Nt.wrCells_length l) HV.2.2.2 (Nt.wrCells_one l) ?c3 ?c4 ?_)
  case c3 => have := HV.1; have := HV.2.1; omega
  case c4 => exact hl
  intro v2 w2 hown2 b2
  replace b2 : Below (w1.alloc (.cells #[] 27)).heap.size (w1.alloc (.cells #[] 27)) w2 := by simpa using b2
  have bb2 := below_on b1' b2
  obtain ⟨A2, c2, rfl, ho2⟩ := OneW.of_own hown2
  have O2 := Lib.hid ho2
  clear hown2 ho2 HV hg b1' b1 b2
  have b2' := below_new bb2 (.cells #[] 27)
  have hg := Blk.new w2 27 #[]
  have hgb := bb2.size
  have HV := HR.out.later b2'
  go_wp2_with (at_builtin; refine wpList_append_fresh _ rfl _ _ 22 rfl w.heap.size w2.heap.size 27 i0 (.agg #[.int .i64 0, .int .i64 0, .int .i64 0, .bool false]) 4 32 Try.underlying22 hI hz0 hz1 hz2 rfl (by decide) rfl hg hgb B r.length d HV.2.2.1 (Nt.wrCells r) rfl (Nt.wrCells_length r) HV.2.2.2 (Nt.wrCells_one r) ?c3 ?c4 ?_)
  case c3 => have := HV.1; have := HV.2.1; omega
  case c4 => exact hr
  intro v3 w3 hown3 b3
  replace b3 : Below (w2.alloc (.cells #[] 27)).heap.size (w2.alloc (.cells #[] 27)) w3 := by simpa using b3
  have bb3 := below_on b2' b3
  obtain ⟨A3, c3, rfl, ho3⟩ := OneW.of_own hown3
  have O3 := Lib.hid ho3
  have O2' := Lib.hid (O2.out.later (below_on (below_new (Below.refl w2.heap.size w2) (.cells #[] 27)) b3))
  clear hown3 ho3 HV hg b2' b3 O2 bb2
  have n1 := N1.out A2 A3 c2 c3 w3 O2'.out O3.out
  obtain ⟨⟨M, x⟩, hM⟩ : ∃ q, Sf.putR l r = q := ⟨_, rfl⟩
  rw [hM] at n1 N2
  dsimp only at n1 N2
  have N1' := Lib.hid n1
  clear n1 N1 N0 hM
  go_wp2_with fail
  refine N1'.out.mono ?_
  intro e w4 hq
  obtain ⟨A4, c4, rfl, hO4, b4⟩ := hq
  have bb4 := below_on bb3 b4
  have O4 := Lib.hid hO4
  have O2 := Lib.hid (O2'.out.later b4)
  have O3' := Lib.hid (O3.out.later b4)
  have N2' := Lib.hid (N2.out w4 (HL.out.later bb4) (HR.out.later bb4))
  clear hO4 O2' O3 N1' N2 b4 bb3
  go_wp2_with fail
  refine N2'.out.mono ?_
  intro e w5 hq
  obtain ⟨A5, c5, rfl, hO5, b5⟩ := hq
  have bb5 := below_on bb4 b5
  have n3 := nwrites_any A4 A5 c4 c5 M M w5 (O4.out.later b5) hO5
  rw [decide_eq_true rfl] at n3
  have N3 := Lib.hid n3
  have O2' := Lib.hid (O2.out.later b5)
  have O3 := Lib.hid (O3'.out.later b5)
  clear n3 hO5 O4 O2 O3' N2' b5 bb4
  go_wp2_with fail
  refine N3.out.mono ?_
  rintro e w6 ⟨rfl, b6⟩
  have bb6 := below_on bb5 b6
  have n4 := nwrites_any A2 A c2 c l l w6 (O2'.out.later b6) (HL.out.later bb6)
  rw [decide_eq_true rfl] at n4
  have N4 := Lib.hid n4
  have O3' := Lib.hid (O3.out.later b6)
  clear n4 O2' O3 N3 b6 bb5
  go_wp2_with fail
  refine N4.out.mono ?_
  rintro e w7 ⟨rfl, b7⟩
  have bb7 := below_on bb6 b7
  have n5 := nwrites_any A3 B c3 d r r w7 (O3'.out.later b7) (HR.out.later bb7)
  rw [decide_eq_true rfl] at n5
  have N5 := Lib.hid n5
  clear n5 O3' N4 b7 bb6
  go_wp2_with fail
  refine N5.out.mono ?_
  rintro e w8 ⟨rfl, b8⟩
  go_wp2
  go_ret
  exact ⟨by first | rfl | simp, below_on bb7 b8⟩
end Go.Proofs.Ytbpgofgdlikedaa
namespace Go.Proofs.Ytbpgofgdlikedaa.shelfPuts
open Go.ChangeShapes Go.WideShapes Go.ChangeAt Go.RowKit

theorem cellsWrite : Try.prog.cellsOf 27 = 4 := by kernel_rfl
theorem bytesWrite : Try.prog.bytesOf 27 = 32 := by kernel_rfl
theorem writeE {H : Type} {enc : TypeId × Value → H} {w : World} (fuel : Nat) (cs : List Value) (x : DataW H × List MemPlace) (h : DataW.trod enc Try.prog w 0 (fun _ => true) true fuel 27 cs = some x) : ∃ a, cs = Nt.wrCell a :=
  write_cells Try.underlying27 (by kernel_rfl) (by kernel_rfl) rfl (by kernel_rfl) rfl (by kernel_rfl) rfl Try.underlying25 (by kernel_rfl) rfl rfl Try.underlying3 Try.underlying3 Try.underlying4 h
theorem own : ownKnob Try.prog.godebug = none := by kernel_rfl
theorem laidOut : laidOutB Try.prog = true := by kernel_rfl
theorem reads : ∀ t ∈ Try.f4.params.toList, Try.prog.readableRec t = true ∧ t < Try.prog.types.size := by
  intro t ht
  rw [Try.params4] at ht
  obtain rfl : t = 22 := by simpa using ht
  exact ⟨by kernel_rfl, of_decide_eq_true (by kernel_rfl)⟩

set_option maxRecDepth 100000 in
theorem lifted (os : Os) (started : os.Started) (H : Type) (enc : TypeId × Value → H) :
    ReturnsInHanded {} Try.checked os 4 .any (Rows.shelfPutsSpec.pre6 enc Try.prog Try.f4 Rows.shelfPutsRow.domain false) (Rows.shelfPutsSpec.post enc Try.prog Try.f4 false true false false) := by
  refine returnsInHanded_of_change_sized (C := Try.checked) own started (by kernel_rfl) Try.func4
    (ChangeSpec.witness6 (enc := enc) (C := Try.checked) false ⟨#[], #[.slice none 0 0, .slice none 0 0], []⟩ 8 (by kernel_rfl) (by kernel_rfl) (by kernel_rfl) (by kernel_rfl)) ?_
  intro W base args ds gs before hval0 hW _ hsz0 _
  have hval : ∀ (j : Nat) t v, Try.f4.params[j]? = some t → args[j]? = some v → Value.okWide Try.prog W .any base t v := hval0
  have hsz : (DataW.weightsEach Try.prog (Try.f4.params.toList ++ Rows.shelfPutsSpec.plain.varTypes Try.prog) (ds ++ gs)).all (· ≤ reachBytes) = true := hsz0
  have hW' := hW
  obtain ⟨p, q, hA0, hV, rfl, hfz, hnd⟩ := hW
  have hA : DataW.TrodAll enc Try.prog W 0 (fun _ => true) true Try.f4.params.toList args.toList ds p := hA0
  rw [Try.params4] at hA hval hsz
  obtain ⟨v0, vs0, d0, ds0, p0, q0, hargs, rfl, rfl, h0, r0⟩ := trodAll_cons hA
  obtain ⟨v1, vs1, d1, ds1, p1, q1, rfl, rfl, rfl, h1, r1⟩ := trodAll_cons r0
  obtain ⟨rfl, rfl, rfl⟩ := trodAll_nil r1
  obtain rfl : args = #[v0, v1] := by cases args; simp_all
  obtain ⟨rfl, rfl⟩ := trodVars_none hV
  obtain ⟨A0, cap0, l0, rfl, hc0, hm0, hn0, hl0, _, hd0⟩ := open_list Nt.zeroW Nt.wrCell (fun _ => True) (size := 4) (fun _ => rfl) Try.underlying22 cellsWrite (by decide) (fun fuel cs x hx => (writeE fuel cs x hx).elim fun a ha => ⟨a, ha, trivial⟩) (hval 0 22 v0 rfl rfl) h0
  have o0 : OneW W A0 cap0 l0 := ⟨hc0, hm0, hn0, hl0⟩
  have z0 : l0.length * 32 ≤ 140737488355328 := by
    rcases hd0 with ⟨_, h, _⟩ | ⟨elems, spare, rfl, h1, h2⟩
    · omega
    · have := sized_slice hsz (j := 0) (t := 22) (e := 27) rfl rfl Try.underlying22
      rw [bytesWrite] at this
      simp only [reachBytes] at this
      omega
  obtain ⟨A1, cap1, l1, rfl, hc1, hm1, hn1, hl1, _, hd1⟩ := open_list Nt.zeroW Nt.wrCell (fun _ => True) (size := 4) (fun _ => rfl) Try.underlying22 cellsWrite (by decide) (fun fuel cs x hx => (writeE fuel cs x hx).elim fun a ha => ⟨a, ha, trivial⟩) (hval 1 22 v1 rfl rfl) h1
  have o1 : OneW W A1 cap1 l1 := ⟨hc1, hm1, hn1, hl1⟩
  have z1 : l1.length * 32 ≤ 140737488355328 := by
    rcases hd1 with ⟨_, h, _⟩ | ⟨elems, spare, rfl, h1, h2⟩
    · omega
    · have := sized_slice hsz (j := 1) (t := 22) (e := 27) rfl rfl Try.underlying22
      rw [bytesWrite] at this
      simp only [reachBytes] at this
      omega
  clear hA0 hval0 hsz hsz0
  refine (lawSfPuts_any shelfSpec A0 A1 cap0 cap1 l0 l1 W o0 o1 z0 z1).mono fun e W' ⟨he, hg⟩ => ?_
  subst he
  exact ⟨_, rfl, law_post laidOut hW' rfl rfl (by kernel_rfl) Try.underlying4 reads hg⟩

theorem over : Rows.shelfPutsRow.holds Try.pinned (OpenSpec.ofChange Rows.shelfPutsSpec) :=
  OpenClaim.holds_of_wide 4 Try.f4 rfl rfl rfl rfl rfl rfl rfl ⟨rfl, rfl, rfl, rfl, rfl⟩ rfl rfl rfl rfl rfl (by kernel_rfl) Try.func4 (by kernel_rfl)
    (of_decide_eq_true (by kernel_rfl)) (by unfold Func.isWrapper; first | (rw [if_pos (by decide +kernel)]; kernel_rfl) | (rw [if_neg (by decide +kernel)]; exact ⟨rfl, rfl⟩))
    (fun os started H enc _ => lifted os started H enc)

/-- The statement. -/
theorem proved : Rows.ShelfPutsSaid :=
  over

end Go.Proofs.Ytbpgofgdlikedaa.shelfPuts
