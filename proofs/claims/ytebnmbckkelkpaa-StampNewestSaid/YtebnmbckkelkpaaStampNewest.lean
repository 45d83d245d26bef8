/-
  For every list of stamps, nil too, the law StampNewest returns true and leaves the list as it was: Newest answers as the document says. No condition.
-/
import Derived.Test.YtebnmbckkelkpaaRows
import Derived.Test.YtebnmbckkelkpaaLaw
import Derived.Test.YtebnmbckkelkpaaOpen
import Derived.Test.YtebnmbckkelkpaaStampNewestCalls
import Derived.OpenShut
import Derived.WalkKit
import Derived.ProofKit
import Derived.WalkSpells
import Derived.OwnWalk
import Derived.SizedLaws
import Derived.Deep.Slices
import Derived.Deep.DeepCutAuto
import Derived.BigQuiet
import Derived.Deep.QuietTactic
import Derived.WalkSmall
namespace Go.Proofs.Ytebnmbckkelkpaa.stampNewest
open Go.ChangeShapes Go.WideShapes Go.ChangeAt Go.RowKit

theorem info : (Try.prog.info? 23).map (fun i => (i.zero, i.size, i.bytes)) = some (some (.agg #[.int .i64 0, .int .i64 0]), 2, 16) := by kernel_rfl

theorem newest_two (b : Nat) (w : World) (h0 : w.cell? ⟨b, 0, none⟩ = some (.int .i64 1)) (h1 : w.cell? ⟨b, 1, none⟩ = some (.int .i64 0)) (h2 : w.cell? ⟨b, 2, none⟩ = some (.int .i64 1)) (h3 : w.cell? ⟨b, 3, none⟩ = some (.int .i64 4)) :
    Calls Try.prog 13 #[.slice (some ⟨b, 0, none⟩) 2 2] w fun e w' => e = .returned (.tuple #[.agg #[.int .i64 1, .int .i64 4], .bool true]) ∧ Below w.heap.size w w' := by
  have hn : St.newestOf (1, 0) [(1, 4)] = (1, 4) := by decide
  have h := newest_some b 0 2 (1, 0) [(1, 4)] (by decide) (by decide) w (by
    intro k hk
    have hk2 : k = 0 ∨ k = 1 := by simp at hk; omega
    rcases hk2 with rfl | rfl
    · exact ⟨h0, h1⟩
    · exact ⟨h2, h3⟩)
  rw [hn] at h
  exact h

set_option maxRecDepth 100000 in
set_option maxHeartbeats 1600000 in
theorem walk (A : Option Addr) (cap : Nat) (l : List (Int × Int)) (w : World) (hl : l.length * 16 ≤ 140737488351232) (hcap : l.length ≤ cap) (hA : A = none → l.length = 0 ∧ cap = 0) (h : Lies w A (stCells l)) :
    Calls Try.prog 5 #[.slice A l.length cap] w fun e w' => e = .returned (.bool true) ∧ Below w.heap.size w w' := by
  obtain ⟨i0, hi, hz0, hz1, hz2⟩ := info_parts info
  have hown : (w.alloc (.cells #[] 23)).ownsRow w.heap.size 23 2 (.slice (some ⟨w.heap.size, 0, none⟩) 0 0) 0 [] :=
    ⟨rfl, .inr ⟨w.heap.size, 0, #[], rfl, Nat.le_refl _, heap_alloc_new w _, Nat.le_refl _, Nat.zero_le _, rfl, rfl⟩⟩
  have HA := Lib.hid hA
  clear hA
  go_enter Try.func5, Try.ntmps5
  go_wp2_with (at_builtin; refine wpList_append_lies _ rfl _ _ 31 rfl w.heap.size 23 i0 (.agg #[.int .i64 0, .int .i64 0]) 2 16 Try.underlying31 hi hz0 hz1 hz2 rfl (by decide) _ 0 [] rfl hown A l.length cap HA.out (stCells l) rfl (stCells_length l) (h.alloc _) (stCells_one l) ?c3 ?c4 ?c5 ?_)
  case c3 => unfold maxLen; omega
  case c4 => omega
  case c5 => simp
  intro v' w1 hown1 hg1 _
  have hbw : Below w.heap.size w w1 := (below_new (Below.refl _ _) (.cells #[] 23)).grown hg1 (by simp) (by intro k hk; simp [Value.ownBlock] at hk; omega)
  try simp only [Nat.zero_add, List.nil_append] at hown1
  obtain ⟨A', c', rfl, hc1, hc2, hA', hl1⟩ := own_form hown1
  have hla := h.later hbw
  have HA' := Lib.hid hA'
  clear hown hown1 hg1 hA'
  go_wp2_with fail
  refine (newest_any _ _ _ _ (by omega) hc1 (Stamps.of_lies hl1)).mono ?_
  rintro e w2 ⟨rfl, hb2⟩
  have hlb := hla.later hb2
  have hlc := hl1.later hb2
  have hbx := below_on hbw hb2
  clear hla hl1 hbw
  have k0 := Blk.new w2 23 #[.int .i64 (St.nwS l).1, .int .i64 (St.nwS l).2]
  have hb20 := below_new hbx (.cells #[.int .i64 (St.nwS l).1, .int .i64 (St.nwS l).2] 23)
  have HK0 := Lib.hid k0
  clear k0
  go_wp2_with fail
  refine (rnewest_any _ _ _ _ (by omega) (Stamps.of_lies (hlb.alloc _))).mono ?_
  rintro e w3 ⟨rfl, hb3⟩
  have hld := (hlb.alloc (.cells #[.int .i64 (St.nwS l).1, .int .i64 (St.nwS l).2] 23)).later hb3
  have hle := (hlc.alloc (.cells #[.int .i64 (St.nwS l).1, .int .i64 (St.nwS l).2] 23)).later hb3
  have hby := below_on hb20 hb3
  have K1 := Lib.hid (HK0.out.later hb3)
  clear hlb hlc hbx HK0 hb20
  go_wp2_with fail
  go_loopw [8] (fun s8 wr => ∃ k : Nat, k ≤ l.length ∧ s8 = .int .i64 (k : Int) ∧ Lies wr A (stCells l) ∧ Lies wr A' (stCells l) ∧
      Blk wr w2.heap.size 23 #[.int .i64 (St.nwS l).1, .int .i64 (St.nwS l).2] ∧ Blk wr w3.heap.size 23 #[.int .i64 (St.nwS l).1, .int .i64 (St.nwS l).2] ∧ Below w.heap.size w wr) (fun s8 _ => l.length - (intOf s8).toNat)
  case atStart =>
    exact ⟨0, Nat.zero_le _, rfl, hld.alloc _, hle.alloc _, K1.out.alloc _, Blk.new _ _ _, below_new hby _⟩
  case round =>
    obtain ⟨k, hk, rfl, hr1, hr2, hr3, hr4, hr5⟩ := hrel
    clear hld hle hby
    by_cases hlt : k < l.length
    · have hne : l ≠ [] := fun e => by subst e; simp at hlt
      obtain ⟨b, off, hAe, hcA⟩ := Stamps.of_lies hr1 hne
      obtain ⟨b', off', hAe', hcA'⟩ := Stamps.of_lies hr2 hne
      obtain ⟨e0, e1⟩ := hcA k hlt
      obtain ⟨f0, f1⟩ := hcA' k hlt
      have R1 := Lib.hid hr1
      have R2 := Lib.hid hr2
      have R3 := Lib.hid hr3
      have R4 := Lib.hid hr4
      clear hr1 hr2 hr3 hr4 hcA hcA'
      subst hAe hAe'
      have hi0 : (0 : Int) ≤ (k : Int) := by omega
      have hi1 : (k : Int) < (l.length : Int) := by omega
      go_wp2_with fail
      go_quiet (fail)
      go_wp2_with fail
      go_roundw
      case rel => exact ⟨k + 1, by omega, by go_num, R1.out.drewN _, R2.out.drewN _, R3.out.drewN _, R4.out.drewN _, below_drewN hr5 _⟩
      case measure => simp [intOf]; omega
    · have m0 : wr.cell? ⟨w2.heap.size, 0, none⟩ = some (.int .i64 (St.nwS l).1) := hr3.cell rfl
      have m1 : wr.cell? ⟨w2.heap.size, 1, none⟩ = some (.int .i64 (St.nwS l).2) := hr3.cell rfl
      have n0 : wr.cell? ⟨w3.heap.size, 0, none⟩ = some (.int .i64 (St.nwS l).1) := hr4.cell rfl
      have n1 : wr.cell? ⟨w3.heap.size, 1, none⟩ = some (.int .i64 (St.nwS l).2) := hr4.cell rfl
      clear hr1 hr2 hr3 hr4
      go_wp2_with fail
      refine (newest_two wr.heap.size _ (by go_simp) (by go_simp) (by go_simp) (by go_simp)).mono ?_
      rintro e w4 ⟨rfl, hb4⟩
      have m0' := cell_later hb4 (World.cell?_alloc_lt _ _ _ (World.block_lt_of_cell? _ _ m0) |>.trans m0)
      have m1' := cell_later hb4 (World.cell?_alloc_lt _ _ _ (World.block_lt_of_cell? _ _ m1) |>.trans m1)
      have n0' := cell_later hb4 (World.cell?_alloc_lt _ _ _ (World.block_lt_of_cell? _ _ n0) |>.trans n0)
      have n1' := cell_later hb4 (World.cell?_alloc_lt _ _ _ (World.block_lt_of_cell? _ _ n1) |>.trans n1)
      have hb5 := below_on (below_new hr5 _) hb4
      have z0 := World.block_lt_of_cell? _ _ m0'
      have z1 := World.block_lt_of_cell? _ _ n0'
      clear m0 m1 n0 n1
      go_wp2
      go_ret
      exact ⟨rfl, below_new hb5 _⟩

theorem own : ownKnob Try.prog.godebug = none := by kernel_rfl
theorem laidOut : laidOutB Try.prog = true := by kernel_rfl
theorem cells : Try.prog.cellsOf 23 = 2 := by kernel_rfl
theorem bytes : Try.prog.bytesOf 23 = 16 := by kernel_rfl
theorem reads : ∀ t ∈ Try.f5.params.toList, Try.prog.readableRec t = true ∧ t < Try.prog.types.size := by
  intro t ht
  rw [Try.params5] at ht
  obtain rfl : t = 31 := by simpa using ht
  exact ⟨by kernel_rfl, of_decide_eq_true (by kernel_rfl)⟩

set_option maxRecDepth 100000 in
theorem lifted (os : Os) (started : os.Started) (H : Type) (enc : TypeId × Value → H) :
    ReturnsInHanded {} Try.checked os 5 .any (Rows.stampNewestSpec.pre6 enc Try.prog Try.f5 Rows.stampNewestRow.domain false) (Rows.stampNewestSpec.post enc Try.prog Try.f5 false true false false) := by
  refine returnsInHanded_of_change_sized (C := Try.checked) own started (by kernel_rfl) Try.func5
    (ChangeSpec.witness6 (enc := enc) (C := Try.checked) false ⟨#[], #[.slice none 0 0], []⟩ 8 (by kernel_rfl) (by kernel_rfl) (by kernel_rfl) (by kernel_rfl)) ?_
  intro W base args ds gs before hval0 hW _ hsz0 _
  have hval : ∀ (j : Nat) t v, Try.f5.params[j]? = some t → args[j]? = some v → Value.okWide Try.prog W .any base t v := hval0
  have hsz : (DataW.weightsEach Try.prog (Try.f5.params.toList ++ Rows.stampNewestSpec.plain.varTypes Try.prog) (ds ++ gs)).all (· ≤ reachBytes) = true := hsz0
  have hW' := hW
  obtain ⟨p, q, hA0, hV, rfl, hfz, hnd⟩ := hW
  have hA : DataW.TrodAll enc Try.prog W 0 (fun _ => true) true Try.f5.params.toList args.toList ds p := hA0
  rw [Try.params5] at hA hval hsz
  obtain ⟨v0, vs0, d0, ds0, p0, q0, hargs, rfl, rfl, h0, r0⟩ := trodAll_cons hA
  obtain ⟨rfl, rfl, rfl⟩ := trodAll_nil r0
  obtain rfl : args = #[v0] := by cases args; simp_all
  obtain ⟨rfl, rfl⟩ := trodVars_none hV
  obtain ⟨A, cap, l, rfl, hcap, _, hA2, hl, _, hd⟩ := open_stamps Try.underlying31 Try.underlying23 (by kernel_rfl) cells rfl rfl Try.underlying3 (hval 0 31 v0 rfl rfl) h0
  have hlen : l.length * 16 ≤ 140737488351232 := by
    rcases hd with ⟨_, h, _⟩ | ⟨elems, spare, rfl, h1, h2⟩
    · omega
    · have := sized_slice hsz (j := 0) (t := 31) (e := 23) rfl rfl Try.underlying31
      rw [bytes] at this
      simp only [reachBytes] at this
      omega
  clear hA0 hval0 hsz hsz0
  refine (walk A cap l W hlen hcap hA2 hl).mono fun e W' ⟨he, hg⟩ => ?_
  subst he
  exact ⟨_, rfl, law_post laidOut hW' rfl rfl (by kernel_rfl) Try.underlying4 reads hg⟩

theorem over : Rows.stampNewestRow.holds Try.pinned (OpenSpec.ofChange Rows.stampNewestSpec) :=
  OpenClaim.holds_of_wide 5 Try.f5 rfl rfl rfl rfl rfl rfl rfl ⟨rfl, rfl, rfl, rfl, rfl⟩ rfl rfl rfl rfl rfl (by kernel_rfl) Try.func5 (by kernel_rfl)
    (of_decide_eq_true (by kernel_rfl)) (by unfold Func.isWrapper; first | (rw [if_pos (by decide +kernel)]; kernel_rfl) | (rw [if_neg (by decide +kernel)]; exact ⟨rfl, rfl⟩))
    (fun os started H enc _ => lifted os started H enc)

/-- The statement. -/
theorem proved : Rows.StampNewestSaid :=
  over

end Go.Proofs.Ytebnmbckkelkpaa.stampNewest
