/-
  For every three stamps, every node byte and every skip, the law StampRises returns true and leaves its arguments as they were: Compare is an order, and the next stamp comes behind. No condition.
-/
import Derived.Test.YtebnmbckkelkpaaRows
import Derived.Test.YtebnmbckkelkpaaLaw
import Derived.Test.YtebnmbckkelkpaaStampNext
import Derived.OpenShut
import Derived.WalkKit
import Derived.ProofKit
import Derived.WalkSpells
import Derived.RegionTactic
import Derived.Deep.DeepCutAuto
namespace Go.Proofs.Ytebnmbckkelkpaa.stampRises
open Go.ChangeShapes Go.WideShapes Go.ChangeAt Go.RowKit

set_option maxRecDepth 100000 in
set_option maxHeartbeats 1600000 in
theorem walk (c0 n0 c1 n1 c2 n2 node skip : Int) (w : World) (hc0 : c0 ≤ 9223372036854775807) (hs0 : skip ≤ 9223372036854775807) (hn0 : 0 ≤ node) (hn1 : node ≤ 255) :
    Calls Try.prog 6 #[.agg #[.int .i64 c0, .int .i64 n0, .int .i64 c1, .int .i64 n1, .int .i64 c2, .int .i64 n2], .int .u8 node, .int .i64 skip] w fun e w' => e = .returned (.bool true) ∧ Below w.heap.size w w' := by
  go_enter Try.func6, Try.ntmps6
  go_upto_region 1 with fail
  go_cut [7, 8, 9] (fun s7 s8 s9 wx => ∃ g7 g8 g9 : Nat, s7 = .pointer (some ⟨g7, 0, none⟩) ∧ s8 = .pointer (some ⟨g8, 0, none⟩) ∧ s9 = .pointer (some ⟨g9, 0, none⟩) ∧
    wx.cell? ⟨g7, 0, none⟩ = some (.int .i64 c0) ∧ wx.cell? ⟨g7, 1, none⟩ = some (.int .i64 n0) ∧ wx.cell? ⟨g8, 0, none⟩ = some (.int .i64 c1) ∧ wx.cell? ⟨g8, 1, none⟩ = some (.int .i64 n1) ∧
    wx.cell? ⟨g9, 0, none⟩ = some (.int .i64 c2) ∧ wx.cell? ⟨g9, 1, none⟩ = some (.int .i64 n2) ∧ Below w.heap.size w wx)
  case first =>
    go_region
    all_goals
      go_wp2_with fail
      go_meet
      refine ⟨_, _, _, rfl, rfl, rfl, by go_simp, by go_simp, by go_simp, by go_simp, by go_simp, by go_simp, ?_⟩
      repeat (first | exact Below.refl _ _ | (apply Below.drew) | (apply below_new))
  case rest =>
    obtain ⟨g7, g8, g9, rfl, rfl, rfl, a0, a1, b0, b1, d0, d1, hbw⟩ := hcut
    go_upto_region 2 with fail
    go_cut [10, 11, 12] (fun s10 s11 s12 wx => s10 = .int .i64 (St.cmpS c0 n0 c1 n1) ∧ s11 = .int .i64 (St.cmpS c1 n1 c2 n2) ∧ s12 = .int .i64 (St.cmpS c0 n0 c2 n2) ∧
      wx.cell? ⟨g7, 0, none⟩ = some (.int .i64 c0) ∧ wx.cell? ⟨g7, 1, none⟩ = some (.int .i64 n0) ∧ wx.cell? ⟨g8, 0, none⟩ = some (.int .i64 c1) ∧ wx.cell? ⟨g8, 1, none⟩ = some (.int .i64 n1) ∧
      wx.cell? ⟨g9, 0, none⟩ = some (.int .i64 c2) ∧ wx.cell? ⟨g9, 1, none⟩ = some (.int .i64 n2) ∧ Below w.heap.size w wx)
    case first =>
      go_region_held3 (fun wx => wx.cell? ⟨g7, 0, none⟩ = some (.int .i64 c0) ∧ wx.cell? ⟨g7, 1, none⟩ = some (.int .i64 n0) ∧ wx.cell? ⟨g8, 0, none⟩ = some (.int .i64 c1) ∧ wx.cell? ⟨g8, 1, none⟩ = some (.int .i64 n1) ∧
          wx.cell? ⟨g9, 0, none⟩ = some (.int .i64 c2) ∧ wx.cell? ⟨g9, 1, none⟩ = some (.int .i64 n2) ∧ Below w.heap.size w wx)
        (first
          | exact ⟨a0, a1, b0, b1, d0, d1, hbw.drew⟩
          | (go_split_ands
             exact ⟨cell_later hb (by assumption), cell_later hb (by assumption), cell_later hb (by assumption), cell_later hb (by assumption), cell_later hb (by assumption), cell_later hb (by assumption), Below.trans (by assumption) (hb.mono (Below.size (by assumption)))⟩))
        (first
          | (go_at_call 7; refine (compare_any _ _ _ _ _).mono ?_; rintro e w' ⟨rfl, hb⟩))
      all_goals (go_wp2_with fail; go_meet; exact ⟨rfl, rfl, rfl, by assumption⟩)
    case rest =>
      obtain ⟨rfl, rfl, rfl, p0, p1, q0, q1, r0, r1, hbx⟩ := hcut
      clear a0 a1 b0 b1 d0 d1 hbw
      have hneg : St.cmpS c1 n1 c0 n0 = -(St.cmpS c0 n0 c1 n1) := St.cmpS_neg c0 n0 c1 n1
      have hbd := St.cmpS_bd c0 n0 c1 n1
      have htr : St.cmpS c0 n0 c1 n1 ≤ 0 → St.cmpS c1 n1 c2 n2 ≤ 0 → St.cmpS c0 n0 c2 n2 ≤ 0 := St.cmpS_trans
      have heq : St.cmpS c0 n0 c1 n1 = 0 → c0 = c1 ∧ n0 = n1 := St.cmpS_zero.1
      generalize St.cmpS c0 n0 c1 n1 = x at *
      generalize St.cmpS c1 n1 c2 n2 = y at *
      generalize St.cmpS c0 n0 c2 n2 = z at *
      go_upto_region 3 with fail
      go_cut [56] (fun s56 wx => s56 = .bool false ∧ wx.cell? ⟨g7, 0, none⟩ = some (.int .i64 c0) ∧ wx.cell? ⟨g7, 1, none⟩ = some (.int .i64 n0) ∧ wx.cell? ⟨g8, 0, none⟩ = some (.int .i64 c1) ∧ wx.cell? ⟨g8, 1, none⟩ = some (.int .i64 n1) ∧ wx.cell? ⟨g9, 0, none⟩ = some (.int .i64 c2) ∧ wx.cell? ⟨g9, 1, none⟩ = some (.int .i64 n2) ∧ Below w.heap.size w wx)
      case first =>
        have hx : x = 1 ∨ x = -1 ∨ x = 0 := by omega
        have HN := Lib.hid hneg
        have HE := Lib.hid heq
        have HT := Lib.hid htr
        clear hneg heq htr hbd
        rcases hx with rfl | rfl | rfl
        · go_wp2_with (go_at_call 7; refine (compare_any _ _ _ _ _).mono ?_; rintro e w' ⟨rfl, hb⟩; rw [HN.out]; have k0 := cell_later hb p0; have k1 := cell_later hb p1; have k2 := cell_later hb q0; have k3 := cell_later hb q1)
          go_meet
          exact ⟨rfl, cell_later hb p0, cell_later hb p1, cell_later hb q0, cell_later hb q1, cell_later hb r0, cell_later hb r1, below_on hbx hb⟩
        · by_cases hy : y ≤ 0
          · have hz := HT.out (by omega) hy
            have ty : decide (y ≤ 0) = true := decide_eq_true hy
            have tz : decide (0 < z) = false := decide_eq_false (by omega)
            go_wp2_with (go_at_call 7; refine (compare_any _ _ _ _ _).mono ?_; rintro e w' ⟨rfl, hb⟩; rw [HN.out]; have k0 := cell_later hb p0; have k1 := cell_later hb p1; have k2 := cell_later hb q0; have k3 := cell_later hb q1)
            go_meet
            exact ⟨rfl, cell_later hb p0, cell_later hb p1, cell_later hb q0, cell_later hb q1, cell_later hb r0, cell_later hb r1, below_on hbx hb⟩
          · have ty : decide (y ≤ 0) = false := decide_eq_false hy
            go_wp2_with (go_at_call 7; refine (compare_any _ _ _ _ _).mono ?_; rintro e w' ⟨rfl, hb⟩; rw [HN.out]; have k0 := cell_later hb p0; have k1 := cell_later hb p1; have k2 := cell_later hb q0; have k3 := cell_later hb q1)
            go_meet
            exact ⟨rfl, cell_later hb p0, cell_later hb p1, cell_later hb q0, cell_later hb q1, cell_later hb r0, cell_later hb r1, below_on hbx hb⟩
        · obtain ⟨rfl, rfl⟩ := HE.out rfl
          by_cases hy : y ≤ 0
          · have hz := HT.out (by omega) hy
            have ty : decide (y ≤ 0) = true := decide_eq_true hy
            have tz : decide (0 < z) = false := decide_eq_false (by omega)
            go_wp2_with (go_at_call 7; refine (compare_any _ _ _ _ _).mono ?_; rintro e w' ⟨rfl, hb⟩; rw [HN.out]; have k0 := cell_later hb p0; have k1 := cell_later hb p1; have k2 := cell_later hb q0; have k3 := cell_later hb q1)
            go_meet
            exact ⟨rfl, cell_later hb p0, cell_later hb p1, cell_later hb q0, cell_later hb q1, cell_later hb r0, cell_later hb r1, below_on hbx hb⟩
          · have ty : decide (y ≤ 0) = false := decide_eq_false hy
            go_wp2_with (go_at_call 7; refine (compare_any _ _ _ _ _).mono ?_; rintro e w' ⟨rfl, hb⟩; rw [HN.out]; have k0 := cell_later hb p0; have k1 := cell_later hb p1; have k2 := cell_later hb q0; have k3 := cell_later hb q1)
            go_meet
            exact ⟨rfl, cell_later hb p0, cell_later hb p1, cell_later hb q0, cell_later hb q1, cell_later hb r0, cell_later hb r1, below_on hbx hb⟩
      case rest =>
        obtain ⟨rfl, e0, e1, f0, f1, g0, g1, hby⟩ := hcut
        clear p0 p1 q0 q1 r0 r1 hbx heq htr hbd hneg
        obtain ⟨M, hM⟩ : ∃ M : Int, (c0 ≤ 0 ∧ M = 0) ∨ (0 < c0 ∧ M = c0) := by
          by_cases h : c0 ≤ 0
          · exact ⟨0, .inl ⟨h, rfl⟩⟩
          · exact ⟨c0, .inr ⟨by omega, rfl⟩⟩
        obtain ⟨K, hK⟩ : ∃ K : Int, (skip ≤ 0 ∧ K = 0) ∨ (0 < skip ∧ K = skip) := by
          by_cases h : skip ≤ 0
          · exact ⟨0, .inl ⟨h, rfl⟩⟩
          · exact ⟨skip, .inr ⟨by omega, rfl⟩⟩
        go_upto_region 5 with fail
        go_cut [13, 14] (fun s13 s14 wx => ∃ g13 : Nat, s13 = .pointer (some ⟨g13, 0, none⟩) ∧ s14 = .int .i64 (St.nextE M (node % 64) K) ∧ wx.cell? ⟨g13, 0, none⟩ = some (.int .i64 (St.nextC M (node % 64) K)) ∧ wx.cell? ⟨g13, 1, none⟩ = some (.int .i64 (St.nextN M (node % 64) K)) ∧ wx.cell? ⟨g7, 0, none⟩ = some (.int .i64 c0) ∧ wx.cell? ⟨g7, 1, none⟩ = some (.int .i64 n0) ∧ wx.cell? ⟨g8, 0, none⟩ = some (.int .i64 c1) ∧ wx.cell? ⟨g8, 1, none⟩ = some (.int .i64 n1) ∧ wx.cell? ⟨g9, 0, none⟩ = some (.int .i64 c2) ∧ wx.cell? ⟨g9, 1, none⟩ = some (.int .i64 n2) ∧ Below w.heap.size w wx)
        case first =>
          rcases hM with ⟨hM, rfl⟩ | ⟨hM, rfl⟩ <;> rcases hK with ⟨hK, rfl⟩ | ⟨hK, rfl⟩
          all_goals
            go_wp2_with fail
            refine (next_any _ _ _ _ (by omega)).mono ?_
            rintro e w' ⟨rfl, hb⟩
            go_wp2_with fail
            go_meet
            exact ⟨_, rfl, rfl, by go_simp, by go_simp, (World.cell?_alloc_lt _ _ _ (World.block_lt_of_cell? _ _ (cell_later hb e0))).trans (cell_later hb e0), (World.cell?_alloc_lt _ _ _ (World.block_lt_of_cell? _ _ (cell_later hb e1))).trans (cell_later hb e1), (World.cell?_alloc_lt _ _ _ (World.block_lt_of_cell? _ _ (cell_later hb f0))).trans (cell_later hb f0), (World.cell?_alloc_lt _ _ _ (World.block_lt_of_cell? _ _ (cell_later hb f1))).trans (cell_later hb f1), (World.cell?_alloc_lt _ _ _ (World.block_lt_of_cell? _ _ (cell_later hb g0))).trans (cell_later hb g0), (World.cell?_alloc_lt _ _ _ (World.block_lt_of_cell? _ _ (cell_later hb g1))).trans (cell_later hb g1), below_new (below_on hby hb) _⟩
        case rest =>
          obtain ⟨g13, rfl, rfl, t0, t1, e0', e1', f0', f1', g0', g1', hbz⟩ := hcut
          clear e0 e1 f0 f1 g0 g1 hby
          have hM0 : 0 ≤ M ∧ c0 ≤ M ∧ M ≤ 9223372036854775807 := by omega
          have hK0 : 0 ≤ K := by omega
          have hN : St.rgtN (node % 64) = true := (rgtN_iff _).2 (by omega)
          clear hM hK
          by_cases ho : M + K ≤ 9223372036854775806
          · obtain ⟨q1, q2, q3⟩ := St.next_ok hN hM0.1 hK0 ho
            rw [q1] at t0
            rw [q2] at t1
            rw [q3]
            clear q1 q2 q3 hN
            have ha : St.cmpS c0 n0 (M + 1 + K) (node % 64) = -1 := St.cmpS_lt (by omega)
            have hr : St.rgt (M + 1 + K) (node % 64) = true := by unfold St.rgt; simp; omega
            have HA := Lib.hid ha
            have HR := Lib.hid hr
            clear ha hr
            by_cases hc : c0 < c2
            · have hd : decide (c0 < c2) = true := decide_eq_true hc
              go_wp2_with fail
              refine (compare_any _ _ _ _ _).mono ?_
              rintro e w1 ⟨rfl, hb1⟩
              rw [HA.out]
              have k0 := cell_later hb1 t0
              have k1 := cell_later hb1 t1
              have k2 := cell_later hb1 e0'
              have k3 := cell_later hb1 g0'
              go_wp2_with fail
              refine (right_any _ _ _).mono ?_
              rintro e w2 ⟨rfl, hb2⟩
              rw [HR.out]
              have l2 := cell_later hb2 k2
              have l3 := cell_later hb2 k3
              go_wp2_with fail
              go_ret
              exact ⟨rfl, below_on (below_on hbz hb1) hb2⟩
            · have hd : decide (c0 < c2) = false := decide_eq_false hc
              have h2 : St.cmpS c2 n2 (M + 1 + K) (node % 64) = -1 := St.cmpS_lt (by omega)
              have H2 := Lib.hid h2
              clear h2
              go_wp2_with fail
              refine (compare_any _ _ _ _ _).mono ?_
              rintro e w1 ⟨rfl, hb1⟩
              rw [HA.out]
              have k0 := cell_later hb1 t0
              have k1 := cell_later hb1 t1
              have k2 := cell_later hb1 e0'
              have k3 := cell_later hb1 g0'
              have k4 := cell_later hb1 g1'
              go_wp2_with fail
              refine (right_any _ _ _).mono ?_
              rintro e w2 ⟨rfl, hb2⟩
              rw [HR.out]
              have l0 := cell_later hb2 k0
              have l1 := cell_later hb2 k1
              have l2 := cell_later hb2 k2
              have l3 := cell_later hb2 k3
              have l4 := cell_later hb2 k4
              go_wp2_with fail
              refine (compare_any _ _ _ _ _).mono ?_
              rintro e w3 ⟨rfl, hb3⟩
              rw [H2.out]
              go_wp2_with fail
              go_ret
              exact ⟨rfl, below_on (below_on (below_on hbz hb1) hb2) hb3⟩
          · obtain ⟨q1, q2, q3⟩ := St.next_over hN hM0.1 hK0 ho
            rw [q3]
            clear q1 q2 q3 hN t0 t1
            go_wp2
            go_ret
            exact ⟨rfl, hbz⟩

theorem own : ownKnob Try.prog.godebug = none := by kernel_rfl
theorem laidOut : laidOutB Try.prog = true := by kernel_rfl
theorem reads : ∀ t ∈ Try.f6.params.toList, Try.prog.readableRec t = true ∧ t < Try.prog.types.size := by
  intro t ht
  rw [Try.params6] at ht
  have : t = 36 ∨ t = 5 ∨ t = 3 := by simpa using ht
  rcases this with rfl | rfl | rfl <;> exact ⟨by kernel_rfl, of_decide_eq_true (by kernel_rfl)⟩

set_option maxRecDepth 100000 in
theorem lifted (os : Os) (started : os.Started) (H : Type) (enc : TypeId × Value → H) :
    ReturnsInHanded {} Try.checked os 6 .any (Rows.stampRisesSpec.pre6 enc Try.prog Try.f6 Rows.stampRisesRow.domain false) (Rows.stampRisesSpec.post enc Try.prog Try.f6 false true false false) := by
  refine returnsInHanded_of_change (C := Try.checked) own started (by kernel_rfl) Try.func6
    (ChangeSpec.witness6 (enc := enc) (C := Try.checked) false ⟨#[], #[.agg #[.int .i64 0, .int .i64 0, .int .i64 0, .int .i64 0, .int .i64 0, .int .i64 0], .int .u8 0, .int .i64 0], []⟩ 8 (by kernel_rfl) (by kernel_rfl) (by kernel_rfl) (by kernel_rfl)) ?_
  intro W base args ds gs before hval0 hW _ _
  have hval : ∀ (j : Nat) t v, Try.f6.params[j]? = some t → args[j]? = some v → Value.okWide Try.prog W .any base t v := hval0
  have hW' := hW
  obtain ⟨p, q, hA0, hV, rfl, hfz, hnd⟩ := hW
  have hA : DataW.TrodAll enc Try.prog W 0 (fun _ => true) true Try.f6.params.toList args.toList ds p := hA0
  rw [Try.params6] at hA hval
  obtain ⟨v0, vs0, d0, ds0, p0, q0, hargs, rfl, rfl, h0, r0⟩ := trodAll_cons hA
  obtain ⟨v1, vs1, d1, ds1, p1, q1, rfl, rfl, rfl, h1, r1⟩ := trodAll_cons r0
  obtain ⟨v2, vs2, d2, ds2, p2, q2, rfl, rfl, rfl, h2, r2⟩ := trodAll_cons r1
  obtain ⟨rfl, rfl, rfl⟩ := trodAll_nil r2
  obtain rfl : args = #[v0, v1, v2] := by cases args; simp_all
  obtain ⟨rfl, rfl⟩ := trodVars_none hV
  obtain ⟨c0, n0, c1, n1, c2, n2, rfl, hc⟩ := open_stamps3 Try.underlying36 (by kernel_rfl) Try.underlying23 (by kernel_rfl) (by kernel_rfl) rfl rfl Try.underlying3 (hval 0 36 v0 rfl rfl) h0
  obtain ⟨a1, rfl, rfl, rfl, w1⟩ := open_int Try.underlying5 (hval 1 5 v1 rfl rfl) h1
  obtain ⟨a2, rfl, rfl, rfl, w2⟩ := open_int Try.underlying3 (hval 2 3 v2 rfl rfl) h2
  clear hA0 hval0
  refine (walk c0 n0 c1 n1 c2 n2 a1 a2 W hc (bounds_i64 w2).2 (bounds_u8 w1).1 (bounds_u8 w1).2).mono fun e W' ⟨he, hg⟩ => ?_
  subst he
  exact ⟨_, rfl, law_post laidOut hW' rfl rfl (by kernel_rfl) Try.underlying4 reads hg⟩

theorem over : Rows.stampRisesRow.holds Try.pinned (OpenSpec.ofChange Rows.stampRisesSpec) :=
  OpenClaim.holds_of_wide 6 Try.f6 rfl rfl rfl rfl rfl rfl rfl ⟨rfl, rfl, rfl, rfl, rfl⟩ rfl rfl rfl rfl rfl (by kernel_rfl) Try.func6 (by kernel_rfl)
    (of_decide_eq_true (by kernel_rfl)) (by unfold Func.isWrapper; first | (rw [if_pos (by decide +kernel)]; kernel_rfl) | (rw [if_neg (by decide +kernel)]; exact ⟨rfl, rfl⟩))
    (fun os started H enc _ => lifted os started H enc)

/-- The statement. -/
theorem proved : Rows.StampRisesSaid :=
  over

end Go.Proofs.Ytebnmbckkelkpaa.stampRises
