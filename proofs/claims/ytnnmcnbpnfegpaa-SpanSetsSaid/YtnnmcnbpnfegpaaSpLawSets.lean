/-
  SpanSets walked from span's contracts.
-/
import Derived.Test.YtnnmcnbpnfegpaaSpLawTwos
namespace Go.Proofs.Ytnnmcnbpnfegpaa
open Go.RowKit

namespace Sp
theorem sz_le (f : Nat → Bool) : sz f ≤ 256 := szTo_le f 256
theorem inL_meet (l r : List (Int × Int)) (o : Nat) (ho : o < 256) : inL (meetS l r) o = (inL l o && inL r o) := inL_ofL _ o ho
theorem inL_less (l r : List (Int × Int)) (o : Nat) (ho : o < 256) : inL (lessS l r) o = (inL l o && !inL r o) := inL_ofL _ o ho
theorem inL_two (l r : List (Int × Int)) (o : Nat) (ho : o < 256) : inL (joinS [l, r]) o = (inL l o || inL r o) := by
  unfold joinS
  rw [inL_ofL _ o ho]
  show ((false || inL l o) || inL r o) = _
  rw [Bool.false_or]
theorem sets_touch (l r : List (Int × Int)) : touch (inL (meetS l r)) (inL (lessS l r)) = false := by
  cases h : touch (inL (meetS l r)) (inL (lessS l r)) with
  | false => rfl
  | true =>
    obtain ⟨o, ho, h1, h2⟩ := (touch_iff _ _).1 h
    rw [inL_meet l r o ho] at h1
    rw [inL_less l r o ho] at h2
    simp_all
theorem sets_join (l r : List (Int × Int)) : joinS [meetS l r, lessS l r] = joinS [l] := by
  refine ofL_ext fun o ho => ?_
  show ((false || inL (meetS l r) o) || inL (lessS l r) o) = (false || inL l o)
  rw [inL_meet l r o ho, inL_less l r o ho]
  cases inL l o <;> cases inL r o <;> rfl
theorem sets_less (l r : List (Int × Int)) : lessS (joinS [l, r]) r = lessS l r := by
  refine ofL_ext fun o ho => ?_
  rw [inL_two l r o ho]
  cases inL l o <;> cases inL r o <;> rfl
theorem sets_sz (l r : List (Int × Int)) : sz (inL (meetS l r)) + sz (inL (lessS l r)) = sz (inL l) := by
  rw [sz_ext (inL_meet l r), sz_ext (inL_less l r)]
  exact sz_split _ _
theorem inL_rest (l : List (Int × Int)) (o : Nat) (ho : o < 256) : inL (lessS [(0, 255)] l) o = !inL l o := by
  rw [inL_less _ l o ho]
  have : inL [(0, 255)] o = true := (inL_iff _ _).2 ⟨(0, 255), List.mem_singleton.2 rfl, by show (0 : Int) ≤ o; omega, by show (o : Int) ≤ 255; omega⟩
  rw [this, Bool.true_and]
theorem sets_rest (l : List (Int × Int)) : touch (inL (lessS [(0, 255)] l)) (inL l) = false := by
  cases h : touch (inL (lessS [(0, 255)] l)) (inL l) with
  | false => rfl
  | true =>
    obtain ⟨o, ho, h1, h2⟩ := (touch_iff _ _).1 h
    rw [inL_rest l o ho] at h1
    simp_all
theorem sets_all (l : List (Int × Int)) : sz (inL (joinS [lessS [(0, 255)] l, l])) = 256 := sz_all fun o ho => by
  rw [inL_two _ _ o ho, inL_rest l o ho]
  cases inL l o <;> rfl
theorem sets_cov (l r : List (Int × Int)) : cov (inL l) (inL r) = (sz (inL (meetS l r)) == sz (inL r)) := by
  rw [sz_ext (inL_meet l r)]
  exact cov_sz _ _
end Sp
theorem inOf_two (l r : List (Int × Int)) (o : Int) : inOf (Sp.joinS [l, r]) o = (inOf l o || inOf r o) := by
  unfold inOf
  by_cases h : 0 ≤ o ∧ o ≤ 255
  · rw [decide_eq_true h, Sp.inL_two l r _ (by omega)]
    rfl
  · rw [decide_eq_false h]
    rfl
theorem inOf_meet (l r : List (Int × Int)) (o : Int) : inOf (Sp.meetS l r) o = (inOf l o && inOf r o) := by
  unfold inOf
  by_cases h : 0 ≤ o ∧ o ≤ 255
  · rw [decide_eq_true h, Sp.inL_meet l r _ (by omega)]
    rfl
  · rw [decide_eq_false h]
    rfl

/-- Calls with lists that are built for them. -/
theorem SpanSpec.two (S : SpanSpec) {w : World} {A B : Option Addr} {c d : Nat} {l r : List (Int × Int)} (h1 : OneL w A c l) (h2 : OneL w B d r) (hz : l.length + r.length ≤ 9223372036854775807) (t : TypeId) :
    Calls Try.prog 20 #[.slice (some ⟨w.heap.size, 0, none⟩) 2 2] (w.alloc (.cells #[.slice A l.length c, .slice B r.length d] t)) (Ans (Sp.joinS [l, r]) w) := by
  have b0 := below_new (Below.refl w.heap.size w) (.cells #[.slice A l.length c, .slice B r.length d] t)
  refine (S.join (some ⟨w.heap.size, 0, none⟩) 2 [l, r] _ (Nat.le_refl _) (by unfold maxLen; omega) (fun h => by cases h) (by rw [Sp.tot_two]; exact hz) (rows_two (Blk.new w t _) (h1.later b0) (h2.later b0))).mono ?_
  rintro e w' ⟨D, k, he, ho, hb⟩
  exact ⟨D, k, he, ho, below_on b0 hb⟩
theorem SpanSpec.one (S : SpanSpec) {w : World} {A : Option Addr} {c : Nat} {l : List (Int × Int)} (h1 : OneL w A c l) (t : TypeId) :
    Calls Try.prog 20 #[.slice (some ⟨w.heap.size, 0, none⟩) 1 1] (w.alloc (.cells #[.slice A l.length c] t)) (Ans (Sp.joinS [l]) w) := by
  have b0 := below_new (Below.refl w.heap.size w) (.cells #[.slice A l.length c] t)
  refine (S.join (some ⟨w.heap.size, 0, none⟩) 1 [l] _ (Nat.le_refl _) (by unfold maxLen; omega) (fun h => by cases h) (by rw [Sp.tot_one]; exact h1.len) (rows_one (Blk.new w t _) (h1.later b0))).mono ?_
  rintro e w' ⟨D, k, he, ho, hb⟩
  exact ⟨D, k, he, ho, below_on b0 hb⟩
theorem SpanSpec.rest (S : SpanSpec) {w : World} {A : Option Addr} {c : Nat} {l : List (Int × Int)} (h1 : OneL w A c l) (t : TypeId) :
    Calls Try.prog 23 #[.slice (some ⟨w.heap.size, 0, none⟩) 1 1, .slice A l.length c] (w.alloc (.cells #[.int .i64 0, .int .i64 255] t)) (Ans (Sp.lessS [(0, 255)] l) w) := by
  have b0 := below_new (Below.refl w.heap.size w) (.cells #[.int .i64 0, .int .i64 255] t)
  refine (S.less (some ⟨w.heap.size, 0, none⟩) A 1 c [(0, 255)] l _ (one_stamp (Blk.new w t _)) (h1.later b0)).mono ?_
  rintro e w' ⟨D, k, he, ho, hb⟩
  exact ⟨D, k, he, ho, below_on b0 hb⟩

set_option maxRecDepth 100000 in
set_option maxHeartbeats 6400000 in
theorem lawSets_any (S : SpanSpec) (A B : Option Addr) (c d : Nat) (l r : List (Int × Int)) (o : Int) (w : World) (z1 : l.length * 16 ≤ 140737488355328) (z2 : r.length * 16 ≤ 140737488355328) (h1 : OneL w A c l) (h2 : OneL w B d r) :
    Calls Try.prog 8 #[.slice A l.length c, .slice B r.length d, .int .i64 o] w (Says (.bool true) w) := by
  have N0 := Lib.hid (salive_any S w)
  have HA := Lib.hid h1
  have HB := Lib.hid h2
  have F1 : (Sp.meetS l r).length ≤ 128 := Sp.ofL_len _
  have F2 : (Sp.lessS l r).length ≤ 128 := Sp.ofL_len _
  have F3 : (Sp.lessS [(0, 255)] l).length ≤ 128 := Sp.ofL_len _
  have E1 := Sp.sets_touch l r
  have E2 := Sp.sets_join l r
  have E3 := Sp.sets_less l r
  have E4 := Sp.sets_sz l r
  have E5 := Sp.sets_rest l
  have E6 := Sp.sets_all l
  have E7 := inOf_two l r o
  have E8 := inOf_meet l r o
  have E9 := Sp.sets_cov l r
  clear h1 h2
  go_enter Try.func8, Try.ntmps8
  go_wp2_with fail
  refine N0.out.mono ?_
  rintro e w1 ⟨rfl, hb⟩
  replace HA := Lib.hid (HA.out.later hb)
  replace HB := Lib.hid (HB.out.later hb)
  clear N0
  go_wp2_with fail
  refine (S.meet A B c d l r _ HA.out HB.out).mono ?_
  rintro e w2 ⟨D1, k1, rfl, ho, b⟩
  replace hb := below_on hb b
  replace HA := Lib.hid (HA.out.later b)
  replace HB := Lib.hid (HB.out.later b)
  clear b
  have HM := Lib.hid ho
  clear ho
  obtain ⟨m, hm⟩ : ∃ m, Sp.meetS l r = m := ⟨_, rfl⟩
  rw [hm] at HM E1 E2 E4 E8 E9 F1 ⊢
  clear hm
  go_wp2_with fail
  refine (S.less A B c d l r _ HA.out HB.out).mono ?_
  rintro e w3 ⟨D2, k2, rfl, ho, b⟩
  replace hb := below_on hb b
  replace HA := Lib.hid (HA.out.later b)
  replace HB := Lib.hid (HB.out.later b)
  replace HM := Lib.hid (HM.out.later b)
  clear b
  have HL := Lib.hid ho
  clear ho
  obtain ⟨q, hq⟩ : ∃ q, Sp.lessS l r = q := ⟨_, rfl⟩
  rw [hq] at HL E1 E2 E3 E4 F2 ⊢
  clear hq
  go_wp2_with fail
  refine (S.two HA.out HB.out (by omega) _).mono ?_
  rintro e w4 ⟨D3, k3, rfl, ho, b⟩
  replace hb := below_on hb b
  replace HA := Lib.hid (HA.out.later b)
  replace HB := Lib.hid (HB.out.later b)
  replace HM := Lib.hid (HM.out.later b)
  replace HL := Lib.hid (HL.out.later b)
  clear b
  have HJ := Lib.hid ho
  clear ho
  obtain ⟨j, hj⟩ : ∃ j, Sp.joinS [l, r] = j := ⟨_, rfl⟩
  rw [hj] at HJ E3 E7 ⊢
  clear hj
  have HE := Lib.hid (And.intro E1 (And.intro E2 (And.intro E3 (And.intro E4 (And.intro E5 (And.intro E6 (And.intro E7 (And.intro E8 E9))))))))
  clear E1 E2 E3 E4 E5 E6 E7 E8 E9
  have q0 := S.touch D1 D2 k1 k2 m q _ HM.out HL.out
  rw [HE.out.1] at q0
  have Q0 := Lib.hid q0
  clear q0
  go_wp2_with fail
  refine (Q0.out).mono ?_
  rintro e w5 ⟨rfl, b⟩
  replace hb := below_on hb b
  clear Q0
  replace HA := Lib.hid (HA.out.later b)
  replace HB := Lib.hid (HB.out.later b)
  replace HM := Lib.hid (HM.out.later b)
  replace HL := Lib.hid (HL.out.later b)
  replace HJ := Lib.hid (HJ.out.later b)
  clear b
  go_wp2_with fail
  refine (S.two HM.out HL.out (by omega) _).mono ?_
  rintro e w6 ⟨D4, k4, rfl, ho, b⟩
  replace hb := below_on hb b
  replace HA := Lib.hid (HA.out.later b)
  replace HB := Lib.hid (HB.out.later b)
  replace HM := Lib.hid (HM.out.later b)
  replace HL := Lib.hid (HL.out.later b)
  replace HJ := Lib.hid (HJ.out.later b)
  clear b
  have H4 := Lib.hid ho
  clear ho
  go_wp2_with fail
  refine (S.one HA.out _).mono ?_
  rintro e w7 ⟨D5, k5, rfl, ho, b⟩
  replace hb := below_on hb b
  replace HA := Lib.hid (HA.out.later b)
  replace HB := Lib.hid (HB.out.later b)
  replace HM := Lib.hid (HM.out.later b)
  replace HL := Lib.hid (HL.out.later b)
  replace HJ := Lib.hid (HJ.out.later b)
  replace H4 := Lib.hid (H4.out.later b)
  clear b
  have H5 := Lib.hid ho
  clear ho
  have q0 := ssame_any D4 D5 k4 k5 _ _ _ H4.out.len H4.out.stamps H5.out.stamps
  rw [HE.out.2.1] at H4 q0 ⊢
  rw [decide_eq_true rfl] at q0
  have Q0 := Lib.hid q0
  clear q0
  go_wp2_with fail
  refine (Q0.out).mono ?_
  rintro e w8 ⟨rfl, b⟩
  replace hb := below_on hb b
  clear Q0
  clear H4
  clear H5
  replace HA := Lib.hid (HA.out.later b)
  replace HB := Lib.hid (HB.out.later b)
  replace HM := Lib.hid (HM.out.later b)
  replace HL := Lib.hid (HL.out.later b)
  replace HJ := Lib.hid (HJ.out.later b)
  clear b
  go_wp2_with fail
  refine (S.less D3 B k3 d j r _ HJ.out HB.out).mono ?_
  rintro e w9 ⟨D6, k6, rfl, ho, b⟩
  replace hb := below_on hb b
  replace HA := Lib.hid (HA.out.later b)
  replace HB := Lib.hid (HB.out.later b)
  replace HM := Lib.hid (HM.out.later b)
  replace HL := Lib.hid (HL.out.later b)
  replace HJ := Lib.hid (HJ.out.later b)
  clear b
  have H6 := Lib.hid ho
  clear ho
  have q0 := ssame_any D6 D2 k6 k2 _ _ _ H6.out.len H6.out.stamps HL.out.stamps
  rw [HE.out.2.2.1] at H6 q0 ⊢
  rw [decide_eq_true rfl] at q0
  have Q0 := Lib.hid q0
  clear q0
  go_wp2_with fail
  refine (Q0.out).mono ?_
  rintro e w10 ⟨rfl, b⟩
  replace hb := below_on hb b
  clear Q0
  clear H6
  replace HA := Lib.hid (HA.out.later b)
  replace HB := Lib.hid (HB.out.later b)
  replace HM := Lib.hid (HM.out.later b)
  replace HL := Lib.hid (HL.out.later b)
  replace HJ := Lib.hid (HJ.out.later b)
  clear b
  obtain ⟨x1, hx1⟩ : ∃ x, Sp.sz (Sp.inL m) = x := ⟨_, rfl⟩
  obtain ⟨x2, hx2⟩ : ∃ x, Sp.sz (Sp.inL q) = x := ⟨_, rfl⟩
  obtain ⟨x3, hx3⟩ : ∃ x, Sp.sz (Sp.inL l) = x := ⟨_, rfl⟩
  have hs1 := Sp.sz_le (Sp.inL m)
  have hs2 := Sp.sz_le (Sp.inL q)
  have hsum := HE.out.2.2.2.1
  have q1 := fun wx hx => S.size D1 k1 m wx hx
  have q2 := fun wx hx => S.size D2 k2 q wx hx
  have q3 := fun wx hx => S.size A c l wx hx
  rw [hx1] at q1 hs1 hsum
  rw [hx2] at q2 hs2 hsum
  rw [hx3] at q3 hsum
  have hsi : ((x1 : Int) + (x2 : Int) == (x3 : Int)) = true := beq_iff_eq.2 (by omega)
  have hlo : (0 : Int) ≤ (x1 : Int) + (x2 : Int) := by omega
  have hhi : (x1 : Int) + (x2 : Int) ≤ 512 := by omega
  have hsi2 : (x1 : Int) + (x2 : Int) = (x3 : Int) := by omega
  have Q1 := Lib.hid q1
  have Q2 := Lib.hid q2
  have Q3 := Lib.hid q3
  have HX1 := Lib.hid hx1
  clear q1 q2 q3 hx1 hx2 hx3 hsum
  go_wp2_with fail
  refine (Q1.out _ HM.out).mono ?_
  rintro e w11 ⟨rfl, b⟩
  replace hb := below_on hb b
  replace HA := Lib.hid (HA.out.later b)
  replace HB := Lib.hid (HB.out.later b)
  replace HM := Lib.hid (HM.out.later b)
  replace HL := Lib.hid (HL.out.later b)
  replace HJ := Lib.hid (HJ.out.later b)
  clear b
  go_wp2_with fail
  refine (Q2.out _ HL.out).mono ?_
  rintro e w12 ⟨rfl, b⟩
  replace hb := below_on hb b
  clear Q2
  clear HL
  replace HA := Lib.hid (HA.out.later b)
  replace HB := Lib.hid (HB.out.later b)
  replace HM := Lib.hid (HM.out.later b)
  replace HJ := Lib.hid (HJ.out.later b)
  clear b
  go_wp2_with fail
  refine (Q3.out _ HA.out).mono ?_
  rintro e w13 ⟨rfl, b⟩
  replace hb := below_on hb b
  clear Q3
  replace HA := Lib.hid (HA.out.later b)
  replace HB := Lib.hid (HB.out.later b)
  replace HM := Lib.hid (HM.out.later b)
  replace HJ := Lib.hid (HJ.out.later b)
  clear b
  go_wp2_with fail
  refine (S.rest HA.out _).mono ?_
  rintro e w14 ⟨D7, k7, rfl, ho, b⟩
  replace hb := below_on hb b
  replace HA := Lib.hid (HA.out.later b)
  replace HB := Lib.hid (HB.out.later b)
  replace HM := Lib.hid (HM.out.later b)
  replace HJ := Lib.hid (HJ.out.later b)
  clear b
  have HR := Lib.hid ho
  clear ho
  obtain ⟨rs, hrs⟩ : ∃ rs, Sp.lessS [(0, 255)] l = rs := ⟨_, rfl⟩
  have E := HE.out
  rw [hrs] at HR E F3 ⊢
  clear hrs HE
  obtain ⟨-, -, -, -, E5, E6, E7, E8, E9⟩ := E
  have q0 := S.touch D7 A k7 c rs l _ HR.out HA.out
  rw [E5] at q0
  have Q0 := Lib.hid q0
  have HE := Lib.hid (And.intro E6 (And.intro E7 (And.intro E8 E9)))
  clear q0 E5 E6 E7 E8 E9 hsi hlo hhi hsi2 hs1 hs2
  go_wp2_with fail
  refine (Q0.out).mono ?_
  rintro e w15 ⟨rfl, b⟩
  replace hb := below_on hb b
  clear Q0
  replace HA := Lib.hid (HA.out.later b)
  replace HB := Lib.hid (HB.out.later b)
  replace HM := Lib.hid (HM.out.later b)
  replace HJ := Lib.hid (HJ.out.later b)
  replace HR := Lib.hid (HR.out.later b)
  clear b
  go_wp2_with fail
  refine (S.two HR.out HA.out (by omega) _).mono ?_
  rintro e w16 ⟨D8, k8, rfl, ho, b⟩
  replace hb := below_on hb b
  clear HR
  replace HA := Lib.hid (HA.out.later b)
  replace HB := Lib.hid (HB.out.later b)
  replace HM := Lib.hid (HM.out.later b)
  replace HJ := Lib.hid (HJ.out.later b)
  clear b
  have H8 := Lib.hid ho
  clear ho
  have q0 := S.size D8 k8 _ _ H8.out
  rw [HE.out.1] at q0
  obtain ⟨z, hz⟩ : ∃ z, Sp.joinS [rs, l] = z := ⟨_, rfl⟩
  rw [hz] at q0 ⊢
  have Q0 := Lib.hid q0
  clear q0 hz H8
  go_wp2_with fail
  refine (Q0.out).mono ?_
  rintro e w17 ⟨rfl, b⟩
  replace hb := below_on hb b
  clear Q0
  replace HA := Lib.hid (HA.out.later b)
  replace HB := Lib.hid (HB.out.later b)
  replace HM := Lib.hid (HM.out.later b)
  replace HJ := Lib.hid (HJ.out.later b)
  clear b
  have q1 := fun wx hx => S.has D3 k3 j o wx hx
  have q2 := fun wx hx => S.has A c l o wx hx
  have q3 := fun wx hx => S.has B d r o wx hx
  have q4 := fun wx hx => S.has D1 k1 m o wx hx
  have q5 := fun wx hx hy => S.covers A B c d l r wx hx hy
  rw [HE.out.2.1] at q1
  rw [HE.out.2.2.1] at q4
  rw [HE.out.2.2.2, HX1.out] at q5
  obtain ⟨x5, hx5⟩ : ∃ x, Sp.sz (Sp.inL r) = x := ⟨_, rfl⟩
  have q6 := fun wx hx => S.size B d r wx hx
  rw [hx5] at q5 q6
  clear HE HX1 hx5
  have hbe : (x1 == x5) = ((x1 : Int) == (x5 : Int)) := by rw [Bool.eq_iff_iff, beq_iff_eq, beq_iff_eq]; omega
  rw [hbe] at q5
  obtain ⟨cv, hcv⟩ : ∃ cv, ((x1 : Int) == (x5 : Int)) = cv := ⟨_, rfl⟩
  rw [hcv] at q5
  clear hbe
  cases ha : inOf l o <;> cases hbv : inOf r o
  · have Q1p := q1
    have Q2p := q2
    have Q3p := q3
    have Q4p := q4
    rw [ha, hbv] at Q1p Q4p
    rw [ha] at Q2p
    rw [hbv] at Q3p
    have R1 := Lib.hid Q1p
    have R2 := Lib.hid Q2p
    have R3 := Lib.hid Q3p
    have R4 := Lib.hid Q4p
    have R5 := Lib.hid q5
    have R6 := Lib.hid q6
    clear Q1p Q2p Q3p Q4p q1 q2 q3 q4 q5 q6 ha hbv
    go_wp2_with fail
    refine (R1.out _ HJ.out).mono ?_
    rintro e w18 ⟨rfl, b⟩
    replace hb := below_on hb b
    clear R1
    clear HJ
    replace HA := Lib.hid (HA.out.later b)
    replace HB := Lib.hid (HB.out.later b)
    replace HM := Lib.hid (HM.out.later b)
    clear b
    go_wp2_with fail
    refine (R2.out _ HA.out).mono ?_
    rintro e w19 ⟨rfl, b⟩
    replace hb := below_on hb b
    replace HA := Lib.hid (HA.out.later b)
    replace HB := Lib.hid (HB.out.later b)
    replace HM := Lib.hid (HM.out.later b)
    clear b
    go_wp2_with fail
    refine (R3.out _ HB.out).mono ?_
    rintro e w20 ⟨rfl, b⟩
    replace hb := below_on hb b
    replace HA := Lib.hid (HA.out.later b)
    replace HB := Lib.hid (HB.out.later b)
    replace HM := Lib.hid (HM.out.later b)
    clear b
    go_wp2_with fail
    refine (R4.out _ HM.out).mono ?_
    rintro e w21 ⟨rfl, b⟩
    replace hb := below_on hb b
    clear R4
    replace HA := Lib.hid (HA.out.later b)
    replace HB := Lib.hid (HB.out.later b)
    replace HM := Lib.hid (HM.out.later b)
    clear b
    go_wp2_with fail
    refine (R2.out _ HA.out).mono ?_
    rintro e w22 ⟨rfl, b⟩
    replace hb := below_on hb b
    clear R2
    replace HA := Lib.hid (HA.out.later b)
    replace HB := Lib.hid (HB.out.later b)
    replace HM := Lib.hid (HM.out.later b)
    clear b
    go_wp2_with fail
    refine (R5.out _ HA.out HB.out).mono ?_
    rintro e w23 ⟨rfl, b⟩
    replace hb := below_on hb b
    clear R5
    clear HA
    replace HB := Lib.hid (HB.out.later b)
    replace HM := Lib.hid (HM.out.later b)
    clear b
    go_wp2_with fail
    refine (Q1.out _ HM.out).mono ?_
    rintro e w24 ⟨rfl, b⟩
    replace hb := below_on hb b
    clear Q1
    clear HM
    replace HB := Lib.hid (HB.out.later b)
    clear b
    go_wp2_with fail
    refine (R6.out _ HB.out).mono ?_
    rintro e w25 ⟨rfl, b⟩
    replace hb := below_on hb b
    clear R6
    clear HB
    clear b
    go_wp2
    go_ret
    exact ⟨rfl, hb⟩
  · have Q1p := q1
    have Q2p := q2
    have Q3p := q3
    have Q4p := q4
    rw [ha, hbv] at Q1p Q4p
    rw [ha] at Q2p
    rw [hbv] at Q3p
    have R1 := Lib.hid Q1p
    have R2 := Lib.hid Q2p
    have R3 := Lib.hid Q3p
    have R4 := Lib.hid Q4p
    have R5 := Lib.hid q5
    have R6 := Lib.hid q6
    clear Q1p Q2p Q3p Q4p q1 q2 q3 q4 q5 q6 ha hbv
    go_wp2_with fail
    refine (R1.out _ HJ.out).mono ?_
    rintro e w18 ⟨rfl, b⟩
    replace hb := below_on hb b
    clear R1
    clear HJ
    replace HA := Lib.hid (HA.out.later b)
    replace HB := Lib.hid (HB.out.later b)
    replace HM := Lib.hid (HM.out.later b)
    clear b
    go_wp2_with fail
    refine (R2.out _ HA.out).mono ?_
    rintro e w19 ⟨rfl, b⟩
    replace hb := below_on hb b
    replace HA := Lib.hid (HA.out.later b)
    replace HB := Lib.hid (HB.out.later b)
    replace HM := Lib.hid (HM.out.later b)
    clear b
    go_wp2_with fail
    refine (R3.out _ HB.out).mono ?_
    rintro e w20 ⟨rfl, b⟩
    replace hb := below_on hb b
    replace HA := Lib.hid (HA.out.later b)
    replace HB := Lib.hid (HB.out.later b)
    replace HM := Lib.hid (HM.out.later b)
    clear b
    go_wp2_with fail
    refine (R4.out _ HM.out).mono ?_
    rintro e w21 ⟨rfl, b⟩
    replace hb := below_on hb b
    clear R4
    replace HA := Lib.hid (HA.out.later b)
    replace HB := Lib.hid (HB.out.later b)
    replace HM := Lib.hid (HM.out.later b)
    clear b
    go_wp2_with fail
    refine (R2.out _ HA.out).mono ?_
    rintro e w22 ⟨rfl, b⟩
    replace hb := below_on hb b
    clear R2
    replace HA := Lib.hid (HA.out.later b)
    replace HB := Lib.hid (HB.out.later b)
    replace HM := Lib.hid (HM.out.later b)
    clear b
    go_wp2_with fail
    refine (R5.out _ HA.out HB.out).mono ?_
    rintro e w23 ⟨rfl, b⟩
    replace hb := below_on hb b
    clear R5
    clear HA
    replace HB := Lib.hid (HB.out.later b)
    replace HM := Lib.hid (HM.out.later b)
    clear b
    go_wp2_with fail
    refine (Q1.out _ HM.out).mono ?_
    rintro e w24 ⟨rfl, b⟩
    replace hb := below_on hb b
    clear Q1
    clear HM
    replace HB := Lib.hid (HB.out.later b)
    clear b
    go_wp2_with fail
    refine (R6.out _ HB.out).mono ?_
    rintro e w25 ⟨rfl, b⟩
    replace hb := below_on hb b
    clear R6
    clear HB
    clear b
    go_wp2
    go_ret
    exact ⟨rfl, hb⟩
  · have Q1p := q1
    have Q2p := q2
    have Q3p := q3
    have Q4p := q4
    rw [ha, hbv] at Q1p Q4p
    rw [ha] at Q2p
    rw [hbv] at Q3p
    have R1 := Lib.hid Q1p
    have R2 := Lib.hid Q2p
    have R3 := Lib.hid Q3p
    have R4 := Lib.hid Q4p
    have R5 := Lib.hid q5
    have R6 := Lib.hid q6
    clear Q1p Q2p Q3p Q4p q1 q2 q3 q4 q5 q6 ha hbv
    go_wp2_with fail
    refine (R1.out _ HJ.out).mono ?_
    rintro e w18 ⟨rfl, b⟩
    replace hb := below_on hb b
    clear R1
    clear HJ
    replace HA := Lib.hid (HA.out.later b)
    replace HB := Lib.hid (HB.out.later b)
    replace HM := Lib.hid (HM.out.later b)
    clear b
    go_wp2_with fail
    refine (R2.out _ HA.out).mono ?_
    rintro e w19 ⟨rfl, b⟩
    replace hb := below_on hb b
    replace HA := Lib.hid (HA.out.later b)
    replace HB := Lib.hid (HB.out.later b)
    replace HM := Lib.hid (HM.out.later b)
    clear b
    go_wp2_with fail
    refine (R4.out _ HM.out).mono ?_
    rintro e w20 ⟨rfl, b⟩
    replace hb := below_on hb b
    clear R4
    replace HA := Lib.hid (HA.out.later b)
    replace HB := Lib.hid (HB.out.later b)
    replace HM := Lib.hid (HM.out.later b)
    clear b
    go_wp2_with fail
    refine (R2.out _ HA.out).mono ?_
    rintro e w21 ⟨rfl, b⟩
    replace hb := below_on hb b
    clear R2
    replace HA := Lib.hid (HA.out.later b)
    replace HB := Lib.hid (HB.out.later b)
    replace HM := Lib.hid (HM.out.later b)
    clear b
    go_wp2_with fail
    refine (R3.out _ HB.out).mono ?_
    rintro e w22 ⟨rfl, b⟩
    replace hb := below_on hb b
    clear R3
    replace HA := Lib.hid (HA.out.later b)
    replace HB := Lib.hid (HB.out.later b)
    replace HM := Lib.hid (HM.out.later b)
    clear b
    go_wp2_with fail
    refine (R5.out _ HA.out HB.out).mono ?_
    rintro e w23 ⟨rfl, b⟩
    replace hb := below_on hb b
    clear R5
    clear HA
    replace HB := Lib.hid (HB.out.later b)
    replace HM := Lib.hid (HM.out.later b)
    clear b
    go_wp2_with fail
    refine (Q1.out _ HM.out).mono ?_
    rintro e w24 ⟨rfl, b⟩
    replace hb := below_on hb b
    clear Q1
    clear HM
    replace HB := Lib.hid (HB.out.later b)
    clear b
    go_wp2_with fail
    refine (R6.out _ HB.out).mono ?_
    rintro e w25 ⟨rfl, b⟩
    replace hb := below_on hb b
    clear R6
    clear HB
    clear b
    go_wp2
    go_ret
    exact ⟨rfl, hb⟩
  · have Q1p := q1
    have Q2p := q2
    have Q3p := q3
    have Q4p := q4
    rw [ha, hbv] at Q1p Q4p
    rw [ha] at Q2p
    rw [hbv] at Q3p
    have R1 := Lib.hid Q1p
    have R2 := Lib.hid Q2p
    have R3 := Lib.hid Q3p
    have R4 := Lib.hid Q4p
    have R5 := Lib.hid q5
    have R6 := Lib.hid q6
    clear Q1p Q2p Q3p Q4p q1 q2 q3 q4 q5 q6 ha hbv
    go_wp2_with fail
    refine (R1.out _ HJ.out).mono ?_
    rintro e w18 ⟨rfl, b⟩
    replace hb := below_on hb b
    clear R1
    clear HJ
    replace HA := Lib.hid (HA.out.later b)
    replace HB := Lib.hid (HB.out.later b)
    replace HM := Lib.hid (HM.out.later b)
    clear b
    go_wp2_with fail
    refine (R2.out _ HA.out).mono ?_
    rintro e w19 ⟨rfl, b⟩
    replace hb := below_on hb b
    replace HA := Lib.hid (HA.out.later b)
    replace HB := Lib.hid (HB.out.later b)
    replace HM := Lib.hid (HM.out.later b)
    clear b
    go_wp2_with fail
    refine (R4.out _ HM.out).mono ?_
    rintro e w20 ⟨rfl, b⟩
    replace hb := below_on hb b
    clear R4
    replace HA := Lib.hid (HA.out.later b)
    replace HB := Lib.hid (HB.out.later b)
    replace HM := Lib.hid (HM.out.later b)
    clear b
    go_wp2_with fail
    refine (R2.out _ HA.out).mono ?_
    rintro e w21 ⟨rfl, b⟩
    replace hb := below_on hb b
    clear R2
    replace HA := Lib.hid (HA.out.later b)
    replace HB := Lib.hid (HB.out.later b)
    replace HM := Lib.hid (HM.out.later b)
    clear b
    go_wp2_with fail
    refine (R3.out _ HB.out).mono ?_
    rintro e w22 ⟨rfl, b⟩
    replace hb := below_on hb b
    clear R3
    replace HA := Lib.hid (HA.out.later b)
    replace HB := Lib.hid (HB.out.later b)
    replace HM := Lib.hid (HM.out.later b)
    clear b
    go_wp2_with fail
    refine (R5.out _ HA.out HB.out).mono ?_
    rintro e w23 ⟨rfl, b⟩
    replace hb := below_on hb b
    clear R5
    clear HA
    replace HB := Lib.hid (HB.out.later b)
    replace HM := Lib.hid (HM.out.later b)
    clear b
    go_wp2_with fail
    refine (Q1.out _ HM.out).mono ?_
    rintro e w24 ⟨rfl, b⟩
    replace hb := below_on hb b
    clear Q1
    clear HM
    replace HB := Lib.hid (HB.out.later b)
    clear b
    go_wp2_with fail
    refine (R6.out _ HB.out).mono ?_
    rintro e w25 ⟨rfl, b⟩
    replace hb := below_on hb b
    clear R6
    clear HB
    clear b
    go_wp2
    go_ret
    exact ⟨rfl, hb⟩

end Go.Proofs.Ytnnmcnbpnfegpaa
