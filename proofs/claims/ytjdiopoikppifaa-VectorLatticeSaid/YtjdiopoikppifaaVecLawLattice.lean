/-
  VectorLattice walked from vector's contracts.
-/
import Derived.Test.YtjdiopoikppifaaVecLawWiths
namespace Go.Proofs.Ytjdiopoikppifaa
open Go.RowKit

theorem join_two (S : VecSpec) {A B : Option Addr} {c d : Nat} {l r : List (Int × Int)} {w : World} (h1 : OneL w A c l) (h2 : OneL w B d r) :
    Calls Try.prog 24 #[.slice (some ⟨w.heap.size, 0, none⟩) 2 2] (w.alloc (.cells #[.slice A l.length c, .slice B r.length d] 22)) (Ans (Ve.joinL [l, r]) w) := by
  have hb := below_new (Below.refl w.heap.size w) (.cells #[.slice A l.length c, .slice B r.length d] 22)
  refine (S.join (some ⟨w.heap.size, 0, none⟩) 2 [l, r] _ (Nat.le_refl _) (by unfold maxLen; omega) (fun h => by cases h) (rows_two (two_slots w _ _ _) (h1.later hb) (h2.later hb))).mono ?_
  rintro e w' ⟨A', c', rfl, ho, hb'⟩
  exact ⟨A', c', rfl, ho, below_on hb hb'⟩
theorem meet_two (S : VecSpec) {A B : Option Addr} {c d : Nat} {l r : List (Int × Int)} {w : World} (h1 : OneL w A c l) (h2 : OneL w B d r) :
    Calls Try.prog 25 #[.slice (some ⟨w.heap.size, 0, none⟩) 2 2] (w.alloc (.cells #[.slice A l.length c, .slice B r.length d] 22)) (Ans (Ve.meetL [l, r]) w) := by
  have hb := below_new (Below.refl w.heap.size w) (.cells #[.slice A l.length c, .slice B r.length d] 22)
  refine (S.meet (some ⟨w.heap.size, 0, none⟩) 2 [l, r] _ (Nat.le_refl _) (by unfold maxLen; omega) (fun h => by cases h) (rows_two (two_slots w _ _ _) (h1.later hb) (h2.later hb))).mono ?_
  rintro e w' ⟨A', c', rfl, ho, hb'⟩
  exact ⟨A', c', rfl, ho, below_on hb hb'⟩

set_option maxRecDepth 100000 in
set_option maxHeartbeats 6400000 in
theorem lawLattice_any (S : VecSpec) (A B C : Option Addr) (c1 c2 c3 : Nat) (a b c : List (Int × Int)) (w : World) (h1 : OneL w A c1 a) (h2 : OneL w B c2 b) (h3 : OneL w C c3 c) :
    Calls Try.prog 8 #[.slice A a.length c1, .slice B b.length c2, .slice C c.length c3] w (Says (.bool true) w) := by
  have n0 := alive_any S
  have sc := fun (A B : Option Addr) (c d : Nat) (l r : List (Int × Int)) (w : World) (h1 : OneL w A c l) (h2 : OneL w B d r) (x : Bool) (hx : Ve.cov (Ve.cnt l) (Ve.cnt r) = x) => hx ▸ S.covers A B c d l r w h1 h2
  have k1 := Ve.cov_join_left a b
  have k2 := Ve.cov_join_right a b
  have k3 := Ve.cov_meet_left a b
  have k4 := Ve.cov_meet_right a b
  have k5 := Ve.cov_join_least a b (Ve.cnt c)
  have k6 := Ve.cov_meet_greatest a b (Ve.cnt c)
  have k7 := Ve.fmd_joinL [a, b]
  have k8 := Ve.fmd_meet2 a b
  have k9 := Ve.stand_assoc a b c
  have j0 := Ve.joinL_comm b a
  have m0 := Ve.meetL_comm b a
  obtain ⟨J, hJ⟩ : ∃ J, Ve.joinL [a, b] = J := ⟨_, rfl⟩
  obtain ⟨M, hM⟩ : ∃ M, Ve.meetL [a, b] = M := ⟨_, rfl⟩
  rw [hJ] at k1 k2 k5 k7 k9 j0
  rw [hM] at k3 k4 k6 k8 m0
  have ja := fun (A B : Option Addr) (c d : Nat) (w : World) (h1 : OneL w A c a) (h2 : OneL w B d b) => hJ ▸ join_two S h1 h2
  have ma := fun (A B : Option Addr) (c d : Nat) (w : World) (h1 : OneL w A c a) (h2 : OneL w B d b) => hM ▸ meet_two S h1 h2
  have jb := fun (A B : Option Addr) (c d : Nat) (w : World) (h1 : OneL w A c b) (h2 : OneL w B d a) => j0 ▸ join_two S h1 h2
  have mb := fun (A B : Option Addr) (c d : Nat) (w : World) (h1 : OneL w A c b) (h2 : OneL w B d a) => m0 ▸ meet_two S h1 h2
  have jj := fun (A B : Option Addr) (c d : Nat) (l r : List (Int × Int)) (w : World) (h1 : OneL w A c l) (h2 : OneL w B d r) => join_two S h1 h2
  have fj := fun (A : Option Addr) (c : Nat) (w : World) (h1 : OneL w A c J) => k7 ▸ S.formed A c J w h1
  have fm := fun (A : Option Addr) (c : Nat) (w : World) (h1 : OneL w A c M) => k8 ▸ S.formed A c M w h1
  have cp := fun (A B : Option Addr) (c d : Nat) (l r : List (Int × Int)) (w : World) (h1 : OneL w A c l) (h2 : OneL w B d r) (x : Int) (hx : Ve.stand (Ve.cnt l) (Ve.cnt r) = x) => hx ▸ S.compare A B c d l r w h1 h2
  have N0 := Lib.hid n0
  have SC := Lib.hid sc
  have JA := Lib.hid ja
  have MA := Lib.hid ma
  have JB := Lib.hid jb
  have MB := Lib.hid mb
  have JJ := Lib.hid jj
  have FJ := Lib.hid fj
  have FM := Lib.hid fm
  have CP := Lib.hid cp
  have K1 := Lib.hid k1
  have K2 := Lib.hid k2
  have K3 := Lib.hid k3
  have K4 := Lib.hid k4
  have K5 := Lib.hid k5
  have K6 := Lib.hid k6
  have K9 := Lib.hid k9
  have H1 := Lib.hid h1
  have H2 := Lib.hid h2
  have H3 := Lib.hid h3
  clear n0 sc ja ma jb mb jj fj fm cp k1 k2 k3 k4 k5 k6 k7 k8 k9 j0 m0 hJ hM h1 h2 h3
  go_enter Try.func8, Try.ntmps8
  go_wp2_with fail
  refine (N0.out _).mono ?_
  rintro e w1 ⟨rfl, b1⟩
  have A1 := Lib.hid (H1.out.later b1)
  have A2 := Lib.hid (H2.out.later b1)
  have A3 := Lib.hid (H3.out.later b1)
  clear H1 H2 H3 N0
  go_wp2_with fail
  refine (JA.out _ _ _ _ _ A1.out A2.out).mono ?_
  rintro e w2 ⟨D, d, rfl, hj, b2⟩
  have B1 := Lib.hid (A1.out.later b2)
  have B2 := Lib.hid (A2.out.later b2)
  have B3 := Lib.hid (A3.out.later b2)
  have bw2 := below_on b1 b2
  have HJ := Lib.hid hj
  clear A1 A2 A3 JA hj b1 b2
  go_wp2_with fail
  refine (MA.out _ _ _ _ _ B1.out B2.out).mono ?_
  rintro e w3 ⟨E, f, rfl, hm, b3⟩
  have o1 := B1.out.later b3
  have o2 := B2.out.later b3
  have o3 := B3.out.later b3
  have oj := HJ.out.later b3
  have bw3 := below_on bw2 b3
  have hb := Below.refl w3.heap.size w3
  have O1 := Lib.hid o1
  have O2 := Lib.hid o2
  have O3 := Lib.hid o3
  have OJ := Lib.hid oj
  have OM := Lib.hid hm
  clear B1 B2 B3 MA HJ o1 o2 o3 oj hm b3 bw2
  go_wp2_with fail
  refine (SC.out _ _ _ _ _ _ _ OJ.out O1.out _ K1.out).mono ?_
  rintro e w4 ⟨rfl, b4⟩
  replace hb := below_on hb b4
  clear b4
  go_wp2_with fail
  refine (SC.out _ _ _ _ _ _ _ (OJ.out.later hb) (O2.out.later hb) _ K2.out).mono ?_
  rintro e w5 ⟨rfl, b5⟩
  replace hb := below_on hb b5
  clear b5
  go_wp2_with fail
  refine (SC.out _ _ _ _ _ _ _ (O1.out.later hb) (OM.out.later hb) _ K3.out).mono ?_
  rintro e w6 ⟨rfl, b6⟩
  replace hb := below_on hb b6
  clear b6
  go_wp2_with fail
  refine (SC.out _ _ _ _ _ _ _ (O2.out.later hb) (OM.out.later hb) _ K4.out).mono ?_
  rintro e w7 ⟨rfl, b7⟩
  replace hb := below_on hb b7
  clear b7
  go_wp2_with fail
  refine (FJ.out _ _ _ (OJ.out.later hb)).mono ?_
  rintro e w8 ⟨rfl, b8⟩
  replace hb := below_on hb b8
  clear b8
  go_wp2_with fail
  refine (FM.out _ _ _ (OM.out.later hb)).mono ?_
  rintro e w9 ⟨rfl, b9⟩
  replace hb := below_on hb b9
  clear b9 FJ FM K1 K2 K3 K4
  have hX : Ve.cov (Ve.cnt c) (Ve.cnt a) = false ∨ (Ve.cov (Ve.cnt c) (Ve.cnt a) = true ∧ Ve.cov (Ve.cnt c) (Ve.cnt b) = false) ∨ (Ve.cov (Ve.cnt c) (Ve.cnt a) = true ∧ Ve.cov (Ve.cnt c) (Ve.cnt b) = true ∧ Ve.cov (Ve.cnt c) (Ve.cnt J) = true) := by
    cases x1 : Ve.cov (Ve.cnt c) (Ve.cnt a)
    · exact .inl rfl
    · cases x2 : Ve.cov (Ve.cnt c) (Ve.cnt b)
      · exact .inr (.inl ⟨rfl, rfl⟩)
      · exact .inr (.inr ⟨rfl, rfl, K5.out x1 x2⟩)
  have hY : Ve.cov (Ve.cnt a) (Ve.cnt c) = false ∨ (Ve.cov (Ve.cnt a) (Ve.cnt c) = true ∧ Ve.cov (Ve.cnt b) (Ve.cnt c) = false) ∨ (Ve.cov (Ve.cnt a) (Ve.cnt c) = true ∧ Ve.cov (Ve.cnt b) (Ve.cnt c) = true ∧ Ve.cov (Ve.cnt M) (Ve.cnt c) = true) := by
    cases x1 : Ve.cov (Ve.cnt a) (Ve.cnt c)
    · exact .inl rfl
    · cases x2 : Ve.cov (Ve.cnt b) (Ve.cnt c)
      · exact .inr (.inl ⟨rfl, rfl⟩)
      · exact .inr (.inr ⟨rfl, rfl, K6.out x1 x2⟩)
  clear K5 K6
  rcases hX with x1 | ⟨x1, x2⟩ | ⟨x1, x2, x3⟩ <;> rcases hY with y1 | ⟨y1, y2⟩ | ⟨y1, y2, y3⟩
  case' inl.inl =>
    go_wp2_with fail
    refine (SC.out _ _ _ _ _ _ _ (O3.out.later hb) (O1.out.later hb) _ x1).mono ?_
    rintro e wq ⟨rfl, bq⟩
    replace hb := below_on hb bq
    clear bq
    go_wp2_with fail
    refine (SC.out _ _ _ _ _ _ _ (O1.out.later hb) (O3.out.later hb) _ y1).mono ?_
    rintro e wq ⟨rfl, bq⟩
    replace hb := below_on hb bq
    clear bq
  case' inl.inr.inl =>
    go_wp2_with fail
    refine (SC.out _ _ _ _ _ _ _ (O3.out.later hb) (O1.out.later hb) _ x1).mono ?_
    rintro e wq ⟨rfl, bq⟩
    replace hb := below_on hb bq
    clear bq
    go_wp2_with fail
    refine (SC.out _ _ _ _ _ _ _ (O1.out.later hb) (O3.out.later hb) _ y1).mono ?_
    rintro e wq ⟨rfl, bq⟩
    replace hb := below_on hb bq
    clear bq
    go_wp2_with fail
    refine (SC.out _ _ _ _ _ _ _ (O2.out.later hb) (O3.out.later hb) _ y2).mono ?_
    rintro e wq ⟨rfl, bq⟩
    replace hb := below_on hb bq
    clear bq
  case' inl.inr.inr =>
    go_wp2_with fail
    refine (SC.out _ _ _ _ _ _ _ (O3.out.later hb) (O1.out.later hb) _ x1).mono ?_
    rintro e wq ⟨rfl, bq⟩
    replace hb := below_on hb bq
    clear bq
    go_wp2_with fail
    refine (SC.out _ _ _ _ _ _ _ (O1.out.later hb) (O3.out.later hb) _ y1).mono ?_
    rintro e wq ⟨rfl, bq⟩
    replace hb := below_on hb bq
    clear bq
    go_wp2_with fail
    refine (SC.out _ _ _ _ _ _ _ (O2.out.later hb) (O3.out.later hb) _ y2).mono ?_
    rintro e wq ⟨rfl, bq⟩
    replace hb := below_on hb bq
    clear bq
    go_wp2_with fail
    refine (SC.out _ _ _ _ _ _ _ (OM.out.later hb) (O3.out.later hb) _ y3).mono ?_
    rintro e wq ⟨rfl, bq⟩
    replace hb := below_on hb bq
    clear bq
  case' inr.inl.inl =>
    go_wp2_with fail
    refine (SC.out _ _ _ _ _ _ _ (O3.out.later hb) (O1.out.later hb) _ x1).mono ?_
    rintro e wq ⟨rfl, bq⟩
    replace hb := below_on hb bq
    clear bq
    go_wp2_with fail
    refine (SC.out _ _ _ _ _ _ _ (O3.out.later hb) (O2.out.later hb) _ x2).mono ?_
    rintro e wq ⟨rfl, bq⟩
    replace hb := below_on hb bq
    clear bq
    go_wp2_with fail
    refine (SC.out _ _ _ _ _ _ _ (O1.out.later hb) (O3.out.later hb) _ y1).mono ?_
    rintro e wq ⟨rfl, bq⟩
    replace hb := below_on hb bq
    clear bq
  case' inr.inl.inr.inl =>
    go_wp2_with fail
    refine (SC.out _ _ _ _ _ _ _ (O3.out.later hb) (O1.out.later hb) _ x1).mono ?_
    rintro e wq ⟨rfl, bq⟩
    replace hb := below_on hb bq
    clear bq
    go_wp2_with fail
    refine (SC.out _ _ _ _ _ _ _ (O3.out.later hb) (O2.out.later hb) _ x2).mono ?_
    rintro e wq ⟨rfl, bq⟩
    replace hb := below_on hb bq
    clear bq
    go_wp2_with fail
    refine (SC.out _ _ _ _ _ _ _ (O1.out.later hb) (O3.out.later hb) _ y1).mono ?_
    rintro e wq ⟨rfl, bq⟩
    replace hb := below_on hb bq
    clear bq
    go_wp2_with fail
    refine (SC.out _ _ _ _ _ _ _ (O2.out.later hb) (O3.out.later hb) _ y2).mono ?_
    rintro e wq ⟨rfl, bq⟩
    replace hb := below_on hb bq
    clear bq
  case' inr.inl.inr.inr =>
    go_wp2_with fail
    refine (SC.out _ _ _ _ _ _ _ (O3.out.later hb) (O1.out.later hb) _ x1).mono ?_
    rintro e wq ⟨rfl, bq⟩
    replace hb := below_on hb bq
    clear bq
    go_wp2_with fail
    refine (SC.out _ _ _ _ _ _ _ (O3.out.later hb) (O2.out.later hb) _ x2).mono ?_
    rintro e wq ⟨rfl, bq⟩
    replace hb := below_on hb bq
    clear bq
    go_wp2_with fail
    refine (SC.out _ _ _ _ _ _ _ (O1.out.later hb) (O3.out.later hb) _ y1).mono ?_
    rintro e wq ⟨rfl, bq⟩
    replace hb := below_on hb bq
    clear bq
    go_wp2_with fail
    refine (SC.out _ _ _ _ _ _ _ (O2.out.later hb) (O3.out.later hb) _ y2).mono ?_
    rintro e wq ⟨rfl, bq⟩
    replace hb := below_on hb bq
    clear bq
    go_wp2_with fail
    refine (SC.out _ _ _ _ _ _ _ (OM.out.later hb) (O3.out.later hb) _ y3).mono ?_
    rintro e wq ⟨rfl, bq⟩
    replace hb := below_on hb bq
    clear bq
  case' inr.inr.inl =>
    go_wp2_with fail
    refine (SC.out _ _ _ _ _ _ _ (O3.out.later hb) (O1.out.later hb) _ x1).mono ?_
    rintro e wq ⟨rfl, bq⟩
    replace hb := below_on hb bq
    clear bq
    go_wp2_with fail
    refine (SC.out _ _ _ _ _ _ _ (O3.out.later hb) (O2.out.later hb) _ x2).mono ?_
    rintro e wq ⟨rfl, bq⟩
    replace hb := below_on hb bq
    clear bq
    go_wp2_with fail
    refine (SC.out _ _ _ _ _ _ _ (O3.out.later hb) (OJ.out.later hb) _ x3).mono ?_
    rintro e wq ⟨rfl, bq⟩
    replace hb := below_on hb bq
    clear bq
    go_wp2_with fail
    refine (SC.out _ _ _ _ _ _ _ (O1.out.later hb) (O3.out.later hb) _ y1).mono ?_
    rintro e wq ⟨rfl, bq⟩
    replace hb := below_on hb bq
    clear bq
  case' inr.inr.inr.inl =>
    go_wp2_with fail
    refine (SC.out _ _ _ _ _ _ _ (O3.out.later hb) (O1.out.later hb) _ x1).mono ?_
    rintro e wq ⟨rfl, bq⟩
    replace hb := below_on hb bq
    clear bq
    go_wp2_with fail
    refine (SC.out _ _ _ _ _ _ _ (O3.out.later hb) (O2.out.later hb) _ x2).mono ?_
    rintro e wq ⟨rfl, bq⟩
    replace hb := below_on hb bq
    clear bq
    go_wp2_with fail
    refine (SC.out _ _ _ _ _ _ _ (O3.out.later hb) (OJ.out.later hb) _ x3).mono ?_
    rintro e wq ⟨rfl, bq⟩
    replace hb := below_on hb bq
    clear bq
    go_wp2_with fail
    refine (SC.out _ _ _ _ _ _ _ (O1.out.later hb) (O3.out.later hb) _ y1).mono ?_
    rintro e wq ⟨rfl, bq⟩
    replace hb := below_on hb bq
    clear bq
    go_wp2_with fail
    refine (SC.out _ _ _ _ _ _ _ (O2.out.later hb) (O3.out.later hb) _ y2).mono ?_
    rintro e wq ⟨rfl, bq⟩
    replace hb := below_on hb bq
    clear bq
  case' inr.inr.inr.inr =>
    go_wp2_with fail
    refine (SC.out _ _ _ _ _ _ _ (O3.out.later hb) (O1.out.later hb) _ x1).mono ?_
    rintro e wq ⟨rfl, bq⟩
    replace hb := below_on hb bq
    clear bq
    go_wp2_with fail
    refine (SC.out _ _ _ _ _ _ _ (O3.out.later hb) (O2.out.later hb) _ x2).mono ?_
    rintro e wq ⟨rfl, bq⟩
    replace hb := below_on hb bq
    clear bq
    go_wp2_with fail
    refine (SC.out _ _ _ _ _ _ _ (O3.out.later hb) (OJ.out.later hb) _ x3).mono ?_
    rintro e wq ⟨rfl, bq⟩
    replace hb := below_on hb bq
    clear bq
    go_wp2_with fail
    refine (SC.out _ _ _ _ _ _ _ (O1.out.later hb) (O3.out.later hb) _ y1).mono ?_
    rintro e wq ⟨rfl, bq⟩
    replace hb := below_on hb bq
    clear bq
    go_wp2_with fail
    refine (SC.out _ _ _ _ _ _ _ (O2.out.later hb) (O3.out.later hb) _ y2).mono ?_
    rintro e wq ⟨rfl, bq⟩
    replace hb := below_on hb bq
    clear bq
    go_wp2_with fail
    refine (SC.out _ _ _ _ _ _ _ (OM.out.later hb) (O3.out.later hb) _ y3).mono ?_
    rintro e wq ⟨rfl, bq⟩
    replace hb := below_on hb bq
    clear bq
  all_goals
    go_wp2_with fail
    refine (JB.out _ _ _ _ _ (O2.out.later hb) (O1.out.later hb)).mono ?_
    rintro e v1 ⟨G1, g1, rfl, ho1, q1⟩
    replace hb := below_on hb q1
    have HO1 := Lib.hid ho1
    clear q1 ho1
    go_wp2_with fail
    refine (same_self (OJ.out.later hb) HO1.out).mono ?_
    rintro e v2 ⟨rfl, q2⟩
    replace hb := below_on hb q2
    clear q2 HO1
    go_wp2_with fail
    refine (MB.out _ _ _ _ _ (O2.out.later hb) (O1.out.later hb)).mono ?_
    rintro e v3 ⟨G2, g2, rfl, ho2, q3⟩
    replace hb := below_on hb q3
    have HO2 := Lib.hid ho2
    clear q3 ho2
    go_wp2_with fail
    refine (same_self (OM.out.later hb) HO2.out).mono ?_
    rintro e v4 ⟨rfl, q4⟩
    replace hb := below_on hb q4
    clear q4 HO2
    go_wp2_with fail
    refine (JJ.out _ _ _ _ _ _ _ (OJ.out.later hb) (O3.out.later hb)).mono ?_
    rintro e v5 ⟨G3, g3, rfl, ho3, q5⟩
    replace hb := below_on hb q5
    have HO3 := Lib.hid ho3
    clear q5 ho3
    go_wp2_with fail
    refine (JJ.out _ _ _ _ _ _ _ (O2.out.later hb) (O3.out.later hb)).mono ?_
    rintro e v6 ⟨G4, g4, rfl, ho4, q6⟩
    replace hb := below_on hb q6
    have HO3' := Lib.hid (HO3.out.later q6)
    have HO4 := Lib.hid ho4
    clear q6 ho4 HO3
    go_wp2_with fail
    refine (JJ.out _ _ _ _ _ _ _ (O1.out.later hb) HO4.out).mono ?_
    rintro e v7 ⟨G5, g5, rfl, ho5, q7⟩
    replace hb := below_on hb q7
    have HO3'' := Lib.hid (HO3'.out.later q7)
    have HO5 := Lib.hid ho5
    clear q7 ho5 HO3' HO4
    go_wp2_with fail
    refine (CP.out _ _ _ _ _ _ _ HO3''.out HO5.out _ K9.out).mono ?_
    rintro e v8 ⟨rfl, q8⟩
    replace hb := below_on hb q8
    go_wp2
    go_ret
    exact ⟨rfl, below_on bw3 hb⟩

end Go.Proofs.Ytjdiopoikppifaa
