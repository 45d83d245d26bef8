/-
  The law WireBodies, walked.
  For every body and all bytes, the law WireBodies returns true and leaves its arguments as they were. One condition: the arguments together hold at most 1048576 values (the second form).
-/
import Derived.Test.YtbbmngabbbehcaaG30
import Derived.Test.YtbbmngabbbehcaaG14
import Derived.Test.YtbbmngabbbehcaaG15
import Derived.Test.YtbbmngabbbehcaaG19
import Derived.Test.YtbbmngabbbehcaaG16
import Derived.Test.YtbbmngabbbehcaaG29
import Derived.Test.YtbbmngabbbehcaaRows
import Derived.Test.YtbbmngabbbehcaaG31
import Derived.JoinedCond
import Derived.OpenShut
import Derived.WalkKit
import Derived.ProofKit
import Derived.SizedLaws
namespace Go.Proofs.Ytbbmngabbbehcaa
open Go.RowKit

set_option maxRecDepth 100000 in
set_option maxHeartbeats 12800000 in
theorem lawWBody_true (X A : Option Addr) (cx c : Nat) (y : Bd) (b : List Int) (w : World) (hv : OneB w X cx y.v) (hb : OneB w A c b) (hc : y.c ≤ 9223372036854775807) (hvl : y.v.length ≤ 1048576) (hbl : b.length ≤ 1048576) (hf : Wi.bright y = true) :
    Calls Try.prog 6 #[.agg #[.int .i64 y.o, .int .i64 y.c, .int .i64 y.n, .slice X y.v.length cx], .slice A b.length c] w (Says (.bool true) w) := by
  have CA := Lib.hid (fun wx => walive_any wx)
  have cf := fun wx (hx : OneB wx X cx y.v) => bright_any X cx y wx
  have hft : Wi.bright y = true → Wi.fit y.o ∧ Wi.fit y.c ∧ Wi.fit y.n := fun h => by obtain ⟨z1, z2, z3, -⟩ := Wi.fit_body hc h; exact ⟨z1, z2, z3⟩
  have hmax := Wi.ebody_max y
  have ca := fun wx (h1 : OneB wx A c b) (h2 : OneB wx X cx y.v) => (show Calls Try.prog 33 #[.slice A b.length c, .agg #[.int .i64 y.o, .int .i64 y.c, .int .i64 y.n, .slice X y.v.length cx]] wx (GivesB2 (b ++ Wi.ebody y) 0 wx) from by have h := dappbody_any A c b X cx y wx h1 h2 hft (by omega); rw [hf] at h; exact h)
  have hby := Wi.ebody_byte (x := y) (hft hf).1 (hft hf).2.1 (hft hf).2.2 (Wi.fit_body hc hf).2.2.2 hv.byte
  have ce := fun wx (h2 : OneB wx X cx y.v) => (show Calls Try.prog 32 #[.agg #[.int .i64 y.o, .int .i64 y.c, .int .i64 y.n, .slice X y.v.length cx]] wx (GivesB (Wi.ebody y) wx) from ebody_any X cx y wx (by omega) (hft hf).1 (hft hf).2.1 (hft hf).2.2 h2)
  have cr := fun g wx (h : RdAt wx g A c b (some 0)) => rdbody_any g A c b (some 0) wx (by omega) h
  have ct := fun wx (h : OneB wx A c b) => dbody_top A c b wx (by omega) h
  obtain ⟨E0, hE⟩ : ∃ E0, Wi.ebody y = E0 := ⟨_, rfl⟩
  rw [hE] at hmax hby
  simp only [hE] at ca ce
  have CE := Lib.hid ce; have HY := Lib.hid hby
  clear ce hby hE
  simp only [hf] at cf
  have CF := Lib.hid (fun wx hx => (show Calls Try.prog 31 #[.agg #[.int .i64 y.o, .int .i64 y.c, .int .i64 y.n, .slice X y.v.length cx]] wx (Says (.bool true) wx) from cf wx hx))
  have CW := Lib.hid ca; have CR := Lib.hid cr; have CT := Lib.hid ct; have HV := Lib.hid hv; have HB := Lib.hid hb
  clear cf ca cr ct hft hf hc
  obtain ⟨W0, hW0⟩ : ∃ W0, w.alloc (.cells #[.int .i64 y.o, .int .i64 y.c, .int .i64 y.n, .slice X y.v.length cx] 63) = W0 := ⟨_, rfl⟩
  have b00 : Below w.heap.size w W0 := by rw [← hW0]; exact below_new (Below.refl _ _) _
  have k00 : Blk W0 w.heap.size 63 #[.int .i64 y.o, .int .i64 y.c, .int .i64 y.n, .slice X y.v.length cx] := by rw [← hW0]; exact Blk.new w _ _
  have HW0 := Lib.hid hW0; have B00 := Lib.hid b00; have K00 := Lib.hid k00
  clear hW0 b00 k00 hv hb
  go_enter Try.func6, Try.ntmps6
  go_wp2_with fail
  rw [HW0.out]
  refine (CA.out W0).mono ?_
  rintro e w1 ⟨rfl, b1⟩
  have kN := K00.out.later b1; have c0 := kN.cell (i := 0) rfl; have c1 := kN.cell (i := 1) rfl; have c2 := kN.cell (i := 2) rfl; have c3 := kN.cell (i := 3) rfl
  clear kN
  go_wp2_with fail
  refine (CF.out w1 (HV.out.later (below_on B00.out b1))).mono ?_
  rintro e w2 ⟨rfl, b2⟩
  have q2 := below_on b1 b2
  have bb2 := below_on B00.out q2
  have B1 := Lib.hid b1
  clear c0 c1 c2 c3 b1
  have kN := K00.out.later q2; have c0 := kN.cell (i := 0) rfl; have c1 := kN.cell (i := 1) rfl; have c2 := kN.cell (i := 2) rfl; have c3 := kN.cell (i := 3) rfl
  clear kN
  go_wp2_with fail
  refine (CE.out w2 (HV.out.later bb2)).mono ?_
  rintro e w3 hg
  obtain ⟨D0, d0, rfl, hD, b3⟩ := hg.one HY.out
  clear hg c0 c1 c2 c3
  have q3 := below_on q2 b3
  have bb3 := below_on B00.out q3
  have kN := K00.out.later q3; have c0 := kN.cell (i := 0) rfl; have c1 := kN.cell (i := 1) rfl; have c2 := kN.cell (i := 2) rfl; have c3 := kN.cell (i := 3) rfl
  clear kN
  go_wp2_with fail
  refine (CW.out w3 (HB.out.later bb3) (HV.out.later bb3)).mono ?_
  rintro e w4 ⟨y, rfl, ho, b4⟩
  replace ho : w4.ownsRow w3.heap.size 5 1 y (b ++ E0).length (bCells (b ++ E0)) := ho
  obtain ⟨Y, cy, rfl, hY⟩ := OneB.of_own ho (fun z hz => (List.mem_append.1 hz).elim (HB.out.byte z) (HY.out z))
  obtain ⟨xs, hxs⟩ : ∃ xs, b ++ E0 = xs := ⟨_, rfl⟩
  rw [hxs] at ho hY ⊢
  have hD4 := hD.later b4
  have bb4 := below_on bb3 b4
  clear c0 c1 c2 c3
  have b5 := below_new (Below.refl w4.heap.size w4) (.cells #[.slice A b.length c, .int .i64 0, .bool false] 32)
  have bb5 := below_on bb4 b5
  have hR : RdAt (w4.alloc (.cells #[.slice A b.length c, .int .i64 0, .bool false] 32)) w4.heap.size A c b (some 0) := ⟨0, false, Blk.new w4 _ _, HB.out.later bb5, Nat.zero_le _, rfl⟩
  obtain ⟨W, hW⟩ : ∃ W, w4.alloc (.cells #[.slice A b.length c, .int .i64 0, .bool false] 32) = W := ⟨_, rfl⟩
  obtain ⟨g, hg⟩ : ∃ g, w4.heap.size = g := ⟨_, rfl⟩
  have hgw : w.heap.size ≤ g := by have := bb4.size; omega
  have hWg : g < W.heap.size := by rw [← hW, ← hg]; simp
  have hY5 := hY.later b5
  have hD5 := hD4.later b5
  rw [hW] at bb5 hR hY5 hD5
  rw [hg] at hR
  have HW := Lib.hid hW; have HG := Lib.hid hg; have HR := Lib.hid hR; have HXS := Lib.hid hxs
  clear hW hg hR hxs ho hY hD4 b5
  go_wp2_with fail
  rw [HW.out, HG.out]
  refine (CR.out g W HR.out).mono ?_
  rintro e w6 ⟨D1, dd1, want, rfl, hU, hR6, hO6, hgot⟩
  have bb6 : Below w.heap.size w w6 := bb5.trans (hO6.to_below (by have := bb5.size; omega) hgw)
  obtain ⟨a9, bd9, hB9, -, -, -⟩ := HR.out.blk
  have hY6 := hY5.only hO6 hB9 rd_noU8s
  have hD6 := hD5.only hO6 hB9 rd_noU8s
  unfold bdCells
  have kz := Blk.new w6 63 #[.int .i64 0, .int .i64 0, .int .i64 0, .slice none 0 0]
  have kz3 : Blk ((w6.alloc (.cells #[.int .i64 0, .int .i64 0, .int .i64 0, .slice none 0 0] 63)).setRow w6.heap.size #[.int .i64 want.o, .int .i64 want.c, .int .i64 want.n, .slice D1 want.v.length dd1]) w6.heap.size 63 #[.int .i64 want.o, .int .i64 want.c, .int .i64 want.n, .slice D1 want.v.length dd1] := kz.row _
  have bz3 : Below w6.heap.size w6 ((w6.alloc (.cells #[.int .i64 0, .int .i64 0, .int .i64 0, .slice none 0 0] 63)).setRow w6.heap.size #[.int .i64 want.o, .int .i64 want.c, .int .i64 want.n, .slice D1 want.v.length dd1]) := (Only.row _ w6.heap.size _).to_below (by simp) (Nat.le_refl _) |> fun h => (below_new (Below.refl _ _) _).trans h
  obtain ⟨W6, hW6⟩ : ∃ W6, (w6.alloc (.cells #[.int .i64 0, .int .i64 0, .int .i64 0, .slice none 0 0] 63)).setRow w6.heap.size #[.int .i64 want.o, .int .i64 want.c, .int .i64 want.n, .slice D1 want.v.length dd1] = W6 := ⟨_, rfl⟩
  obtain ⟨g6, hg6⟩ : ∃ g6, w6.heap.size = g6 := ⟨_, rfl⟩
  rw [hW6] at kz3 bz3
  have kzz := kz3
  rw [hg6] at kzz
  have g6w : w.heap.size ≤ g6 := by have := bb6.size; omega
  have g6W : g6 < W6.heap.size := kzz.lt
  have bb6' := below_on bb6 bz3
  have HU := Lib.hid (hU.later bz3); have HR6 := Lib.hid (hR6.later bz3); have HGOT := Lib.hid hgot; have HY6 := Lib.hid (hY6.later bz3); have HD6 := Lib.hid (hD6.later bz3); have KZ := Lib.hid kz; have HW6 := Lib.hid hW6; have HG6 := Lib.hid hg6; have KZZ := Lib.hid kzz
  clear hU hR6 hgot HR hB9 hY6 hD6 kz kz3 bz3 hW6 hg6 kzz hY5 hD5 hO6
  go_upto_region 10 with (refine wpList_store_row rfl 63 _ _ rfl w6.heap.size #[.int .i64 want.o, .int .i64 want.c, .int .i64 want.n, .slice D1 want.v.length dd1] rfl rfl 63 #[.int .i64 0, .int .i64 0, .int .i64 0, .slice none 0 0] KZ.out infoBd rfl (by simp [Value.oneCell']) ?_)
  rw [HW6.out, HG6.out]
  go_wp2_with fail
  refine (CT.out W6 (HB.out.later bb6')).mono ?_
  rintro e w7 ⟨D2, dd2, u2, k, er, rfl, hsm, hown, b7, hp⟩
  have bb7 := below_on bb6' b7
  unfold bdCells
  have kz := Blk.new w7 63 #[.int .i64 0, .int .i64 0, .int .i64 0, .slice none 0 0]
  have kz3 : Blk ((w7.alloc (.cells #[.int .i64 0, .int .i64 0, .int .i64 0, .slice none 0 0] 63)).setRow w7.heap.size #[.int .i64 u2.o, .int .i64 u2.c, .int .i64 u2.n, .slice D2 u2.v.length dd2]) w7.heap.size 63 #[.int .i64 u2.o, .int .i64 u2.c, .int .i64 u2.n, .slice D2 u2.v.length dd2] := kz.row _
  have bz3 : Below w7.heap.size w7 ((w7.alloc (.cells #[.int .i64 0, .int .i64 0, .int .i64 0, .slice none 0 0] 63)).setRow w7.heap.size #[.int .i64 u2.o, .int .i64 u2.c, .int .i64 u2.n, .slice D2 u2.v.length dd2]) := (Only.row _ w7.heap.size _).to_below (by simp) (Nat.le_refl _) |> fun h => (below_new (Below.refl _ _) _).trans h
  obtain ⟨W7, hW7⟩ : ∃ W7, (w7.alloc (.cells #[.int .i64 0, .int .i64 0, .int .i64 0, .slice none 0 0] 63)).setRow w7.heap.size #[.int .i64 u2.o, .int .i64 u2.c, .int .i64 u2.n, .slice D2 u2.v.length dd2] = W7 := ⟨_, rfl⟩
  obtain ⟨g7, hg7⟩ : ∃ g7, w7.heap.size = g7 := ⟨_, rfl⟩
  rw [hW7] at kz3 bz3
  have kzz := kz3
  rw [hg7] at kzz
  have g67 : g6 < g7 := by have := b7.size; omega
  have q7 := below_on b7 bz3
  have bb7' := below_on bb7 bz3
  have hR7 := HR6.out.later q7
  have HOWN := Lib.hid (hown.later bz3); have HP := Lib.hid hp; have KZ7 := Lib.hid kz; have HW7 := Lib.hid hW7; have HG7 := Lib.hid hg7; have KZZ7 := Lib.hid kzz; have Q7 := Lib.hid q7
  have HU7 := Lib.hid (HU.out.later q7); have HY7 := Lib.hid (HY6.out.later q7); have HD7 := Lib.hid (HD6.out.later q7); have K67 := Lib.hid (KZZ.out.later q7)
  clear kz kz3 bz3 hW7 hg7 kzz hown q7 b7 hsm
  go_upto_region 11 with (refine wpList_store_row rfl 63 _ _ rfl w7.heap.size #[.int .i64 u2.o, .int .i64 u2.c, .int .i64 u2.n, .slice D2 u2.v.length dd2] rfl rfl 63 #[.int .i64 0, .int .i64 0, .int .i64 0, .slice none 0 0] KZ7.out infoBd rfl (by simp [Value.oneCell']) ?_)
  rw [HW7.out, HG7.out]
  clear hp
  have hp := HP.out
  have pm : Wi.such Wi.bright (Wi.pbod b 0) = Wi.pbody b 0 := Wi.pbody_m b 0
  rw [pm] at hp
  clear pm
  cases hpv : Wi.pbody b 0 with
  | some r =>
    obtain ⟨x0, a⟩ := r
    obtain ⟨rfl, rfl, rfl⟩ : u2 = x0 ∧ k = (a : Int) ∧ er = 0 := by
      rcases hp with ⟨a', h1, h2, h3⟩ | ⟨h1, -⟩
      · rw [hpv] at h1
        cases h1
        exact ⟨rfl, h2, h3⟩
      · rw [hpv] at h1
        cases h1
    have hn : Wi.nxt (Wi.pbody b) (some 0) = some a := by
      show (Wi.pbody b 0).map _ = _
      rw [hpv]
      rfl
    obtain rfl : want = u2 := HGOT.out u2 a hpv
    rw [hn] at hR7
    have HR7 := Lib.hid hR7
    obtain ⟨a0, bd, hB7, -, ha0, hs⟩ := hR7
    obtain rfl : bd = false := by
      cases bd with
      | false => rfl
      | true => simp at hs
    have r2 := hB7.cell (i := 2) rfl
    have Q1 := Lib.hid (wbehind_any Y A D0 cy c d0 xs b E0 true _ W7 (by omega) HY7.out (HB.out.later bb7') HD7.out HXS.out.symm rfl)
    clear hp hpv hn hs hB7 HP HGOT HY7 HD7 HY6 HD6 HR6 HU
    go_wp2_with fail
    refine Q1.out.mono ?_
    rintro e w8 ⟨rfl, b8⟩
    clear r2
    have Q2 := Lib.hid (wread_any g A c b (some a) _ _ w8 (HR7.out.later b8) (.inl ⟨a, rfl, rfl, rfl⟩))
    go_wp2_with fail
    refine Q2.out.mono ?_
    rintro e w9 ⟨rfl, b9⟩
    have b89 := below_on b8 b9
    have k6 := K67.out.later b89; have c0 := k6.cell (i := 0) rfl; have c1 := k6.cell (i := 1) rfl; have c2 := k6.cell (i := 2) rfl; have c3 := k6.cell (i := 3) rfl
    have k7 := KZZ7.out.later b89; have d0 := k7.cell (i := 0) rfl; have d1 := k7.cell (i := 1) rfl; have d2 := k7.cell (i := 2) rfl; have d3 := k7.cell (i := 3) rfl
    have q3 := bsamebody_any D2 D1 dd2 dd1 want want w9 (oneB_own (HOWN.out.later b89).v (HOWN.out.later b89).by_) (HU7.out.later b89)
    rw [(Wi.bsame_iff _ _).2 rfl] at q3
    have Q3 := Lib.hid (show Calls Try.prog 36 #[.agg #[.int .i64 want.o, .int .i64 want.c, .int .i64 want.n, .slice D2 want.v.length dd2], .agg #[.int .i64 want.o, .int .i64 want.c, .int .i64 want.n, .slice D1 want.v.length dd1]] w9 (Says (.bool true) w9) from q3)
    clear k6 k7 q3
    go_wp2_with fail
    refine Q3.out.mono ?_
    rintro e w10 ⟨rfl, b10⟩
    go_wp2
    go_ret
    exact ⟨rfl, below_on (below_on bb7' b89) b10⟩
  | none =>
    obtain ⟨rfl, rfl, rfl⟩ : u2 = zeroBd ∧ k = 0 ∧ er = 4 := by
      rcases hp with ⟨a', h1, -⟩ | ⟨-, h2, h3, h4⟩
      · rw [hpv] at h1
        cases h1
      · exact ⟨h2, h3, h4⟩
    have hn : Wi.nxt (Wi.pbody b) (some 0) = none := by
      show (Wi.pbody b 0).map _ = _
      rw [hpv]
      rfl
    rw [hn] at hR7
    have HR7 := Lib.hid hR7
    obtain ⟨a0, bd, hB7, -, ha0, hs⟩ := hR7
    obtain rfl : bd = true := by
      cases bd with
      | true => rfl
      | false => simp at hs
    have hB7' := hB7
    have r2 := hB7.cell (i := 2) rfl
    have hO8 := Only.row W7 g6 #[.int .i64 0, .int .i64 0, .int .i64 0, .slice none 0 0]
    have hgne : g ≠ g6 := by
      intro e
      have := HR7.out.lt
      have h1 := K67.out
      subst e
      have h2 := hB7.symm.trans h1
      simp at h2
    have k68 := K67.out.row #[.int .i64 0, .int .i64 0, .int .i64 0, .slice none 0 0]
    obtain ⟨W8, hW8⟩ : ∃ W8, W7.setRow g6 #[.int .i64 0, .int .i64 0, .int .i64 0, .slice none 0 0] = W8 := ⟨_, rfl⟩
    rw [hW8] at hO8 k68
    have hR8 : RdAt W8 g A c b none := ⟨a0, true, hO8.blk hB7 hgne, (HB.out.later bb7').only hO8 K67.out (by intro x hx; simp at hx; rcases hx with rfl | rfl | rfl | rfl <;> rfl), ha0, rfl⟩
    have bb8 : Below w.heap.size w W8 := bb7'.trans (hO8.to_below (by have := bb7'.size; omega) g6w)
    have HOWN8 := Lib.hid (HOWN.out.only hO8 g6W)
    have k78 := hO8.blk KZZ7.out (show g7 ≠ g6 by omega)
    have HY8 := HY7.out.only hO8 K67.out (by intro x hx; simp at hx; rcases hx with rfl | rfl | rfl | rfl <;> rfl)
    have HD8 := HD7.out.only hO8 K67.out (by intro x hx; simp at hx; rcases hx with rfl | rfl | rfl | rfl <;> rfl)
    have Q1 := Lib.hid (wbehind_any Y A D0 cy c d0 xs b E0 true _ W8 (by omega) HY8 (HB.out.later bb8) HD8 HXS.out.symm rfl)
    have HR8 := Lib.hid hR8; have K68 := Lib.hid k68; have K78 := Lib.hid k78; have HW8 := Lib.hid hW8
    clear hp hpv hn hs hB7 hB7' HP HGOT HY7 HD7 HY6 HD6 HR6 HU HY8 HD8 hR8 k68 k78 hO8 hW8
    go_wp2_with (refine wpList_store_row rfl 63 _ _ rfl g6 #[.int .i64 0, .int .i64 0, .int .i64 0, .slice none 0 0] rfl rfl 63 #[.int .i64 want.o, .int .i64 want.c, .int .i64 want.n, .slice D1 want.v.length dd1] K67.out infoBd rfl (by simp [Value.oneCell']) ?_)
    rw [HW8.out]
    refine Q1.out.mono ?_
    rintro e w8 ⟨rfl, b8⟩
    clear r2
    have Q2 := Lib.hid (wread_any g A c b none _ _ w8 (HR8.out.later b8) (.inr ⟨rfl, rfl, rfl⟩))
    go_wp2_with fail
    refine Q2.out.mono ?_
    rintro e w9 ⟨rfl, b9⟩
    have b89 := below_on b8 b9
    have k6 := K68.out.later b89; have c0 := k6.cell (i := 0) rfl; have c1 := k6.cell (i := 1) rfl; have c2 := k6.cell (i := 2) rfl; have c3 := k6.cell (i := 3) rfl
    have k7 := K78.out.later b89; have d0 := k7.cell (i := 0) rfl; have d1 := k7.cell (i := 1) rfl; have d2 := k7.cell (i := 2) rfl; have d3 := k7.cell (i := 3) rfl
    have q3 := bsamebody_any D2 none dd2 0 zeroBd zeroBd w9 (oneB_own (HOWN8.out.later b89).v (HOWN8.out.later b89).by_) (OneB.nil w9)
    rw [(Wi.bsame_iff _ _).2 rfl] at q3
    have Q3 := Lib.hid (show Calls Try.prog 36 #[.agg #[.int .i64 zeroBd.o, .int .i64 zeroBd.c, .int .i64 zeroBd.n, .slice D2 zeroBd.v.length dd2], .agg #[.int .i64 0, .int .i64 0, .int .i64 0, .slice none 0 0]] w9 (Says (.bool true) w9) from q3)
    clear k6 k7 q3
    unfold zeroBd at *
    go_wp2_with fail
    refine Q3.out.mono ?_
    rintro e w10 ⟨rfl, b10⟩
    go_wp2
    go_ret
    exact ⟨rfl, below_on (below_on bb8 b89) b10⟩

set_option maxRecDepth 100000 in
set_option maxHeartbeats 12800000 in
theorem lawWBody_false (X A : Option Addr) (cx c : Nat) (y : Bd) (b : List Int) (w : World) (hv : OneB w X cx y.v) (hb : OneB w A c b) (hc : y.c ≤ 9223372036854775807) (hvl : y.v.length ≤ 1048576) (hbl : b.length ≤ 1048576) (hf : Wi.bright y = false) :
    Calls Try.prog 6 #[.agg #[.int .i64 y.o, .int .i64 y.c, .int .i64 y.n, .slice X y.v.length cx], .slice A b.length c] w (Says (.bool true) w) := by
  have CA := Lib.hid (fun wx => walive_any wx)
  have cf := fun wx (hx : OneB wx X cx y.v) => bright_any X cx y wx
  have hft : Wi.bright y = true → Wi.fit y.o ∧ Wi.fit y.c ∧ Wi.fit y.n := fun h => by obtain ⟨z1, z2, z3, -⟩ := Wi.fit_body hc h; exact ⟨z1, z2, z3⟩
  have hmax := Wi.ebody_max y
  have ca := fun wx (h1 : OneB wx A c b) (h2 : OneB wx X cx y.v) => (show Calls Try.prog 33 #[.slice A b.length c, .agg #[.int .i64 y.o, .int .i64 y.c, .int .i64 y.n, .slice X y.v.length cx]] wx (GivesB2 [] 1 wx) from by have h := dappbody_any A c b X cx y wx h1 h2 hft (by omega); rw [hf] at h; exact h)
  have cr := fun g wx (h : RdAt wx g A c b (some 0)) => rdbody_any g A c b (some 0) wx (by omega) h
  have ct := fun wx (h : OneB wx A c b) => dbody_top A c b wx (by omega) h
  simp only [hf] at cf
  have CF := Lib.hid (fun wx hx => (show Calls Try.prog 31 #[.agg #[.int .i64 y.o, .int .i64 y.c, .int .i64 y.n, .slice X y.v.length cx]] wx (Says (.bool false) wx) from cf wx hx))
  have CW := Lib.hid ca; have CR := Lib.hid cr; have CT := Lib.hid ct; have HV := Lib.hid hv; have HB := Lib.hid hb
  clear cf ca cr ct hft hf hc
  obtain ⟨W0, hW0⟩ : ∃ W0, w.alloc (.cells #[.int .i64 y.o, .int .i64 y.c, .int .i64 y.n, .slice X y.v.length cx] 63) = W0 := ⟨_, rfl⟩
  have b00 : Below w.heap.size w W0 := by rw [← hW0]; exact below_new (Below.refl _ _) _
  have k00 : Blk W0 w.heap.size 63 #[.int .i64 y.o, .int .i64 y.c, .int .i64 y.n, .slice X y.v.length cx] := by rw [← hW0]; exact Blk.new w _ _
  have HW0 := Lib.hid hW0; have B00 := Lib.hid b00; have K00 := Lib.hid k00
  clear hW0 b00 k00 hv hb
  go_enter Try.func6, Try.ntmps6
  go_wp2_with fail
  rw [HW0.out]
  refine (CA.out W0).mono ?_
  rintro e w1 ⟨rfl, b1⟩
  have kN := K00.out.later b1; have c0 := kN.cell (i := 0) rfl; have c1 := kN.cell (i := 1) rfl; have c2 := kN.cell (i := 2) rfl; have c3 := kN.cell (i := 3) rfl
  clear kN
  go_wp2_with fail
  refine (CF.out w1 (HV.out.later (below_on B00.out b1))).mono ?_
  rintro e w2 ⟨rfl, b2⟩
  have q2 := below_on b1 b2
  have bb2 := below_on B00.out q2
  have B1 := Lib.hid b1
  clear c0 c1 c2 c3 b1
  have kN := K00.out.later q2; have c0 := kN.cell (i := 0) rfl; have c1 := kN.cell (i := 1) rfl; have c2 := kN.cell (i := 2) rfl; have c3 := kN.cell (i := 3) rfl
  clear kN
  have hD4 : OneB w2 none 0 [] := OneB.nil _
  go_wp2_with fail
  refine (CW.out w2 (HB.out.later bb2) (HV.out.later bb2)).mono ?_
  rintro e w4 ⟨y, rfl, ho, b4⟩
  replace ho : w4.ownsRow w2.heap.size 5 1 y ([] : List Int).length (bCells []) := ho
  obtain ⟨Y, cy, rfl, hY⟩ := OneB.of_own ho (fun z hz => by cases hz)
  replace hD4 := hD4.later b4
  have bb4 := below_on bb2 b4
  obtain ⟨xs, hxs⟩ : ∃ xs : List Int, [] = xs := ⟨_, rfl⟩
  rw [hxs] at ho hY ⊢
  clear c0 c1 c2 c3
  have b5 := below_new (Below.refl w4.heap.size w4) (.cells #[.slice A b.length c, .int .i64 0, .bool false] 32)
  have bb5 := below_on bb4 b5
  have hR : RdAt (w4.alloc (.cells #[.slice A b.length c, .int .i64 0, .bool false] 32)) w4.heap.size A c b (some 0) := ⟨0, false, Blk.new w4 _ _, HB.out.later bb5, Nat.zero_le _, rfl⟩
  obtain ⟨W, hW⟩ : ∃ W, w4.alloc (.cells #[.slice A b.length c, .int .i64 0, .bool false] 32) = W := ⟨_, rfl⟩
  obtain ⟨g, hg⟩ : ∃ g, w4.heap.size = g := ⟨_, rfl⟩
  have hgw : w.heap.size ≤ g := by have := bb4.size; omega
  have hWg : g < W.heap.size := by rw [← hW, ← hg]; simp
  have hY5 := hY.later b5
  have hD5 := hD4.later b5
  rw [hW] at bb5 hR hY5 hD5
  rw [hg] at hR
  have HW := Lib.hid hW; have HG := Lib.hid hg; have HR := Lib.hid hR; have HXS := Lib.hid hxs
  clear hW hg hR hxs ho hY hD4 b5
  go_wp2_with fail
  rw [HW.out, HG.out]
  refine (CR.out g W HR.out).mono ?_
  rintro e w6 ⟨D1, dd1, want, rfl, hU, hR6, hO6, hgot⟩
  have bb6 : Below w.heap.size w w6 := bb5.trans (hO6.to_below (by have := bb5.size; omega) hgw)
  obtain ⟨a9, bd9, hB9, -, -, -⟩ := HR.out.blk
  have hY6 := hY5.only hO6 hB9 rd_noU8s
  have hD6 := hD5.only hO6 hB9 rd_noU8s
  unfold bdCells
  have kz := Blk.new w6 63 #[.int .i64 0, .int .i64 0, .int .i64 0, .slice none 0 0]
  have kz3 : Blk ((w6.alloc (.cells #[.int .i64 0, .int .i64 0, .int .i64 0, .slice none 0 0] 63)).setRow w6.heap.size #[.int .i64 want.o, .int .i64 want.c, .int .i64 want.n, .slice D1 want.v.length dd1]) w6.heap.size 63 #[.int .i64 want.o, .int .i64 want.c, .int .i64 want.n, .slice D1 want.v.length dd1] := kz.row _
  have bz3 : Below w6.heap.size w6 ((w6.alloc (.cells #[.int .i64 0, .int .i64 0, .int .i64 0, .slice none 0 0] 63)).setRow w6.heap.size #[.int .i64 want.o, .int .i64 want.c, .int .i64 want.n, .slice D1 want.v.length dd1]) := (Only.row _ w6.heap.size _).to_below (by simp) (Nat.le_refl _) |> fun h => (below_new (Below.refl _ _) _).trans h
  obtain ⟨W6, hW6⟩ : ∃ W6, (w6.alloc (.cells #[.int .i64 0, .int .i64 0, .int .i64 0, .slice none 0 0] 63)).setRow w6.heap.size #[.int .i64 want.o, .int .i64 want.c, .int .i64 want.n, .slice D1 want.v.length dd1] = W6 := ⟨_, rfl⟩
  obtain ⟨g6, hg6⟩ : ∃ g6, w6.heap.size = g6 := ⟨_, rfl⟩
  rw [hW6] at kz3 bz3
  have kzz := kz3
  rw [hg6] at kzz
  have g6w : w.heap.size ≤ g6 := by have := bb6.size; omega
  have g6W : g6 < W6.heap.size := kzz.lt
  have bb6' := below_on bb6 bz3
  have HU := Lib.hid (hU.later bz3); have HR6 := Lib.hid (hR6.later bz3); have HGOT := Lib.hid hgot; have HY6 := Lib.hid (hY6.later bz3); have HD6 := Lib.hid (hD6.later bz3); have KZ := Lib.hid kz; have HW6 := Lib.hid hW6; have HG6 := Lib.hid hg6; have KZZ := Lib.hid kzz
  clear hU hR6 hgot HR hB9 hY6 hD6 kz kz3 bz3 hW6 hg6 kzz hY5 hD5 hO6
  go_upto_region 10 with (refine wpList_store_row rfl 63 _ _ rfl w6.heap.size #[.int .i64 want.o, .int .i64 want.c, .int .i64 want.n, .slice D1 want.v.length dd1] rfl rfl 63 #[.int .i64 0, .int .i64 0, .int .i64 0, .slice none 0 0] KZ.out infoBd rfl (by simp [Value.oneCell']) ?_)
  rw [HW6.out, HG6.out]
  go_wp2_with fail
  refine (CT.out W6 (HB.out.later bb6')).mono ?_
  rintro e w7 ⟨D2, dd2, u2, k, er, rfl, hsm, hown, b7, hp⟩
  have bb7 := below_on bb6' b7
  unfold bdCells
  have kz := Blk.new w7 63 #[.int .i64 0, .int .i64 0, .int .i64 0, .slice none 0 0]
  have kz3 : Blk ((w7.alloc (.cells #[.int .i64 0, .int .i64 0, .int .i64 0, .slice none 0 0] 63)).setRow w7.heap.size #[.int .i64 u2.o, .int .i64 u2.c, .int .i64 u2.n, .slice D2 u2.v.length dd2]) w7.heap.size 63 #[.int .i64 u2.o, .int .i64 u2.c, .int .i64 u2.n, .slice D2 u2.v.length dd2] := kz.row _
  have bz3 : Below w7.heap.size w7 ((w7.alloc (.cells #[.int .i64 0, .int .i64 0, .int .i64 0, .slice none 0 0] 63)).setRow w7.heap.size #[.int .i64 u2.o, .int .i64 u2.c, .int .i64 u2.n, .slice D2 u2.v.length dd2]) := (Only.row _ w7.heap.size _).to_below (by simp) (Nat.le_refl _) |> fun h => (below_new (Below.refl _ _) _).trans h
  obtain ⟨W7, hW7⟩ : ∃ W7, (w7.alloc (.cells #[.int .i64 0, .int .i64 0, .int .i64 0, .slice none 0 0] 63)).setRow w7.heap.size #[.int .i64 u2.o, .int .i64 u2.c, .int .i64 u2.n, .slice D2 u2.v.length dd2] = W7 := ⟨_, rfl⟩
  obtain ⟨g7, hg7⟩ : ∃ g7, w7.heap.size = g7 := ⟨_, rfl⟩
  rw [hW7] at kz3 bz3
  have kzz := kz3
  rw [hg7] at kzz
  have g67 : g6 < g7 := by have := b7.size; omega
  have q7 := below_on b7 bz3
  have bb7' := below_on bb7 bz3
  have hR7 := HR6.out.later q7
  have HOWN := Lib.hid (hown.later bz3); have HP := Lib.hid hp; have KZ7 := Lib.hid kz; have HW7 := Lib.hid hW7; have HG7 := Lib.hid hg7; have KZZ7 := Lib.hid kzz; have Q7 := Lib.hid q7
  have HU7 := Lib.hid (HU.out.later q7); have HY7 := Lib.hid (HY6.out.later q7); have HD7 := Lib.hid (HD6.out.later q7); have K67 := Lib.hid (KZZ.out.later q7)
  clear kz kz3 bz3 hW7 hg7 kzz hown q7 b7 hsm
  go_upto_region 11 with (refine wpList_store_row rfl 63 _ _ rfl w7.heap.size #[.int .i64 u2.o, .int .i64 u2.c, .int .i64 u2.n, .slice D2 u2.v.length dd2] rfl rfl 63 #[.int .i64 0, .int .i64 0, .int .i64 0, .slice none 0 0] KZ7.out infoBd rfl (by simp [Value.oneCell']) ?_)
  rw [HW7.out, HG7.out]
  clear hp
  have hp := HP.out
  have pm : Wi.such Wi.bright (Wi.pbod b 0) = Wi.pbody b 0 := Wi.pbody_m b 0
  rw [pm] at hp
  clear pm
  cases hpv : Wi.pbody b 0 with
  | some r =>
    obtain ⟨x0, a⟩ := r
    obtain ⟨rfl, rfl, rfl⟩ : u2 = x0 ∧ k = (a : Int) ∧ er = 0 := by
      rcases hp with ⟨a', h1, h2, h3⟩ | ⟨h1, -⟩
      · rw [hpv] at h1
        cases h1
        exact ⟨rfl, h2, h3⟩
      · rw [hpv] at h1
        cases h1
    have hn : Wi.nxt (Wi.pbody b) (some 0) = some a := by
      show (Wi.pbody b 0).map _ = _
      rw [hpv]
      rfl
    obtain rfl : want = u2 := HGOT.out u2 a hpv
    rw [hn] at hR7
    have HR7 := Lib.hid hR7
    obtain ⟨a0, bd, hB7, -, ha0, hs⟩ := hR7
    obtain rfl : bd = false := by
      cases bd with
      | false => rfl
      | true => simp at hs
    have r2 := hB7.cell (i := 2) rfl
    have Q1 := Lib.hid (wbehind_any Y A none cy c 0 xs b ([] : List Int) false _ W7 (by simp; omega) HY7.out (HB.out.later bb7') HD7.out HXS.out.symm rfl)
    clear hp hpv hn hs hB7 HP HGOT HY7 HD7 HY6 HD6 HR6 HU
    go_wp2_with fail
    refine Q1.out.mono ?_
    rintro e w8 ⟨rfl, b8⟩
    clear r2
    have Q2 := Lib.hid (wread_any g A c b (some a) _ _ w8 (HR7.out.later b8) (.inl ⟨a, rfl, rfl, rfl⟩))
    go_wp2_with fail
    refine Q2.out.mono ?_
    rintro e w9 ⟨rfl, b9⟩
    have b89 := below_on b8 b9
    have k6 := K67.out.later b89; have c0 := k6.cell (i := 0) rfl; have c1 := k6.cell (i := 1) rfl; have c2 := k6.cell (i := 2) rfl; have c3 := k6.cell (i := 3) rfl
    have k7 := KZZ7.out.later b89; have d0 := k7.cell (i := 0) rfl; have d1 := k7.cell (i := 1) rfl; have d2 := k7.cell (i := 2) rfl; have d3 := k7.cell (i := 3) rfl
    have q3 := bsamebody_any D2 D1 dd2 dd1 want want w9 (oneB_own (HOWN.out.later b89).v (HOWN.out.later b89).by_) (HU7.out.later b89)
    rw [(Wi.bsame_iff _ _).2 rfl] at q3
    have Q3 := Lib.hid (show Calls Try.prog 36 #[.agg #[.int .i64 want.o, .int .i64 want.c, .int .i64 want.n, .slice D2 want.v.length dd2], .agg #[.int .i64 want.o, .int .i64 want.c, .int .i64 want.n, .slice D1 want.v.length dd1]] w9 (Says (.bool true) w9) from q3)
    clear k6 k7 q3
    go_wp2_with fail
    refine Q3.out.mono ?_
    rintro e w10 ⟨rfl, b10⟩
    go_wp2
    go_ret
    exact ⟨rfl, below_on (below_on bb7' b89) b10⟩
  | none =>
    obtain ⟨rfl, rfl, rfl⟩ : u2 = zeroBd ∧ k = 0 ∧ er = 4 := by
      rcases hp with ⟨a', h1, -⟩ | ⟨-, h2, h3, h4⟩
      · rw [hpv] at h1
        cases h1
      · exact ⟨h2, h3, h4⟩
    have hn : Wi.nxt (Wi.pbody b) (some 0) = none := by
      show (Wi.pbody b 0).map _ = _
      rw [hpv]
      rfl
    rw [hn] at hR7
    have HR7 := Lib.hid hR7
    obtain ⟨a0, bd, hB7, -, ha0, hs⟩ := hR7
    obtain rfl : bd = true := by
      cases bd with
      | true => rfl
      | false => simp at hs
    have hB7' := hB7
    have r2 := hB7.cell (i := 2) rfl
    have hO8 := Only.row W7 g6 #[.int .i64 0, .int .i64 0, .int .i64 0, .slice none 0 0]
    have hgne : g ≠ g6 := by
      intro e
      have := HR7.out.lt
      have h1 := K67.out
      subst e
      have h2 := hB7.symm.trans h1
      simp at h2
    have k68 := K67.out.row #[.int .i64 0, .int .i64 0, .int .i64 0, .slice none 0 0]
    obtain ⟨W8, hW8⟩ : ∃ W8, W7.setRow g6 #[.int .i64 0, .int .i64 0, .int .i64 0, .slice none 0 0] = W8 := ⟨_, rfl⟩
    rw [hW8] at hO8 k68
    have hR8 : RdAt W8 g A c b none := ⟨a0, true, hO8.blk hB7 hgne, (HB.out.later bb7').only hO8 K67.out (by intro x hx; simp at hx; rcases hx with rfl | rfl | rfl | rfl <;> rfl), ha0, rfl⟩
    have bb8 : Below w.heap.size w W8 := bb7'.trans (hO8.to_below (by have := bb7'.size; omega) g6w)
    have HOWN8 := Lib.hid (HOWN.out.only hO8 g6W)
    have k78 := hO8.blk KZZ7.out (show g7 ≠ g6 by omega)
    have HY8 := HY7.out.only hO8 K67.out (by intro x hx; simp at hx; rcases hx with rfl | rfl | rfl | rfl <;> rfl)
    have HD8 := HD7.out.only hO8 K67.out (by intro x hx; simp at hx; rcases hx with rfl | rfl | rfl | rfl <;> rfl)
    have Q1 := Lib.hid (wbehind_any Y A none cy c 0 xs b ([] : List Int) false _ W8 (by simp; omega) HY8 (HB.out.later bb8) HD8 HXS.out.symm rfl)
    have HR8 := Lib.hid hR8; have K68 := Lib.hid k68; have K78 := Lib.hid k78; have HW8 := Lib.hid hW8
    clear hp hpv hn hs hB7 hB7' HP HGOT HY7 HD7 HY6 HD6 HR6 HU HY8 HD8 hR8 k68 k78 hO8 hW8
    go_wp2_with (refine wpList_store_row rfl 63 _ _ rfl g6 #[.int .i64 0, .int .i64 0, .int .i64 0, .slice none 0 0] rfl rfl 63 #[.int .i64 want.o, .int .i64 want.c, .int .i64 want.n, .slice D1 want.v.length dd1] K67.out infoBd rfl (by simp [Value.oneCell']) ?_)
    rw [HW8.out]
    refine Q1.out.mono ?_
    rintro e w8 ⟨rfl, b8⟩
    clear r2
    have Q2 := Lib.hid (wread_any g A c b none _ _ w8 (HR8.out.later b8) (.inr ⟨rfl, rfl, rfl⟩))
    go_wp2_with fail
    refine Q2.out.mono ?_
    rintro e w9 ⟨rfl, b9⟩
    have b89 := below_on b8 b9
    have k6 := K68.out.later b89; have c0 := k6.cell (i := 0) rfl; have c1 := k6.cell (i := 1) rfl; have c2 := k6.cell (i := 2) rfl; have c3 := k6.cell (i := 3) rfl
    have k7 := K78.out.later b89; have d0 := k7.cell (i := 0) rfl; have d1 := k7.cell (i := 1) rfl; have d2 := k7.cell (i := 2) rfl; have d3 := k7.cell (i := 3) rfl
    have q3 := bsamebody_any D2 none dd2 0 zeroBd zeroBd w9 (oneB_own (HOWN8.out.later b89).v (HOWN8.out.later b89).by_) (OneB.nil w9)
    rw [(Wi.bsame_iff _ _).2 rfl] at q3
    have Q3 := Lib.hid (show Calls Try.prog 36 #[.agg #[.int .i64 zeroBd.o, .int .i64 zeroBd.c, .int .i64 zeroBd.n, .slice D2 zeroBd.v.length dd2], .agg #[.int .i64 0, .int .i64 0, .int .i64 0, .slice none 0 0]] w9 (Says (.bool true) w9) from q3)
    clear k6 k7 q3
    unfold zeroBd at *
    go_wp2_with fail
    refine Q3.out.mono ?_
    rintro e w10 ⟨rfl, b10⟩
    go_wp2
    go_ret
    exact ⟨rfl, below_on (below_on bb8 b89) b10⟩

theorem lawWBody_any (X A : Option Addr) (cx c : Nat) (y : Bd) (b : List Int) (w : World) (hv : OneB w X cx y.v) (hb : OneB w A c b) (hc : y.c ≤ 9223372036854775807) (hvl : y.v.length ≤ 1048576) (hbl : b.length ≤ 1048576) :
    Calls Try.prog 6 #[.agg #[.int .i64 y.o, .int .i64 y.c, .int .i64 y.n, .slice X y.v.length cx], .slice A b.length c] w (Says (.bool true) w) := by
  cases hf : Wi.bright y with
  | true => exact lawWBody_true X A cx c y b w hv hb hc hvl hbl hf
  | false => exact lawWBody_false X A cx c y b w hv hb hc hvl hbl hf
end Go.Proofs.Ytbbmngabbbehcaa
namespace Go.Proofs.Ytbbmngabbbehcaa.wireBodies
open Go.ChangeShapes Go.WideShapes Go.ChangeAt Go.RowKit

theorem own : ownKnob Try.prog.godebug = none := by kernel_rfl
theorem laidOut : laidOutB Try.prog = true := by kernel_rfl
theorem reads : ∀ t ∈ Try.f6.params.toList, Try.prog.readableRec t = true ∧ t < Try.prog.types.size := by
  intro t ht
  rw [Try.params6] at ht
  have : t = 63 ∨ t = 23 := by simpa using ht
  rcases this with rfl | rfl <;> exact ⟨by kernel_rfl, of_decide_eq_true (by kernel_rfl)⟩

set_option maxRecDepth 100000 in
theorem lifted (os : Os) (started : os.Started) (H : Type) (enc : TypeId × Value → H) (F : Stop.Interp) :
    ReturnsInHanded {} Try.checked os 6 .any ((Rows.OpenSpec.upto Rows.wireBodiesSpec).pre6 enc Try.prog Try.f6 Rows.wireBodiesUptoRow.domain false) (((Rows.OpenSpec.upto Rows.wireBodiesSpec).at F).post enc Try.prog Try.f6 false true false false) := by
  refine returnsInHanded_of_cond (C := Try.checked) (s := Rows.OpenSpec.upto Rows.wireBodiesSpec) (k := Rows.uptoSmall) rfl own started (by kernel_rfl) Try.func6
    (OpenSpec.witness (enc := enc) (C := Try.checked) (s := Rows.OpenSpec.upto Rows.wireBodiesSpec) (k := Rows.uptoSmall) rfl false ⟨#[], #[.agg #[.int .i64 0, .int .i64 0, .int .i64 0, .slice none 0 0], .slice none 0 0], []⟩ 8 (by kernel_rfl) (by kernel_rfl) (by kernel_rfl)
      (x := ([.agg [.lit (.int .i64 0), .agg [.lit (.int .i64 0), .lit (.int .i64 0)], .nil], .nil], [], [])) (by kernel_rfl) rfl (by kernel_rfl)) ?_
  intro W base args ds gs before hval0 hW _ hk _
  suffices hs : Calls Try.prog 6 args W (fun e W' => ∃ v, e = .returned v ∧ Rows.wireBodiesSpec.post enc Try.prog Try.f6 false true false false W args v W') from hs
  replace hW : DataW.Whole enc Try.prog Try.f6.params.toList Rows.wireBodiesSpec.vars false W args.toList ds gs before := hW
  have hval : ∀ (j : Nat) t v, Try.f6.params[j]? = some t → args[j]? = some v → Value.okWide Try.prog W .any base t v := hval0
  have hW' := hW
  obtain ⟨p, q, hA0, hV, rfl, hfz, hnd⟩ := hW
  have hA : DataW.TrodAll enc Try.prog W 0 (fun _ => true) true Try.f6.params.toList args.toList ds p := hA0
  rw [Try.params6] at hA hval
  obtain ⟨v0, vs0, d0, ds0, p0, q0, hargs, rfl, rfl, h0, r0⟩ := trodAll_cons hA
  obtain ⟨v1, vs1, d1, ds1, p1, q1, rfl, rfl, rfl, h1, r1⟩ := trodAll_cons r0
  obtain ⟨rfl, rfl, rfl⟩ := trodAll_nil r1
  obtain rfl : args = #[v0, v1] := by cases args; simp_all
  obtain ⟨rfl, rfl⟩ := trodVars_none hV
  have hb := bulk_all hk
  simp only [List.append_nil, bulk_cons] at hb
  obtain ⟨D0, cap0, y0, rfl, o0, g0, z0⟩ := open_body (hval 0 63 v0 rfl rfl) h0
  obtain ⟨A1, cap1, l1, rfl, o1, z1⟩ := open_bytes2 (hval 1 23 v1 rfl rfl) h1
  clear hA0 hval0
  refine (lawWBody_any D0 A1 cap0 cap1 y0 l1 W o0 o1 g0 (by omega) (by omega)).mono fun e W' ⟨he, hg⟩ => ?_
  subst he
  exact ⟨_, rfl, law_post laidOut hW' rfl rfl (by kernel_rfl) Try.underlying4 reads hg⟩

/-- The statement. -/
theorem proved : Rows.WireBodiesUptoSaid :=
  OpenClaim.holds_of_cond 6 Try.f6 rfl rfl rfl rfl rfl rfl rfl ⟨rfl, rfl, rfl, rfl, rfl⟩ rfl rfl rfl rfl rfl (by kernel_rfl) Try.func6 (by kernel_rfl)
    (of_decide_eq_true (by kernel_rfl)) (by unfold Func.isWrapper; first | (rw [if_pos (by decide +kernel)]; kernel_rfl) | (rw [if_neg (by decide +kernel)]; exact ⟨rfl, rfl⟩))
    (fun os started H enc _ F => lifted os started H enc F)

end Go.Proofs.Ytbbmngabbbehcaa.wireBodies
