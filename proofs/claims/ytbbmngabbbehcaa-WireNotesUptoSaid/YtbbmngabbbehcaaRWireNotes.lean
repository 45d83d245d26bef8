/-
  The law WireNotes, walked.
  For every note and all bytes, the law WireNotes returns true and leaves its arguments as they were. One condition: the arguments together hold at most 1048576 values (the second form).
-/
import Derived.Test.YtbbmngabbbehcaaG30
import Derived.Test.YtbbmngabbbehcaaG14
import Derived.Test.YtbbmngabbbehcaaG15
import Derived.Test.YtbbmngabbbehcaaG19
import Derived.Test.YtbbmngabbbehcaaG16
import Derived.Test.YtbbmngabbbehcaaG29
import Derived.Test.YtbbmngabbbehcaaRows
import Derived.Test.YtbbmngabbbehcaaG31
import Derived.JoinedCond
import Derived.OpenShut
import Derived.WalkKit
import Derived.ProofKit
import Derived.SizedLaws
namespace Go.Proofs.Ytbbmngabbbehcaa
open Go.RowKit

set_option maxRecDepth 100000 in
set_option maxHeartbeats 12800000 in
theorem lawWNote_true (S E B V A : Option Addr) (cs ce cb cv c : Nat) (n : Note) (b : List Int) (w : World) (hv : NoteAt w S E B V cs ce cb cv n) (hb : OneB w A c b) (hi : Wi.IntsN n) (h1 : n.s.length ≤ 1048576) (h2 : n.e.length ≤ 1048576) (h3 : n.b.length ≤ 1048576) (h4 : n.ws.length ≤ 1048576) (hbl : b.length ≤ 1048576) (hf : Nt.fmd n = true) :
    Calls Try.prog 5 #[.agg #[.slice S n.s.length cs, .slice E n.e.length ce, .slice B n.b.length cb, .slice V n.ws.length cv], .slice A b.length c] w (Says (.bool true) w) := by
  have CA := Lib.hid (fun wx => walive_any wx)
  have cf := fun wx (hx : NoteAt wx S E B V cs ce cb cv n) => nformed_any S E B V cs ce cb cv n wx hx
  have hft : Nt.fmd n = true → Wi.fitN n := fun h => (Wi.back_note hi h).fit
  have hmax := Wi.enote_max n
  have ca := fun wx (h1' : OneB wx A c b) (h2' : NoteAt wx S E B V cs ce cb cv n) => (show Calls Try.prog 27 #[.slice A b.length c, .agg #[.slice S n.s.length cs, .slice E n.e.length ce, .slice B n.b.length cb, .slice V n.ws.length cv]] wx (GivesB2 (b ++ Wi.enote n) 0 wx) from by have h := dappnote_any A c b S E B V cs ce cb cv n wx h1' h2' (by omega) (by omega) (by omega) (by omega) hft (by omega); rw [hf] at h; exact h)
  have hby := Wi.enote_byte (Wi.back_note hi hf)
  have ce := fun wx (h2' : NoteAt wx S E B V cs ce cb cv n) => (show Calls Try.prog 26 #[.agg #[.slice S n.s.length cs, .slice E n.e.length ce, .slice B n.b.length cb, .slice V n.ws.length cv]] wx (GivesB (Wi.enote n) wx) from enote_any S E B V cs ce cb cv n wx (by omega) (by omega) (by omega) (by omega) (hft hf) h2')
  have cr := fun g wx (h : RdAt wx g A c b (some 0)) => rdnote_any g A c b (some 0) wx (by omega) h
  have ct := fun wx (h : OneB wx A c b) => dnote_top A c b wx (by omega) h
  obtain ⟨E0, hE⟩ : ∃ E0, Wi.enote n = E0 := ⟨_, rfl⟩
  rw [hE] at hmax hby
  simp only [hE] at ca ce
  have CE := Lib.hid ce; have HY := Lib.hid hby
  clear ce hby hE
  simp only [hf] at cf
  have CF := Lib.hid (fun wx hx => (show Calls Try.prog 25 #[.agg #[.slice S n.s.length cs, .slice E n.e.length ce, .slice B n.b.length cb, .slice V n.ws.length cv]] wx (Says (.bool true) wx) from cf wx hx))
  have CW := Lib.hid ca; have CR := Lib.hid cr; have CT := Lib.hid ct; have HV := Lib.hid hv; have HB := Lib.hid hb
  clear cf ca cr ct hft hf hi
  obtain ⟨W0, hW0⟩ : ∃ W0, w.alloc (.cells #[.slice S n.s.length cs, .slice E n.e.length ce, .slice B n.b.length cb, .slice V n.ws.length cv] 51) = W0 := ⟨_, rfl⟩
  have b00 : Below w.heap.size w W0 := by rw [← hW0]; exact below_new (Below.refl _ _) _
  have k00 : Blk W0 w.heap.size 51 #[.slice S n.s.length cs, .slice E n.e.length ce, .slice B n.b.length cb, .slice V n.ws.length cv] := by rw [← hW0]; exact Blk.new w _ _
  have HW0 := Lib.hid hW0; have B00 := Lib.hid b00; have K00 := Lib.hid k00
  clear hW0 b00 k00 hv hb
  go_enter Try.func5, Try.ntmps5
  go_wp2_with fail
  rw [HW0.out]
  refine (CA.out W0).mono ?_
  rintro e w1 ⟨rfl, b1⟩
  have kN := K00.out.later b1; have c0 := kN.cell (i := 0) rfl; have c1 := kN.cell (i := 1) rfl; have c2 := kN.cell (i := 2) rfl; have c3 := kN.cell (i := 3) rfl
  clear kN
  go_wp2_with fail
  refine (CF.out w1 (HV.out.later (below_on B00.out b1))).mono ?_
  rintro e w2 ⟨rfl, b2⟩
  have q2 := below_on b1 b2
  have bb2 := below_on B00.out q2
  have B1 := Lib.hid b1
  clear c0 c1 c2 c3 b1
  have kN := K00.out.later q2; have c0 := kN.cell (i := 0) rfl; have c1 := kN.cell (i := 1) rfl; have c2 := kN.cell (i := 2) rfl; have c3 := kN.cell (i := 3) rfl
  clear kN
  go_wp2_with fail
  refine (CE.out w2 (HV.out.later bb2)).mono ?_
  rintro e w3 hg
  obtain ⟨D0, d0, rfl, hD, b3⟩ := hg.one HY.out
  clear hg c0 c1 c2 c3
  have q3 := below_on q2 b3
  have bb3 := below_on B00.out q3
  have kN := K00.out.later q3; have c0 := kN.cell (i := 0) rfl; have c1 := kN.cell (i := 1) rfl; have c2 := kN.cell (i := 2) rfl; have c3 := kN.cell (i := 3) rfl
  clear kN
  go_wp2_with fail
  refine (CW.out w3 (HB.out.later bb3) (HV.out.later bb3)).mono ?_
  rintro e w4 ⟨y, rfl, ho, b4⟩
  replace ho : w4.ownsRow w3.heap.size 5 1 y (b ++ E0).length (bCells (b ++ E0)) := ho
  obtain ⟨Y, cy, rfl, hY⟩ := OneB.of_own ho (fun z hz => (List.mem_append.1 hz).elim (HB.out.byte z) (HY.out z))
  obtain ⟨xs, hxs⟩ : ∃ xs, b ++ E0 = xs := ⟨_, rfl⟩
  rw [hxs] at ho hY ⊢
  have hD4 := hD.later b4
  have bb4 := below_on bb3 b4
  clear c0 c1 c2 c3
  have b5 := below_new (Below.refl w4.heap.size w4) (.cells #[.slice A b.length c, .int .i64 0, .bool false] 32)
  have bb5 := below_on bb4 b5
  have hR : RdAt (w4.alloc (.cells #[.slice A b.length c, .int .i64 0, .bool false] 32)) w4.heap.size A c b (some 0) := ⟨0, false, Blk.new w4 _ _, HB.out.later bb5, Nat.zero_le _, rfl⟩
  obtain ⟨W, hW⟩ : ∃ W, w4.alloc (.cells #[.slice A b.length c, .int .i64 0, .bool false] 32) = W := ⟨_, rfl⟩
  obtain ⟨g, hg⟩ : ∃ g, w4.heap.size = g := ⟨_, rfl⟩
  have hgw : w.heap.size ≤ g := by have := bb4.size; omega
  have hWg : g < W.heap.size := by rw [← hW, ← hg]; simp
  have hY5 := hY.later b5
  have hD5 := hD4.later b5
  rw [hW] at bb5 hR hY5 hD5
  rw [hg] at hR
  have HW := Lib.hid hW; have HG := Lib.hid hg; have HR := Lib.hid hR; have HXS := Lib.hid hxs
  clear hW hg hR hxs ho hY hD4 b5
  go_wp2_with fail
  rw [HW.out, HG.out]
  refine (CR.out g W HR.out).mono ?_
  rintro e w6 ⟨S1, E1, B1, V1, cs1, ce1, cb1, cv1, want, rfl, hU, hl1, hl2, hl3, hl4, hR6, hO6, hgot⟩
  have bb6 : Below w.heap.size w w6 := bb5.trans (hO6.to_below (by have := bb5.size; omega) hgw)
  obtain ⟨a9, bd9, hB9, -, -, -⟩ := HR.out.blk
  have hY6 := hY5.only hO6 hB9 rd_noU8s
  have hD6 := hD5.only hO6 hB9 rd_noU8s
  unfold noteCells
  have kz := Blk.new w6 51 #[.slice none 0 0, .slice none 0 0, .slice none 0 0, .slice none 0 0]
  have kz3 : Blk ((w6.alloc (.cells #[.slice none 0 0, .slice none 0 0, .slice none 0 0, .slice none 0 0] 51)).setRow w6.heap.size #[.slice S1 want.s.length cs1, .slice E1 want.e.length ce1, .slice B1 want.b.length cb1, .slice V1 want.ws.length cv1]) w6.heap.size 51 #[.slice S1 want.s.length cs1, .slice E1 want.e.length ce1, .slice B1 want.b.length cb1, .slice V1 want.ws.length cv1] := kz.row _
  have bz3 : Below w6.heap.size w6 ((w6.alloc (.cells #[.slice none 0 0, .slice none 0 0, .slice none 0 0, .slice none 0 0] 51)).setRow w6.heap.size #[.slice S1 want.s.length cs1, .slice E1 want.e.length ce1, .slice B1 want.b.length cb1, .slice V1 want.ws.length cv1]) := (Only.row _ w6.heap.size _).to_below (by simp) (Nat.le_refl _) |> fun h => (below_new (Below.refl _ _) _).trans h
  obtain ⟨W6, hW6⟩ : ∃ W6, (w6.alloc (.cells #[.slice none 0 0, .slice none 0 0, .slice none 0 0, .slice none 0 0] 51)).setRow w6.heap.size #[.slice S1 want.s.length cs1, .slice E1 want.e.length ce1, .slice B1 want.b.length cb1, .slice V1 want.ws.length cv1] = W6 := ⟨_, rfl⟩
  obtain ⟨g6, hg6⟩ : ∃ g6, w6.heap.size = g6 := ⟨_, rfl⟩
  rw [hW6] at kz3 bz3
  have kzz := kz3
  rw [hg6] at kzz
  have g6w : w.heap.size ≤ g6 := by have := bb6.size; omega
  have g6W : g6 < W6.heap.size := kzz.lt
  have bb6' := below_on bb6 bz3
  have HU := Lib.hid (hU.later bz3); have HR6 := Lib.hid (hR6.later bz3); have HGOT := Lib.hid hgot; have HY6 := Lib.hid (hY6.later bz3); have HD6 := Lib.hid (hD6.later bz3); have KZ := Lib.hid kz; have HW6 := Lib.hid hW6; have HG6 := Lib.hid hg6; have KZZ := Lib.hid kzz
  clear hU hR6 hgot HR hB9 hY6 hD6 kz kz3 bz3 hW6 hg6 kzz hY5 hD5 hO6
  go_upto_region 10 with (refine wpList_store_row rfl 51 _ _ rfl w6.heap.size #[.slice S1 want.s.length cs1, .slice E1 want.e.length ce1, .slice B1 want.b.length cb1, .slice V1 want.ws.length cv1] rfl rfl 51 #[.slice none 0 0, .slice none 0 0, .slice none 0 0, .slice none 0 0] KZ.out infoNt4 rfl (by simp [Value.oneCell']) ?_)
  rw [HW6.out, HG6.out]
  go_wp2_with fail
  refine (CT.out W6 (HB.out.later bb6')).mono ?_
  rintro e w7 ⟨S2, E2, B2, V2, cs2, ce2, cb2, cv2, u2, k, er, rfl, hsm, hown, b7, hp⟩
  have bb7 := below_on bb6' b7
  unfold noteCells
  have kz := Blk.new w7 51 #[.slice none 0 0, .slice none 0 0, .slice none 0 0, .slice none 0 0]
  have kz3 : Blk ((w7.alloc (.cells #[.slice none 0 0, .slice none 0 0, .slice none 0 0, .slice none 0 0] 51)).setRow w7.heap.size #[.slice S2 u2.s.length cs2, .slice E2 u2.e.length ce2, .slice B2 u2.b.length cb2, .slice V2 u2.ws.length cv2]) w7.heap.size 51 #[.slice S2 u2.s.length cs2, .slice E2 u2.e.length ce2, .slice B2 u2.b.length cb2, .slice V2 u2.ws.length cv2] := kz.row _
  have bz3 : Below w7.heap.size w7 ((w7.alloc (.cells #[.slice none 0 0, .slice none 0 0, .slice none 0 0, .slice none 0 0] 51)).setRow w7.heap.size #[.slice S2 u2.s.length cs2, .slice E2 u2.e.length ce2, .slice B2 u2.b.length cb2, .slice V2 u2.ws.length cv2]) := (Only.row _ w7.heap.size _).to_below (by simp) (Nat.le_refl _) |> fun h => (below_new (Below.refl _ _) _).trans h
  obtain ⟨W7, hW7⟩ : ∃ W7, (w7.alloc (.cells #[.slice none 0 0, .slice none 0 0, .slice none 0 0, .slice none 0 0] 51)).setRow w7.heap.size #[.slice S2 u2.s.length cs2, .slice E2 u2.e.length ce2, .slice B2 u2.b.length cb2, .slice V2 u2.ws.length cv2] = W7 := ⟨_, rfl⟩
  obtain ⟨g7, hg7⟩ : ∃ g7, w7.heap.size = g7 := ⟨_, rfl⟩
  rw [hW7] at kz3 bz3
  have kzz := kz3
  rw [hg7] at kzz
  have g67 : g6 < g7 := by have := b7.size; omega
  have q7 := below_on b7 bz3
  have bb7' := below_on bb7 bz3
  have hR7 := HR6.out.later q7
  have HOWN := Lib.hid (hown.later bz3); have HP := Lib.hid hp; have KZ7 := Lib.hid kz; have HW7 := Lib.hid hW7; have HG7 := Lib.hid hg7; have KZZ7 := Lib.hid kzz; have Q7 := Lib.hid q7
  have HU7 := Lib.hid (HU.out.later q7); have HY7 := Lib.hid (HY6.out.later q7); have HD7 := Lib.hid (HD6.out.later q7); have K67 := Lib.hid (KZZ.out.later q7)
  clear kz kz3 bz3 hW7 hg7 kzz hown q7 b7 hsm
  go_upto_region 11 with (refine wpList_store_row rfl 51 _ _ rfl w7.heap.size #[.slice S2 u2.s.length cs2, .slice E2 u2.e.length ce2, .slice B2 u2.b.length cb2, .slice V2 u2.ws.length cv2] rfl rfl 51 #[.slice none 0 0, .slice none 0 0, .slice none 0 0, .slice none 0 0] KZ7.out infoNt4 rfl (by simp [Value.oneCell']) ?_)
  rw [HW7.out, HG7.out]
  clear hp
  have hp := HP.out
  have pm : Wi.such Nt.fmd (Wi.pnotr b 0) = Wi.pnote b 0 := Wi.pnote_m b 0
  rw [pm] at hp
  clear pm
  cases hpv : Wi.pnote b 0 with
  | some r =>
    obtain ⟨x0, a⟩ := r
    obtain ⟨rfl, rfl, rfl⟩ : u2 = x0 ∧ k = (a : Int) ∧ er = 0 := by
      rcases hp with ⟨a', h1, h2, h3⟩ | ⟨h1, -⟩
      · rw [hpv] at h1
        cases h1
        exact ⟨rfl, h2, h3⟩
      · rw [hpv] at h1
        cases h1
    have hn : Wi.nxt (Wi.pnote b) (some 0) = some a := by
      show (Wi.pnote b 0).map _ = _
      rw [hpv]
      rfl
    obtain rfl : want = u2 := HGOT.out u2 a hpv
    rw [hn] at hR7
    have HR7 := Lib.hid hR7
    obtain ⟨a0, bd, hB7, -, ha0, hs⟩ := hR7
    obtain rfl : bd = false := by
      cases bd with
      | false => rfl
      | true => simp at hs
    have r2 := hB7.cell (i := 2) rfl
    have Q1 := Lib.hid (wbehind_any Y A D0 cy c d0 xs b E0 true _ W7 (by omega) HY7.out (HB.out.later bb7') HD7.out HXS.out.symm rfl)
    clear hp hpv hn hs hB7 HP HGOT HY7 HD7 HY6 HD6 HR6 HU
    go_wp2_with fail
    refine Q1.out.mono ?_
    rintro e w8 ⟨rfl, b8⟩
    clear r2
    have Q2 := Lib.hid (wread_any g A c b (some a) _ _ w8 (HR7.out.later b8) (.inl ⟨a, rfl, rfl, rfl⟩))
    go_wp2_with fail
    refine Q2.out.mono ?_
    rintro e w9 ⟨rfl, b9⟩
    have b89 := below_on b8 b9
    have k6 := K67.out.later b89; have c0 := k6.cell (i := 0) rfl; have c1 := k6.cell (i := 1) rfl; have c2 := k6.cell (i := 2) rfl; have c3 := k6.cell (i := 3) rfl
    have k7 := KZZ7.out.later b89; have d0 := k7.cell (i := 0) rfl; have d1 := k7.cell (i := 1) rfl; have d2 := k7.cell (i := 2) rfl; have d3 := k7.cell (i := 3) rfl
    have q3 := nsame_any S2 E2 B2 V2 S1 E1 B1 V1 cs2 ce2 cb2 cv2 cs1 ce1 cb1 cv1 want want w9 (HOWN.out.later b89).at (HU7.out.later b89)
    rw [(sameN_iff _ _).2 rfl] at q3
    have Q3 := Lib.hid (show Calls Try.prog 30 #[.agg #[.slice S2 want.s.length cs2, .slice E2 want.e.length ce2, .slice B2 want.b.length cb2, .slice V2 want.ws.length cv2], .agg #[.slice S1 want.s.length cs1, .slice E1 want.e.length ce1, .slice B1 want.b.length cb1, .slice V1 want.ws.length cv1]] w9 (Says (.bool true) w9) from q3)
    clear k6 k7 q3
    go_wp2_with fail
    refine Q3.out.mono ?_
    rintro e w10 ⟨rfl, b10⟩
    go_wp2
    go_ret
    exact ⟨rfl, below_on (below_on bb7' b89) b10⟩
  | none =>
    obtain ⟨rfl, rfl, rfl⟩ : u2 = zeroN ∧ k = 0 ∧ er = 4 := by
      rcases hp with ⟨a', h1, -⟩ | ⟨-, h2, h3, h4⟩
      · rw [hpv] at h1
        cases h1
      · exact ⟨h2, h3, h4⟩
    have hn : Wi.nxt (Wi.pnote b) (some 0) = none := by
      show (Wi.pnote b 0).map _ = _
      rw [hpv]
      rfl
    rw [hn] at hR7
    have HR7 := Lib.hid hR7
    obtain ⟨a0, bd, hB7, -, ha0, hs⟩ := hR7
    obtain rfl : bd = true := by
      cases bd with
      | true => rfl
      | false => simp at hs
    have hB7' := hB7
    have r2 := hB7.cell (i := 2) rfl
    have hO8 := Only.row W7 g6 #[.slice none 0 0, .slice none 0 0, .slice none 0 0, .slice none 0 0]
    have hgne : g ≠ g6 := by
      intro e
      have := HR7.out.lt
      have h1 := K67.out
      subst e
      have h2 := hB7.symm.trans h1
      simp at h2
    have k68 := K67.out.row #[.slice none 0 0, .slice none 0 0, .slice none 0 0, .slice none 0 0]
    obtain ⟨W8, hW8⟩ : ∃ W8, W7.setRow g6 #[.slice none 0 0, .slice none 0 0, .slice none 0 0, .slice none 0 0] = W8 := ⟨_, rfl⟩
    rw [hW8] at hO8 k68
    have hR8 : RdAt W8 g A c b none := ⟨a0, true, hO8.blk hB7 hgne, (HB.out.later bb7').only hO8 K67.out (by intro x hx; simp at hx; rcases hx with rfl | rfl | rfl | rfl <;> rfl), ha0, rfl⟩
    have bb8 : Below w.heap.size w W8 := bb7'.trans (hO8.to_below (by have := bb7'.size; omega) g6w)
    have HOWN8 := Lib.hid (HOWN.out.only hO8 g6W)
    have k78 := hO8.blk KZZ7.out (show g7 ≠ g6 by omega)
    have HY8 := HY7.out.only hO8 K67.out (by intro x hx; simp at hx; rcases hx with rfl | rfl | rfl | rfl <;> rfl)
    have HD8 := HD7.out.only hO8 K67.out (by intro x hx; simp at hx; rcases hx with rfl | rfl | rfl | rfl <;> rfl)
    have Q1 := Lib.hid (wbehind_any Y A D0 cy c d0 xs b E0 true _ W8 (by omega) HY8 (HB.out.later bb8) HD8 HXS.out.symm rfl)
    have HR8 := Lib.hid hR8; have K68 := Lib.hid k68; have K78 := Lib.hid k78; have HW8 := Lib.hid hW8
    clear hp hpv hn hs hB7 hB7' HP HGOT HY7 HD7 HY6 HD6 HR6 HU HY8 HD8 hR8 k68 k78 hO8 hW8
    go_wp2_with (refine wpList_store_row rfl 51 _ _ rfl g6 #[.slice none 0 0, .slice none 0 0, .slice none 0 0, .slice none 0 0] rfl rfl 51 #[.slice S1 want.s.length cs1, .slice E1 want.e.length ce1, .slice B1 want.b.length cb1, .slice V1 want.ws.length cv1] K67.out infoNt4 rfl (by simp [Value.oneCell']) ?_)
    rw [HW8.out]
    refine Q1.out.mono ?_
    rintro e w8 ⟨rfl, b8⟩
    clear r2
    have Q2 := Lib.hid (wread_any g A c b none _ _ w8 (HR8.out.later b8) (.inr ⟨rfl, rfl, rfl⟩))
    go_wp2_with fail
    refine Q2.out.mono ?_
    rintro e w9 ⟨rfl, b9⟩
    have b89 := below_on b8 b9
    have k6 := K68.out.later b89; have c0 := k6.cell (i := 0) rfl; have c1 := k6.cell (i := 1) rfl; have c2 := k6.cell (i := 2) rfl; have c3 := k6.cell (i := 3) rfl
    have k7 := K78.out.later b89; have d0 := k7.cell (i := 0) rfl; have d1 := k7.cell (i := 1) rfl; have d2 := k7.cell (i := 2) rfl; have d3 := k7.cell (i := 3) rfl
    have q3 := nsame_any S2 E2 B2 V2 none none none none cs2 ce2 cb2 cv2 0 0 0 0 zeroN zeroN w9 (HOWN8.out.later b89).at (NoteOwn.zero w9 0).at
    rw [(sameN_iff _ _).2 rfl] at q3
    have Q3 := Lib.hid (show Calls Try.prog 30 #[.agg #[.slice S2 zeroN.s.length cs2, .slice E2 zeroN.e.length ce2, .slice B2 zeroN.b.length cb2, .slice V2 zeroN.ws.length cv2], .agg #[.slice none 0 0, .slice none 0 0, .slice none 0 0, .slice none 0 0]] w9 (Says (.bool true) w9) from q3)
    clear k6 k7 q3
    unfold zeroN at *
    go_wp2_with fail
    refine Q3.out.mono ?_
    rintro e w10 ⟨rfl, b10⟩
    go_wp2
    go_ret
    exact ⟨rfl, below_on (below_on bb8 b89) b10⟩

set_option maxRecDepth 100000 in
set_option maxHeartbeats 12800000 in
theorem lawWNote_false (S E B V A : Option Addr) (cs ce cb cv c : Nat) (n : Note) (b : List Int) (w : World) (hv : NoteAt w S E B V cs ce cb cv n) (hb : OneB w A c b) (hi : Wi.IntsN n) (h1 : n.s.length ≤ 1048576) (h2 : n.e.length ≤ 1048576) (h3 : n.b.length ≤ 1048576) (h4 : n.ws.length ≤ 1048576) (hbl : b.length ≤ 1048576) (hf : Nt.fmd n = false) :
    Calls Try.prog 5 #[.agg #[.slice S n.s.length cs, .slice E n.e.length ce, .slice B n.b.length cb, .slice V n.ws.length cv], .slice A b.length c] w (Says (.bool true) w) := by
  have CA := Lib.hid (fun wx => walive_any wx)
  have cf := fun wx (hx : NoteAt wx S E B V cs ce cb cv n) => nformed_any S E B V cs ce cb cv n wx hx
  have hft : Nt.fmd n = true → Wi.fitN n := fun h => (Wi.back_note hi h).fit
  have hmax := Wi.enote_max n
  have ca := fun wx (h1' : OneB wx A c b) (h2' : NoteAt wx S E B V cs ce cb cv n) => (show Calls Try.prog 27 #[.slice A b.length c, .agg #[.slice S n.s.length cs, .slice E n.e.length ce, .slice B n.b.length cb, .slice V n.ws.length cv]] wx (GivesB2 [] 1 wx) from by have h := dappnote_any A c b S E B V cs ce cb cv n wx h1' h2' (by omega) (by omega) (by omega) (by omega) hft (by omega); rw [hf] at h; exact h)
  have cr := fun g wx (h : RdAt wx g A c b (some 0)) => rdnote_any g A c b (some 0) wx (by omega) h
  have ct := fun wx (h : OneB wx A c b) => dnote_top A c b wx (by omega) h
  simp only [hf] at cf
  have CF := Lib.hid (fun wx hx => (show Calls Try.prog 25 #[.agg #[.slice S n.s.length cs, .slice E n.e.length ce, .slice B n.b.length cb, .slice V n.ws.length cv]] wx (Says (.bool false) wx) from cf wx hx))
  have CW := Lib.hid ca; have CR := Lib.hid cr; have CT := Lib.hid ct; have HV := Lib.hid hv; have HB := Lib.hid hb
  clear cf ca cr ct hft hf hi
  obtain ⟨W0, hW0⟩ : ∃ W0, w.alloc (.cells #[.slice S n.s.length cs, .slice E n.e.length ce, .slice B n.b.length cb, .slice V n.ws.length cv] 51) = W0 := ⟨_, rfl⟩
  have b00 : Below w.heap.size w W0 := by rw [← hW0]; exact below_new (Below.refl _ _) _
  have k00 : Blk W0 w.heap.size 51 #[.slice S n.s.length cs, .slice E n.e.length ce, .slice B n.b.length cb, .slice V n.ws.length cv] := by rw [← hW0]; exact Blk.new w _ _
  have HW0 := Lib.hid hW0; have B00 := Lib.hid b00; have K00 := Lib.hid k00
  clear hW0 b00 k00 hv hb
  go_enter Try.func5, Try.ntmps5
  go_wp2_with fail
  rw [HW0.out]
  refine (CA.out W0).mono ?_
  rintro e w1 ⟨rfl, b1⟩
  have kN := K00.out.later b1; have c0 := kN.cell (i := 0) rfl; have c1 := kN.cell (i := 1) rfl; have c2 := kN.cell (i := 2) rfl; have c3 := kN.cell (i := 3) rfl
  clear kN
  go_wp2_with fail
  refine (CF.out w1 (HV.out.later (below_on B00.out b1))).mono ?_
  rintro e w2 ⟨rfl, b2⟩
  have q2 := below_on b1 b2
  have bb2 := below_on B00.out q2
  have B1 := Lib.hid b1
  clear c0 c1 c2 c3 b1
  have kN := K00.out.later q2; have c0 := kN.cell (i := 0) rfl; have c1 := kN.cell (i := 1) rfl; have c2 := kN.cell (i := 2) rfl; have c3 := kN.cell (i := 3) rfl
  clear kN
  have hD4 : OneB w2 none 0 [] := OneB.nil _
  go_wp2_with fail
  refine (CW.out w2 (HB.out.later bb2) (HV.out.later bb2)).mono ?_
  rintro e w4 ⟨y, rfl, ho, b4⟩
  replace ho : w4.ownsRow w2.heap.size 5 1 y ([] : List Int).length (bCells []) := ho
  obtain ⟨Y, cy, rfl, hY⟩ := OneB.of_own ho (fun z hz => by cases hz)
  replace hD4 := hD4.later b4
  have bb4 := below_on bb2 b4
  obtain ⟨xs, hxs⟩ : ∃ xs : List Int, [] = xs := ⟨_, rfl⟩
  rw [hxs] at ho hY ⊢
  clear c0 c1 c2 c3
  have b5 := below_new (Below.refl w4.heap.size w4) (.cells #[.slice A b.length c, .int .i64 0, .bool false] 32)
  have bb5 := below_on bb4 b5
  have hR : RdAt (w4.alloc (.cells #[.slice A b.length c, .int .i64 0, .bool false] 32)) w4.heap.size A c b (some 0) := ⟨0, false, Blk.new w4 _ _, HB.out.later bb5, Nat.zero_le _, rfl⟩
  obtain ⟨W, hW⟩ : ∃ W, w4.alloc (.cells #[.slice A b.length c, .int .i64 0, .bool false] 32) = W := ⟨_, rfl⟩
  obtain ⟨g, hg⟩ : ∃ g, w4.heap.size = g := ⟨_, rfl⟩
  have hgw : w.heap.size ≤ g := by have := bb4.size; omega
  have hWg : g < W.heap.size := by rw [← hW, ← hg]; simp
  have hY5 := hY.later b5
  have hD5 := hD4.later b5
  rw [hW] at bb5 hR hY5 hD5
  rw [hg] at hR
  have HW := Lib.hid hW; have HG := Lib.hid hg; have HR := Lib.hid hR; have HXS := Lib.hid hxs
  clear hW hg hR hxs ho hY hD4 b5
  go_wp2_with fail
  rw [HW.out, HG.out]
  refine (CR.out g W HR.out).mono ?_
  rintro e w6 ⟨S1, E1, B1, V1, cs1, ce1, cb1, cv1, want, rfl, hU, hl1, hl2, hl3, hl4, hR6, hO6, hgot⟩
  have bb6 : Below w.heap.size w w6 := bb5.trans (hO6.to_below (by have := bb5.size; omega) hgw)
  obtain ⟨a9, bd9, hB9, -, -, -⟩ := HR.out.blk
  have hY6 := hY5.only hO6 hB9 rd_noU8s
  have hD6 := hD5.only hO6 hB9 rd_noU8s
  unfold noteCells
  have kz := Blk.new w6 51 #[.slice none 0 0, .slice none 0 0, .slice none 0 0, .slice none 0 0]
  have kz3 : Blk ((w6.alloc (.cells #[.slice none 0 0, .slice none 0 0, .slice none 0 0, .slice none 0 0] 51)).setRow w6.heap.size #[.slice S1 want.s.length cs1, .slice E1 want.e.length ce1, .slice B1 want.b.length cb1, .slice V1 want.ws.length cv1]) w6.heap.size 51 #[.slice S1 want.s.length cs1, .slice E1 want.e.length ce1, .slice B1 want.b.length cb1, .slice V1 want.ws.length cv1] := kz.row _
  have bz3 : Below w6.heap.size w6 ((w6.alloc (.cells #[.slice none 0 0, .slice none 0 0, .slice none 0 0, .slice none 0 0] 51)).setRow w6.heap.size #[.slice S1 want.s.length cs1, .slice E1 want.e.length ce1, .slice B1 want.b.length cb1, .slice V1 want.ws.length cv1]) := (Only.row _ w6.heap.size _).to_below (by simp) (Nat.le_refl _) |> fun h => (below_new (Below.refl _ _) _).trans h
  obtain ⟨W6, hW6⟩ : ∃ W6, (w6.alloc (.cells #[.slice none 0 0, .slice none 0 0, .slice none 0 0, .slice none 0 0] 51)).setRow w6.heap.size #[.slice S1 want.s.length cs1, .slice E1 want.e.length ce1, .slice B1 want.b.length cb1, .slice V1 want.ws.length cv1] = W6 := ⟨_, rfl⟩
  obtain ⟨g6, hg6⟩ : ∃ g6, w6.heap.size = g6 := ⟨_, rfl⟩
  rw [hW6] at kz3 bz3
  have kzz := kz3
  rw [hg6] at kzz
  have g6w : w.heap.size ≤ g6 := by have := bb6.size; omega
  have g6W : g6 < W6.heap.size := kzz.lt
  have bb6' := below_on bb6 bz3
  have HU := Lib.hid (hU.later bz3); have HR6 := Lib.hid (hR6.later bz3); have HGOT := Lib.hid hgot; have HY6 := Lib.hid (hY6.later bz3); have HD6 := Lib.hid (hD6.later bz3); have KZ := Lib.hid kz; have HW6 := Lib.hid hW6; have HG6 := Lib.hid hg6; have KZZ := Lib.hid kzz
  clear hU hR6 hgot HR hB9 hY6 hD6 kz kz3 bz3 hW6 hg6 kzz hY5 hD5 hO6
  go_upto_region 10 with (refine wpList_store_row rfl 51 _ _ rfl w6.heap.size #[.slice S1 want.s.length cs1, .slice E1 want.e.length ce1, .slice B1 want.b.length cb1, .slice V1 want.ws.length cv1] rfl rfl 51 #[.slice none 0 0, .slice none 0 0, .slice none 0 0, .slice none 0 0] KZ.out infoNt4 rfl (by simp [Value.oneCell']) ?_)
  rw [HW6.out, HG6.out]
  go_wp2_with fail
  refine (CT.out W6 (HB.out.later bb6')).mono ?_
  rintro e w7 ⟨S2, E2, B2, V2, cs2, ce2, cb2, cv2, u2, k, er, rfl, hsm, hown, b7, hp⟩
  have bb7 := below_on bb6' b7
  unfold noteCells
  have kz := Blk.new w7 51 #[.slice none 0 0, .slice none 0 0, .slice none 0 0, .slice none 0 0]
  have kz3 : Blk ((w7.alloc (.cells #[.slice none 0 0, .slice none 0 0, .slice none 0 0, .slice none 0 0] 51)).setRow w7.heap.size #[.slice S2 u2.s.length cs2, .slice E2 u2.e.length ce2, .slice B2 u2.b.length cb2, .slice V2 u2.ws.length cv2]) w7.heap.size 51 #[.slice S2 u2.s.length cs2, .slice E2 u2.e.length ce2, .slice B2 u2.b.length cb2, .slice V2 u2.ws.length cv2] := kz.row _
  have bz3 : Below w7.heap.size w7 ((w7.alloc (.cells #[.slice none 0 0, .slice none 0 0, .slice none 0 0, .slice none 0 0] 51)).setRow w7.heap.size #[.slice S2 u2.s.length cs2, .slice E2 u2.e.length ce2, .slice B2 u2.b.length cb2, .slice V2 u2.ws.length cv2]) := (Only.row _ w7.heap.size _).to_below (by simp) (Nat.le_refl _) |> fun h => (below_new (Below.refl _ _) _).trans h
  obtain ⟨W7, hW7⟩ : ∃ W7, (w7.alloc (.cells #[.slice none 0 0, .slice none 0 0, .slice none 0 0, .slice none 0 0] 51)).setRow w7.heap.size #[.slice S2 u2.s.length cs2, .slice E2 u2.e.length ce2, .slice B2 u2.b.length cb2, .slice V2 u2.ws.length cv2] = W7 := ⟨_, rfl⟩
  obtain ⟨g7, hg7⟩ : ∃ g7, w7.heap.size = g7 := ⟨_, rfl⟩
  rw [hW7] at kz3 bz3
  have kzz := kz3
  rw [hg7] at kzz
  have g67 : g6 < g7 := by have := b7.size; omega
  have q7 := below_on b7 bz3
  have bb7' := below_on bb7 bz3
  have hR7 := HR6.out.later q7
  have HOWN := Lib.hid (hown.later bz3); have HP := Lib.hid hp; have KZ7 := Lib.hid kz; have HW7 := Lib.hid hW7; have HG7 := Lib.hid hg7; have KZZ7 := Lib.hid kzz; have Q7 := Lib.hid q7
  have HU7 := Lib.hid (HU.out.later q7); have HY7 := Lib.hid (HY6.out.later q7); have HD7 := Lib.hid (HD6.out.later q7); have K67 := Lib.hid (KZZ.out.later q7)
  clear kz kz3 bz3 hW7 hg7 kzz hown q7 b7 hsm
  go_upto_region 11 with (refine wpList_store_row rfl 51 _ _ rfl w7.heap.size #[.slice S2 u2.s.length cs2, .slice E2 u2.e.length ce2, .slice B2 u2.b.length cb2, .slice V2 u2.ws.length cv2] rfl rfl 51 #[.slice none 0 0, .slice none 0 0, .slice none 0 0, .slice none 0 0] KZ7.out infoNt4 rfl (by simp [Value.oneCell']) ?_)
  rw [HW7.out, HG7.out]
  clear hp
  have hp := HP.out
  have pm : Wi.such Nt.fmd (Wi.pnotr b 0) = Wi.pnote b 0 := Wi.pnote_m b 0
  rw [pm] at hp
  clear pm
  cases hpv : Wi.pnote b 0 with
  | some r =>
    obtain ⟨x0, a⟩ := r
    obtain ⟨rfl, rfl, rfl⟩ : u2 = x0 ∧ k = (a : Int) ∧ er = 0 := by
      rcases hp with ⟨a', h1, h2, h3⟩ | ⟨h1, -⟩
      · rw [hpv] at h1
        cases h1
        exact ⟨rfl, h2, h3⟩
      · rw [hpv] at h1
        cases h1
    have hn : Wi.nxt (Wi.pnote b) (some 0) = some a := by
      show (Wi.pnote b 0).map _ = _
      rw [hpv]
      rfl
    obtain rfl : want = u2 := HGOT.out u2 a hpv
    rw [hn] at hR7
    have HR7 := Lib.hid hR7
    obtain ⟨a0, bd, hB7, -, ha0, hs⟩ := hR7
    obtain rfl : bd = false := by
      cases bd with
      | false => rfl
      | true => simp at hs
    have r2 := hB7.cell (i := 2) rfl
    have Q1 := Lib.hid (wbehind_any Y A none cy c 0 xs b ([] : List Int) false _ W7 (by simp; omega) HY7.out (HB.out.later bb7') HD7.out HXS.out.symm rfl)
    clear hp hpv hn hs hB7 HP HGOT HY7 HD7 HY6 HD6 HR6 HU
    go_wp2_with fail
    refine Q1.out.mono ?_
    rintro e w8 ⟨rfl, b8⟩
    clear r2
    have Q2 := Lib.hid (wread_any g A c b (some a) _ _ w8 (HR7.out.later b8) (.inl ⟨a, rfl, rfl, rfl⟩))
    go_wp2_with fail
    refine Q2.out.mono ?_
    rintro e w9 ⟨rfl, b9⟩
    have b89 := below_on b8 b9
    have k6 := K67.out.later b89; have c0 := k6.cell (i := 0) rfl; have c1 := k6.cell (i := 1) rfl; have c2 := k6.cell (i := 2) rfl; have c3 := k6.cell (i := 3) rfl
    have k7 := KZZ7.out.later b89; have d0 := k7.cell (i := 0) rfl; have d1 := k7.cell (i := 1) rfl; have d2 := k7.cell (i := 2) rfl; have d3 := k7.cell (i := 3) rfl
    have q3 := nsame_any S2 E2 B2 V2 S1 E1 B1 V1 cs2 ce2 cb2 cv2 cs1 ce1 cb1 cv1 want want w9 (HOWN.out.later b89).at (HU7.out.later b89)
    rw [(sameN_iff _ _).2 rfl] at q3
    have Q3 := Lib.hid (show Calls Try.prog 30 #[.agg #[.slice S2 want.s.length cs2, .slice E2 want.e.length ce2, .slice B2 want.b.length cb2, .slice V2 want.ws.length cv2], .agg #[.slice S1 want.s.length cs1, .slice E1 want.e.length ce1, .slice B1 want.b.length cb1, .slice V1 want.ws.length cv1]] w9 (Says (.bool true) w9) from q3)
    clear k6 k7 q3
    go_wp2_with fail
    refine Q3.out.mono ?_
    rintro e w10 ⟨rfl, b10⟩
    go_wp2
    go_ret
    exact ⟨rfl, below_on (below_on bb7' b89) b10⟩
  | none =>
    obtain ⟨rfl, rfl, rfl⟩ : u2 = zeroN ∧ k = 0 ∧ er = 4 := by
      rcases hp with ⟨a', h1, -⟩ | ⟨-, h2, h3, h4⟩
      · rw [hpv] at h1
        cases h1
      · exact ⟨h2, h3, h4⟩
    have hn : Wi.nxt (Wi.pnote b) (some 0) = none := by
      show (Wi.pnote b 0).map _ = _
      rw [hpv]
      rfl
    rw [hn] at hR7
    have HR7 := Lib.hid hR7
    obtain ⟨a0, bd, hB7, -, ha0, hs⟩ := hR7
    obtain rfl : bd = true := by
      cases bd with
      | true => rfl
      | false => simp at hs
    have hB7' := hB7
    have r2 := hB7.cell (i := 2) rfl
    have hO8 := Only.row W7 g6 #[.slice none 0 0, .slice none 0 0, .slice none 0 0, .slice none 0 0]
    have hgne : g ≠ g6 := by
      intro e
      have := HR7.out.lt
      have h1 := K67.out
      subst e
      have h2 := hB7.symm.trans h1
      simp at h2
    have k68 := K67.out.row #[.slice none 0 0, .slice none 0 0, .slice none 0 0, .slice none 0 0]
    obtain ⟨W8, hW8⟩ : ∃ W8, W7.setRow g6 #[.slice none 0 0, .slice none 0 0, .slice none 0 0, .slice none 0 0] = W8 := ⟨_, rfl⟩
    rw [hW8] at hO8 k68
    have hR8 : RdAt W8 g A c b none := ⟨a0, true, hO8.blk hB7 hgne, (HB.out.later bb7').only hO8 K67.out (by intro x hx; simp at hx; rcases hx with rfl | rfl | rfl | rfl <;> rfl), ha0, rfl⟩
    have bb8 : Below w.heap.size w W8 := bb7'.trans (hO8.to_below (by have := bb7'.size; omega) g6w)
    have HOWN8 := Lib.hid (HOWN.out.only hO8 g6W)
    have k78 := hO8.blk KZZ7.out (show g7 ≠ g6 by omega)
    have HY8 := HY7.out.only hO8 K67.out (by intro x hx; simp at hx; rcases hx with rfl | rfl | rfl | rfl <;> rfl)
    have HD8 := HD7.out.only hO8 K67.out (by intro x hx; simp at hx; rcases hx with rfl | rfl | rfl | rfl <;> rfl)
    have Q1 := Lib.hid (wbehind_any Y A none cy c 0 xs b ([] : List Int) false _ W8 (by simp; omega) HY8 (HB.out.later bb8) HD8 HXS.out.symm rfl)
    have HR8 := Lib.hid hR8; have K68 := Lib.hid k68; have K78 := Lib.hid k78; have HW8 := Lib.hid hW8
    clear hp hpv hn hs hB7 hB7' HP HGOT HY7 HD7 HY6 HD6 HR6 HU HY8 HD8 hR8 k68 k78 hO8 hW8
    go_wp2_with (refine wpList_store_row rfl 51 _ _ rfl g6 #[.slice none 0 0, .slice none 0 0, .slice none 0 0, .slice none 0 0] rfl rfl 51 #[.slice S1 want.s.length cs1, .slice E1 want.e.length ce1, .slice B1 want.b.length cb1, .slice V1 want.ws.length cv1] K67.out infoNt4 rfl (by simp [Value.oneCell']) ?_)
    rw [HW8.out]
    refine Q1.out.mono ?_
    rintro e w8 ⟨rfl, b8⟩
    clear r2
    have Q2 := Lib.hid (wread_any g A c b none _ _ w8 (HR8.out.later b8) (.inr ⟨rfl, rfl, rfl⟩))
    go_wp2_with fail
    refine Q2.out.mono ?_
    rintro e w9 ⟨rfl, b9⟩
    have b89 := below_on b8 b9
    have k6 := K68.out.later b89; have c0 := k6.cell (i := 0) rfl; have c1 := k6.cell (i := 1) rfl; have c2 := k6.cell (i := 2) rfl; have c3 := k6.cell (i := 3) rfl
    have k7 := K78.out.later b89; have d0 := k7.cell (i := 0) rfl; have d1 := k7.cell (i := 1) rfl; have d2 := k7.cell (i := 2) rfl; have d3 := k7.cell (i := 3) rfl
    have q3 := nsame_any S2 E2 B2 V2 none none none none cs2 ce2 cb2 cv2 0 0 0 0 zeroN zeroN w9 (HOWN8.out.later b89).at (NoteOwn.zero w9 0).at
    rw [(sameN_iff _ _).2 rfl] at q3
    have Q3 := Lib.hid (show Calls Try.prog 30 #[.agg #[.slice S2 zeroN.s.length cs2, .slice E2 zeroN.e.length ce2, .slice B2 zeroN.b.length cb2, .slice V2 zeroN.ws.length cv2], .agg #[.slice none 0 0, .slice none 0 0, .slice none 0 0, .slice none 0 0]] w9 (Says (.bool true) w9) from q3)
    clear k6 k7 q3
    unfold zeroN at *
    go_wp2_with fail
    refine Q3.out.mono ?_
    rintro e w10 ⟨rfl, b10⟩
    go_wp2
    go_ret
    exact ⟨rfl, below_on (below_on bb8 b89) b10⟩

theorem lawWNote_any (S E B V A : Option Addr) (cs ce cb cv c : Nat) (n : Note) (b : List Int) (w : World) (hv : NoteAt w S E B V cs ce cb cv n) (hb : OneB w A c b) (hi : Wi.IntsN n) (h1 : n.s.length ≤ 1048576) (h2 : n.e.length ≤ 1048576) (h3 : n.b.length ≤ 1048576) (h4 : n.ws.length ≤ 1048576) (hbl : b.length ≤ 1048576) :
    Calls Try.prog 5 #[.agg #[.slice S n.s.length cs, .slice E n.e.length ce, .slice B n.b.length cb, .slice V n.ws.length cv], .slice A b.length c] w (Says (.bool true) w) := by
  cases hf : Nt.fmd n with
  | true => exact lawWNote_true S E B V A cs ce cb cv c n b w hv hb hi h1 h2 h3 h4 hbl hf
  | false => exact lawWNote_false S E B V A cs ce cb cv c n b w hv hb hi h1 h2 h3 h4 hbl hf
end Go.Proofs.Ytbbmngabbbehcaa
namespace Go.Proofs.Ytbbmngabbbehcaa.wireNotes
open Go.ChangeShapes Go.WideShapes Go.ChangeAt Go.RowKit

theorem own : ownKnob Try.prog.godebug = none := by kernel_rfl
theorem laidOut : laidOutB Try.prog = true := by kernel_rfl
theorem reads : ∀ t ∈ Try.f5.params.toList, Try.prog.readableRec t = true ∧ t < Try.prog.types.size := by
  intro t ht
  rw [Try.params5] at ht
  have : t = 51 ∨ t = 23 := by simpa using ht
  rcases this with rfl | rfl <;> exact ⟨by kernel_rfl, of_decide_eq_true (by kernel_rfl)⟩

set_option maxRecDepth 100000 in
theorem lifted (os : Os) (started : os.Started) (H : Type) (enc : TypeId × Value → H) (F : Stop.Interp) :
    ReturnsInHanded {} Try.checked os 5 .any ((Rows.OpenSpec.upto Rows.wireNotesSpec).pre6 enc Try.prog Try.f5 Rows.wireNotesUptoRow.domain false) (((Rows.OpenSpec.upto Rows.wireNotesSpec).at F).post enc Try.prog Try.f5 false true false false) := by
  refine returnsInHanded_of_cond (C := Try.checked) (s := Rows.OpenSpec.upto Rows.wireNotesSpec) (k := Rows.uptoSmall) rfl own started (by kernel_rfl) Try.func5
    (OpenSpec.witness (enc := enc) (C := Try.checked) (s := Rows.OpenSpec.upto Rows.wireNotesSpec) (k := Rows.uptoSmall) rfl false ⟨#[], #[.agg #[.slice none 0 0, .slice none 0 0, .slice none 0 0, .slice none 0 0], .slice none 0 0], []⟩ 8 (by kernel_rfl) (by kernel_rfl) (by kernel_rfl)
      (x := ([.agg [.nil, .nil, .nil, .nil], .nil], [], [])) (by kernel_rfl) rfl (by kernel_rfl)) ?_
  intro W base args ds gs before hval0 hW _ hk _
  suffices hs : Calls Try.prog 5 args W (fun e W' => ∃ v, e = .returned v ∧ Rows.wireNotesSpec.post enc Try.prog Try.f5 false true false false W args v W') from hs
  replace hW : DataW.Whole enc Try.prog Try.f5.params.toList Rows.wireNotesSpec.vars false W args.toList ds gs before := hW
  have hval : ∀ (j : Nat) t v, Try.f5.params[j]? = some t → args[j]? = some v → Value.okWide Try.prog W .any base t v := hval0
  have hW' := hW
  obtain ⟨p, q, hA0, hV, rfl, hfz, hnd⟩ := hW
  have hA : DataW.TrodAll enc Try.prog W 0 (fun _ => true) true Try.f5.params.toList args.toList ds p := hA0
  rw [Try.params5] at hA hval
  obtain ⟨v0, vs0, d0, ds0, p0, q0, hargs, rfl, rfl, h0, r0⟩ := trodAll_cons hA
  obtain ⟨v1, vs1, d1, ds1, p1, q1, rfl, rfl, rfl, h1, r1⟩ := trodAll_cons r0
  obtain ⟨rfl, rfl, rfl⟩ := trodAll_nil r1
  obtain rfl : args = #[v0, v1] := by cases args; simp_all
  obtain ⟨rfl, rfl⟩ := trodVars_none hV
  have hb := bulk_all hk
  simp only [List.append_nil, bulk_cons] at hb
  obtain ⟨S0, E0, B0, V0, cs0, ce0, cb0, cv0, n0, rfl, o0, g0, z0s, z0e, z0b, z0w⟩ := open_note2 (hval 0 51 v0 rfl rfl) h0
  obtain ⟨A1, cap1, l1, rfl, o1, z1⟩ := open_bytes2 (hval 1 23 v1 rfl rfl) h1
  clear hA0 hval0
  refine (lawWNote_any S0 E0 B0 V0 A1 cs0 ce0 cb0 cv0 cap1 n0 l1 W o0 o1 g0 (by omega) (by omega) (by omega) (by omega) (by omega)).mono fun e W' ⟨he, hg⟩ => ?_
  subst he
  exact ⟨_, rfl, law_post laidOut hW' rfl rfl (by kernel_rfl) Try.underlying4 reads hg⟩

/-- The statement. -/
theorem proved : Rows.WireNotesUptoSaid :=
  OpenClaim.holds_of_cond 5 Try.f5 rfl rfl rfl rfl rfl rfl rfl ⟨rfl, rfl, rfl, rfl, rfl⟩ rfl rfl rfl rfl rfl (by kernel_rfl) Try.func5 (by kernel_rfl)
    (of_decide_eq_true (by kernel_rfl)) (by unfold Func.isWrapper; first | (rw [if_pos (by decide +kernel)]; kernel_rfl) | (rw [if_neg (by decide +kernel)]; exact ⟨rfl, rfl⟩))
    (fun os started H enc _ F => lifted os started H enc F)

end Go.Proofs.Ytbbmngabbbehcaa.wireNotes
