/-
  The laws TrustForms, TrustSinces, TrustTwice over the contracts of trust's functions.
  The law TrustMends over the contracts of trust's functions.
  For all zones, any list of stamps and any two lists of spans, the law TrustMends returns true and leaves its arguments as they were. No condition.
-/
import Derived.Test.YtcfkpjbakccgiaaG13
import Derived.Test.YtcfkpjbakccgiaaG06
import Derived.Test.YtcfkpjbakccgiaaRows
import Derived.Test.YtcfkpjbakccgiaaG26
import Derived.Test.YtcfkpjbakccgiaaG10
import Derived.Test.YtcfkpjbakccgiaaG09
import Derived.OpenShut
import Derived.WalkKit
import Derived.ProofKit
import Derived.SizedLaws
namespace Go.Proofs.Ytcfkpjbakccgiaa
open Go.RowKit

theorem Tr.take_ways (zs : List Zn) (kn : List (Int × Int)) (n : Note) : (∃ k : Int, k ≠ 0 ∧ Tr.tkR zs kn n = ([], [], k)) ∨ (Tr.tkR zs kn n = (Tr.mkTo (Tr.zof zs kn n) 256, Ve.joinL [kn, n.e], 0) ∧ Tr.fmd zs = true ∧ Ve.fmd kn = true ∧ Nt.fmd n = true ∧ Ve.cov (Ve.cnt kn) (Ve.cnt n.s) = true) := by
  by_cases h : Tr.fmd zs = true ∧ Ve.fmd kn = true ∧ Nt.fmd n = true
  · by_cases hf : Ve.cov (Ve.cnt kn) (Ve.cnt n.s) = true
    · exact .inr ⟨Tr.take_yes h.1 h.2.1 h.2.2 hf, h.1, h.2.1, h.2.2, hf⟩
    · exact .inl ⟨3, by omega, by unfold Tr.tkR; rw [if_pos h, if_neg hf]⟩
  · exact .inl ⟨1, by omega, by unfold Tr.tkR; rw [if_neg h]⟩
theorem GivesZ.same {zs : List Zn} {w w' : World} {e : Ending} (h : GivesZ zs w e w') : ∃ A c L, e = .returned (.slice A (List.length L) c) ∧ OneZ w' A c L ∧ L.map Zc.zn = zs ∧ Below w.heap.size w w' := h

set_option maxRecDepth 100000 in
set_option maxHeartbeats 12800000 in
theorem lawTForms_any (TS : TrustSpec) (A B : Option Addr) (c cb : Nat) (L : List Zc) (kn : List (Int × Int)) (o : Int) (w : World) (hz : OneZ w A c L) (hk : OneL w B cb kn) (hL : L.length * 40 ≤ 140737488355328) (hE : ∀ z ∈ L, z.l.length * 16 ≤ 140737488355328) :
    Calls Try.prog 3 #[.slice A L.length c, .slice B kn.length cb, .int .i64 o] w (Says (.bool true) w) := by
  have HZ := Lib.hid hz
  have HK := Lib.hid hk
  clear hz hk
  obtain ⟨q, hq⟩ : ∃ q, Tr.fmd (L.map Zc.zn) = q := ⟨_, rfl⟩
  have HQ := Lib.hid hq
  clear hq
  go_enter Try.func3, Try.ntmps3
  have n := talive_any TS w
  have NN := Lib.hid n
  clear n
  go_wp2_with fail
  refine NN.out.mono ?_
  clear NN
  rintro e xa ⟨rfl, b⟩
  replace HZ := Lib.hid (HZ.out.later b)
  replace HK := Lib.hid (HK.out.later b)
  have BB1 := Lib.hid (b)
  clear b
  have n := zcopy_any A c L xa HZ.out hL hE
  have NN := Lib.hid n
  clear n
  go_wp2_with fail
  refine NN.out.mono ?_
  clear NN
  intro e x0 h
  obtain ⟨A0, c0, L0, rfl, hO, hf, b⟩ := h
  replace HZ := Lib.hid (HZ.out.later b)
  replace HK := Lib.hid (HK.out.later b)
  have O0 := Lib.hid (hO)
  have HF0 := Lib.hid hf
  have BB2 := Lib.hid (below_on BB1.out b)
  clear b hO hf
  have n := TS.formed A0 c0 L0 x0 O0.out
  rw [HF0.out, HQ.out] at n
  have NN := Lib.hid n
  clear n
  go_wp2_with fail
  refine NN.out.mono ?_
  clear NN
  rintro e x1 ⟨rfl, b⟩
  replace HZ := Lib.hid (HZ.out.later b)
  replace HK := Lib.hid (HK.out.later b)
  replace O0 := Lib.hid (O0.out.later b)
  have BB3 := Lib.hid (below_on BB2.out b)
  clear b
  have n := zformed_any A c L x1 HZ.out
  rw [HQ.out] at n
  have NN := Lib.hid n
  clear n
  go_wp2_with fail
  refine NN.out.mono ?_
  clear NN
  rintro e x2 ⟨rfl, b⟩
  replace HZ := Lib.hid (HZ.out.later b)
  replace HK := Lib.hid (HK.out.later b)
  replace O0 := Lib.hid (O0.out.later b)
  have BB4 := Lib.hid (below_on BB3.out b)
  clear b
  have n := TS.blurred A0 c0 L0 x2 O0.out
  rw [HF0.out] at n
  have NN := Lib.hid n
  clear n
  go_wp2_with fail
  refine NN.out.mono ?_
  clear NN
  intro e x3 h
  obtain ⟨A3, c3, rfl, hO, b⟩ := h
  replace HZ := Lib.hid (HZ.out.later b)
  replace HK := Lib.hid (HK.out.later b)
  replace O0 := Lib.hid (O0.out.later b)
  have O3 := Lib.hid (hO)
  have BB5 := Lib.hid (below_on BB4.out b)
  clear b hO
  have n := (zblurred_any A c L x3 HZ.out).mono fun _ _ hg => GivesS.one hg
  have NN := Lib.hid n
  clear n
  go_wp2_with fail
  refine NN.out.mono ?_
  clear NN
  intro e x4 h
  obtain ⟨A4, c4, rfl, hO, b⟩ := h
  replace HZ := Lib.hid (HZ.out.later b)
  replace HK := Lib.hid (HK.out.later b)
  replace O0 := Lib.hid (O0.out.later b)
  replace O3 := Lib.hid (O3.out.later b)
  have O4 := Lib.hid (hO)
  have BB6 := Lib.hid (below_on BB5.out b)
  clear b hO
  have n := ssame_any A3 A4 c3 c4 _ _ x4 O3.out.len O3.out.stamps O4.out.stamps
  rw [decide_eq_true rfl] at n
  have NN := Lib.hid n
  clear n
  go_wp2_with fail
  refine NN.out.mono ?_
  clear NN
  rintro e x5 ⟨rfl, b⟩
  replace HZ := Lib.hid (HZ.out.later b)
  replace HK := Lib.hid (HK.out.later b)
  replace O0 := Lib.hid (O0.out.later b)
  replace O3 := Lib.hid (O3.out.later b)
  replace O4 := Lib.hid (O4.out.later b)
  have BB7 := Lib.hid (below_on BB6.out b)
  clear b
  have n := TS.reach A0 B c0 cb L0 kn o x5 O0.out HK.out
  rw [HF0.out] at n
  have NN := Lib.hid n
  clear n
  go_wp2_with fail
  refine NN.out.mono ?_
  clear NN
  intro e x6 h
  obtain ⟨A6, c6, rfl, hO, b⟩ := h
  replace HZ := Lib.hid (HZ.out.later b)
  replace HK := Lib.hid (HK.out.later b)
  replace O0 := Lib.hid (O0.out.later b)
  replace O3 := Lib.hid (O3.out.later b)
  replace O4 := Lib.hid (O4.out.later b)
  have O6 := Lib.hid (hO)
  have BB8 := Lib.hid (below_on BB7.out b)
  clear b hO
  have n := (zreach_any A B c cb L kn o x6 HZ.out HK.out).mono fun _ _ hg => Gives.one hg
  have NN := Lib.hid n
  clear n
  go_wp2_with fail
  refine NN.out.mono ?_
  clear NN
  intro e x7 h
  obtain ⟨A7, c7, rfl, hO, b⟩ := h
  replace HZ := Lib.hid (HZ.out.later b)
  replace HK := Lib.hid (HK.out.later b)
  replace O0 := Lib.hid (O0.out.later b)
  replace O3 := Lib.hid (O3.out.later b)
  replace O4 := Lib.hid (O4.out.later b)
  replace O6 := Lib.hid (O6.out.later b)
  have O7 := Lib.hid (hO)
  have BB9 := Lib.hid (below_on BB8.out b)
  clear b hO
  have n := rsame_any A6 A7 c6 c7 _ _ x7 O6.out.len O6.out.stamps O7.out.stamps
  rw [decide_eq_true rfl] at n
  have NN := Lib.hid n
  clear n
  go_wp2_with fail
  refine NN.out.mono ?_
  clear NN
  rintro e x8 ⟨rfl, b⟩
  replace HZ := Lib.hid (HZ.out.later b)
  replace HK := Lib.hid (HK.out.later b)
  replace O0 := Lib.hid (O0.out.later b)
  replace O3 := Lib.hid (O3.out.later b)
  replace O4 := Lib.hid (O4.out.later b)
  replace O6 := Lib.hid (O6.out.later b)
  replace O7 := Lib.hid (O7.out.later b)
  have BB10 := Lib.hid (below_on BB9.out b)
  clear b
  have n := zsame_any A0 A c0 c L0 L x8 O0.out HZ.out
  rw [HF0.out, decide_eq_true rfl] at n
  have NN := Lib.hid n
  clear n
  go_wp2_with fail
  refine NN.out.mono ?_
  clear NN
  rintro e x9 ⟨rfl, b⟩
  replace HZ := Lib.hid (HZ.out.later b)
  replace HK := Lib.hid (HK.out.later b)
  replace O0 := Lib.hid (O0.out.later b)
  replace O3 := Lib.hid (O3.out.later b)
  replace O4 := Lib.hid (O4.out.later b)
  replace O6 := Lib.hid (O6.out.later b)
  replace O7 := Lib.hid (O7.out.later b)
  have BB11 := Lib.hid (below_on BB10.out b)
  clear b
  go_wp2
  go_ret
  exact ⟨by first | rfl | simp, BB11.out⟩

set_option maxRecDepth 100000 in
set_option maxHeartbeats 12800000 in
theorem lawTSinces_any (TS : TrustSpec) (A B C : Option Addr) (c cb cc : Nat) (L : List Zc) (kn it : List (Int × Int)) (w : World) (hz : OneZ w A c L) (hk : OneL w B cb kn) (hi : OneL w C cc it) :
    Calls Try.prog 4 #[.slice A L.length c, .slice B kn.length cb, .slice C it.length cc] w (Says (.bool true) w) := by
  have HZ := Lib.hid hz
  have HK := Lib.hid hk
  have HI := Lib.hid hi
  clear hz hk hi
  go_enter Try.func4, Try.ntmps4
  have n := talive_any TS w
  have NN := Lib.hid n
  clear n
  go_wp2_with fail
  refine NN.out.mono ?_
  clear NN
  rintro e xa ⟨rfl, b⟩
  replace HZ := Lib.hid (HZ.out.later b)
  replace HK := Lib.hid (HK.out.later b)
  replace HI := Lib.hid (HI.out.later b)
  have BB1 := Lib.hid (b)
  clear b
  have n := TS.since A B C c cb cc L kn it xa HZ.out HK.out HI.out
  have NN := Lib.hid n
  clear n
  go_wp2_with fail
  refine NN.out.mono ?_
  clear NN
  intro e x1 h
  obtain ⟨A1, c1, rfl, hO, b⟩ := h
  replace HZ := Lib.hid (HZ.out.later b)
  replace HK := Lib.hid (HK.out.later b)
  replace HI := Lib.hid (HI.out.later b)
  have O1 := Lib.hid (hO)
  have BB2 := Lib.hid (below_on BB1.out b)
  clear b hO
  have n := (zsince_any A B C c cb cc L kn it x1 HZ.out HK.out HI.out).mono fun _ _ hg => Gives.one hg
  have NN := Lib.hid n
  clear n
  go_wp2_with fail
  refine NN.out.mono ?_
  clear NN
  intro e x2 h
  obtain ⟨A2, c2, rfl, hO, b⟩ := h
  replace HZ := Lib.hid (HZ.out.later b)
  replace HK := Lib.hid (HK.out.later b)
  replace HI := Lib.hid (HI.out.later b)
  replace O1 := Lib.hid (O1.out.later b)
  have O2 := Lib.hid (hO)
  have BB3 := Lib.hid (below_on BB2.out b)
  clear b hO
  have n := rsame_any A1 A2 c1 c2 _ _ x2 O1.out.len O1.out.stamps O2.out.stamps
  rw [decide_eq_true rfl] at n
  have NN := Lib.hid n
  clear n
  go_wp2_with fail
  refine NN.out.mono ?_
  clear NN
  rintro e x3 ⟨rfl, b⟩
  replace HZ := Lib.hid (HZ.out.later b)
  replace HK := Lib.hid (HK.out.later b)
  replace HI := Lib.hid (HI.out.later b)
  replace O1 := Lib.hid (O1.out.later b)
  replace O2 := Lib.hid (O2.out.later b)
  have BB4 := Lib.hid (below_on BB3.out b)
  clear b
  go_wp2
  go_ret
  exact ⟨by first | rfl | simp, BB4.out⟩

set_option maxRecDepth 100000 in
set_option maxHeartbeats 12800000 in
theorem lawTTwice_any (TS : TrustSpec) (A B S E Bl V : Option Addr) (c cb cs ce cl cv : Nat) (L : List Zc) (kn : List (Int × Int)) (n : Note) (w : World) (hz : OneZ w A c L) (hk : OneL w B cb kn) (hn : NoteAt w S E Bl V cs ce cl cv n) :
    Calls Try.prog 6 #[.slice A L.length c, .slice B kn.length cb, .agg (noteCells S E Bl V cs ce cl cv n)] w (Says (.bool true) w) := by
  have bn := below_new (Below.refl w.heap.size w) (.cells (noteCells S E Bl V cs ce cl cv n) 38)
  obtain ⟨W0, hW0⟩ : ∃ W0, w.alloc (.cells (noteCells S E Bl V cs ce cl cv n) 38) = W0 := ⟨_, rfl⟩
  have NB0 : Blk W0 w.heap.size 38 (noteCells S E Bl V cs ce cl cv n) := by rw [← hW0]; exact Blk.new w _ _
  rw [hW0] at bn
  have HZ := Lib.hid (hz.later bn)
  have HK := Lib.hid (hk.later bn)
  have HN := Lib.hid (hn.later bn)
  have NB := Lib.hid NB0
  have BB0 := Lib.hid bn
  have HW0 := Lib.hid hW0
  have TA := Lib.hid (talive_any TS W0)
  clear hz hk hn bn NB0 hW0
  rcases Tr.take_ways (L.map Zc.zn) kn n with ⟨k, hk1, ht⟩ | ⟨ht, hzf, hkf, hnf, hff⟩
  · have HT := Lib.hid ht
    have hk2 : (k == 0) = false := by rw [beq_eq_false_iff_ne]; exact hk1
    have hk3 : decide (k = 0) = false := decide_eq_false hk1
    clear ht
    go_enter Try.func6, Try.ntmps6
    go_wp2_with fail
    try rw [HW0.out]
    refine TA.out.mono ?_
    clear TA
    rintro e xa ⟨rfl, b⟩
    replace HZ := Lib.hid (HZ.out.later b)
    replace HK := Lib.hid (HK.out.later b)
    replace HN := Lib.hid (HN.out.later b)
    replace NB := Lib.hid (NB.out.later b)
    have BB1 := Lib.hid (below_on BB0.out b)
    clear b
    obtain ⟨y0, y1, y2, y3⟩ := note_cells NB.out
    have n := TS.take A B S E Bl V c cb cs ce cl cv L kn n xa HZ.out HK.out HN.out
    rw [HT.out] at n
    have NN := Lib.hid n
    clear n
    go_wp2_with fail
    refine NN.out.mono ?_
    clear NN
    intro e x1 h
    obtain ⟨A1, c1, L1, B1, d1, rfl, hO, hf, hB, b⟩ := h.open
    clear h
    replace HZ := Lib.hid (HZ.out.later b)
    replace HK := Lib.hid (HK.out.later b)
    replace HN := Lib.hid (HN.out.later b)
    replace NB := Lib.hid (NB.out.later b)
    have O1 := Lib.hid (hO)
    have K1 := Lib.hid (hB)
    have HF1 := Lib.hid hf
    have BB2 := Lib.hid (below_on BB1.out b)
    clear b hO hf hB
    have hL1 : L1 = [] := by have := HF1.out; cases L1 with | nil => rfl | cons a r => cases this
    subst hL1
    clear y0 y1 y2 y3
    go_wp2
    go_ret
    exact ⟨by first | rfl | simp, BB2.out⟩
  · obtain ⟨KN, hKN⟩ : ∃ x, Ve.joinL [kn, n.e] = x := ⟨_, rfl⟩
    obtain ⟨ZN, hZN⟩ : ∃ x, Tr.mkTo (Tr.zof (L.map Zc.zn) kn n) 256 = x := ⟨_, rfl⟩
    have ht2 := Tr.take_twice hzf hkf hnf hff
    have ht3 := Tr.take_still (n := n) hzf hkf
    rw [hKN, hZN] at ht ht2 ht3
    have HT := Lib.hid ht
    have HT2 := Lib.hid ht2
    have HT3 := Lib.hid ht3
    clear ht ht2 ht3 hKN hZN hzf hkf hnf hff
    go_enter Try.func6, Try.ntmps6
    go_wp2_with fail
    try rw [HW0.out]
    refine TA.out.mono ?_
    clear TA
    rintro e xa ⟨rfl, b⟩
    replace HZ := Lib.hid (HZ.out.later b)
    replace HK := Lib.hid (HK.out.later b)
    replace HN := Lib.hid (HN.out.later b)
    replace NB := Lib.hid (NB.out.later b)
    have BB1 := Lib.hid (below_on BB0.out b)
    clear b
    obtain ⟨y0, y1, y2, y3⟩ := note_cells NB.out
    have n := TS.take A B S E Bl V c cb cs ce cl cv L kn n xa HZ.out HK.out HN.out
    rw [HT.out] at n
    have NN := Lib.hid n
    clear n
    go_wp2_with fail
    refine NN.out.mono ?_
    clear NN
    intro e x1 h
    obtain ⟨A1, c1, L1, B1, d1, rfl, hO, hf, hB, b⟩ := h.open
    clear h
    replace HZ := Lib.hid (HZ.out.later b)
    replace HK := Lib.hid (HK.out.later b)
    replace HN := Lib.hid (HN.out.later b)
    replace NB := Lib.hid (NB.out.later b)
    have O1 := Lib.hid (hO)
    have K1 := Lib.hid (hB)
    have HF1 := Lib.hid hf
    have BB2 := Lib.hid (below_on BB1.out b)
    clear b hO hf hB
    clear y0 y1 y2 y3
    obtain ⟨y0, y1, y2, y3⟩ := note_cells NB.out
    have n := TS.take A1 B1 S E Bl V c1 d1 cs ce cl cv L1 KN n x1 O1.out K1.out HN.out
    rw [HF1.out, HT2.out] at n
    have NN := Lib.hid n
    clear n
    go_wp2_with fail
    refine NN.out.mono ?_
    clear NN
    intro e x2 h
    obtain ⟨A2, c2, L2, B2, d2, rfl, hO, hf, hB, b⟩ := h.open
    clear h
    replace HZ := Lib.hid (HZ.out.later b)
    replace HK := Lib.hid (HK.out.later b)
    replace HN := Lib.hid (HN.out.later b)
    replace NB := Lib.hid (NB.out.later b)
    replace O1 := Lib.hid (O1.out.later b)
    replace K1 := Lib.hid (K1.out.later b)
    have O2 := Lib.hid (hO)
    have K2 := Lib.hid (hB)
    have HF2 := Lib.hid hf
    have BB3 := Lib.hid (below_on BB2.out b)
    clear b hO hf hB
    clear y0 y1 y2 y3
    have n := TS.take A2 B2 B1 B1 none none c2 d2 d1 d1 0 0 L2 KN (Tr.still KN) x2 O2.out K2.out ⟨K1.out, K1.out, OneL.nil, OneW.nil⟩
    rw [HF2.out, HT3.out] at n
    have NN := Lib.hid n
    clear n
    go_wp2_with fail
    refine NN.out.mono ?_
    clear NN
    intro e x3 h
    obtain ⟨A3, c3, L3, B3, d3, rfl, hO, hf, hB, b⟩ := h.open
    clear h
    replace HZ := Lib.hid (HZ.out.later b)
    replace HK := Lib.hid (HK.out.later b)
    replace HN := Lib.hid (HN.out.later b)
    replace NB := Lib.hid (NB.out.later b)
    replace O1 := Lib.hid (O1.out.later b)
    replace K1 := Lib.hid (K1.out.later b)
    replace O2 := Lib.hid (O2.out.later b)
    replace K2 := Lib.hid (K2.out.later b)
    have O3 := Lib.hid (hO)
    have K3 := Lib.hid (hB)
    have HF3 := Lib.hid hf
    have BB4 := Lib.hid (below_on BB3.out b)
    clear b hO hf hB
    have n := zsame_any A1 A2 c1 c2 L1 L2 x3 O1.out O2.out
    rw [HF1.out, HF2.out, decide_eq_true rfl] at n
    have NN := Lib.hid n
    clear n
    go_wp2_with fail
    refine NN.out.mono ?_
    clear NN
    rintro e x4 ⟨rfl, b⟩
    replace HZ := Lib.hid (HZ.out.later b)
    replace HK := Lib.hid (HK.out.later b)
    replace HN := Lib.hid (HN.out.later b)
    replace NB := Lib.hid (NB.out.later b)
    replace O1 := Lib.hid (O1.out.later b)
    replace K1 := Lib.hid (K1.out.later b)
    replace O2 := Lib.hid (O2.out.later b)
    replace K2 := Lib.hid (K2.out.later b)
    replace O3 := Lib.hid (O3.out.later b)
    replace K3 := Lib.hid (K3.out.later b)
    have BB5 := Lib.hid (below_on BB4.out b)
    clear b
    have n := rsame_any B1 B2 d1 d2 _ _ x4 K1.out.len K1.out.stamps K2.out.stamps
    rw [decide_eq_true rfl] at n
    have NN := Lib.hid n
    clear n
    go_wp2_with fail
    refine NN.out.mono ?_
    clear NN
    rintro e x5 ⟨rfl, b⟩
    replace HZ := Lib.hid (HZ.out.later b)
    replace HK := Lib.hid (HK.out.later b)
    replace HN := Lib.hid (HN.out.later b)
    replace NB := Lib.hid (NB.out.later b)
    replace O1 := Lib.hid (O1.out.later b)
    replace K1 := Lib.hid (K1.out.later b)
    replace O2 := Lib.hid (O2.out.later b)
    replace K2 := Lib.hid (K2.out.later b)
    replace O3 := Lib.hid (O3.out.later b)
    replace K3 := Lib.hid (K3.out.later b)
    have BB6 := Lib.hid (below_on BB5.out b)
    clear b
    have n := zsame_any A1 A3 c1 c3 L1 L3 x5 O1.out O3.out
    rw [HF1.out, HF3.out, decide_eq_true rfl] at n
    have NN := Lib.hid n
    clear n
    go_wp2_with fail
    refine NN.out.mono ?_
    clear NN
    rintro e x6 ⟨rfl, b⟩
    replace HZ := Lib.hid (HZ.out.later b)
    replace HK := Lib.hid (HK.out.later b)
    replace HN := Lib.hid (HN.out.later b)
    replace NB := Lib.hid (NB.out.later b)
    replace O1 := Lib.hid (O1.out.later b)
    replace K1 := Lib.hid (K1.out.later b)
    replace O2 := Lib.hid (O2.out.later b)
    replace K2 := Lib.hid (K2.out.later b)
    replace O3 := Lib.hid (O3.out.later b)
    replace K3 := Lib.hid (K3.out.later b)
    have BB7 := Lib.hid (below_on BB6.out b)
    clear b
    have n := rsame_any B1 B3 d1 d3 _ _ x6 K1.out.len K1.out.stamps K3.out.stamps
    rw [decide_eq_true rfl] at n
    have NN := Lib.hid n
    clear n
    go_wp2_with fail
    refine NN.out.mono ?_
    clear NN
    rintro e x7 ⟨rfl, b⟩
    replace HZ := Lib.hid (HZ.out.later b)
    replace HK := Lib.hid (HK.out.later b)
    replace HN := Lib.hid (HN.out.later b)
    replace NB := Lib.hid (NB.out.later b)
    replace O1 := Lib.hid (O1.out.later b)
    replace K1 := Lib.hid (K1.out.later b)
    replace O2 := Lib.hid (O2.out.later b)
    replace K2 := Lib.hid (K2.out.later b)
    replace O3 := Lib.hid (O3.out.later b)
    replace K3 := Lib.hid (K3.out.later b)
    have BB8 := Lib.hid (below_on BB7.out b)
    clear b
    go_wp2
    go_ret
    exact ⟨by first | rfl | simp, BB8.out⟩
end Go.Proofs.Ytcfkpjbakccgiaa
namespace Go.Proofs.Ytcfkpjbakccgiaa
open Go.RowKit

theorem Tr.mends {zs : List Zn} {kn it l1 : List (Int × Int)} (hz : Tr.fmd zs = true) (hk : Ve.fmd kn = true) :
    Sp.touch (Sp.inL (Sp.lessS it (Sp.joinS [l1, []]))) (Sp.inL (Tr.blr (Tr.mkTo (Tr.zof zs kn (Tr.sumN zs kn it (Sp.joinS [l1, []]))) 256))) = false := by
  have hb : Sp.fmd (Sp.joinS [l1, []]) = true := Sp.fmd_ofL _
  have hf := Tr.zof_fmd (n := Tr.sumN zs kn it (Sp.joinS [l1, []])) hz hk
  cases hc : Sp.touch (Sp.inL (Sp.lessS it (Sp.joinS [l1, []]))) (Sp.inL (Tr.blr (Tr.mkTo (Tr.zof zs kn (Tr.sumN zs kn it (Sp.joinS [l1, []]))) 256))) with
  | false => rfl
  | true =>
    obtain ⟨o, ho, h1, h2⟩ := (Sp.touch_iff _ _).1 hc
    rw [Tr.blr_in (Tr.fmd_mk hf) ho, Tr.at_mk hf ho] at h2
    have h3 : (Sp.inL it o && !Sp.inL (Sp.joinS [l1, []]) o) = true := by
      unfold Sp.lessS at h1
      rw [Sp.inL_ofL _ o ho] at h1
      exact h1
    rw [Bool.and_eq_true, Bool.not_eq_true'] at h3
    rw [Tr.sum_sharp hz hk ho h3.1 h3.2] at h2
    cases h2

set_option maxRecDepth 100000 in
set_option maxHeartbeats 12800000 in
theorem lawTMends_any (TS : TrustSpec) (A B I J : Option Addr) (c cb ci cj : Nat) (L : List Zc) (kn it l1 : List (Int × Int)) (w : World) (hz : OneZ w A c L) (hk : OneL w B cb kn) (hi : OneL w I ci it) (hj : OneL w J cj l1) :
    Calls Try.prog 8 #[.slice A L.length c, .slice B kn.length cb, .agg #[.slice I it.length ci, .slice J l1.length cj]] w (Says (.bool true) w) := by
  have bn := below_new (Below.refl w.heap.size w) (.cells #[.slice I it.length ci, .slice J l1.length cj] 46)
  obtain ⟨W0, hW0⟩ : ∃ W0, w.alloc (.cells #[.slice I it.length ci, .slice J l1.length cj] 46) = W0 := ⟨_, rfl⟩
  have NB0 : Blk W0 w.heap.size 46 #[.slice I it.length ci, .slice J l1.length cj] := by rw [← hW0]; exact Blk.new w _ _
  rw [hW0] at bn
  have HZ := Lib.hid (hz.later bn)
  have HK := Lib.hid (hk.later bn)
  have HI := Lib.hid (hi.later bn)
  have HJ := Lib.hid (hj.later bn)
  have NB := Lib.hid NB0
  have BB0 := Lib.hid bn
  have HW0 := Lib.hid hW0
  have TA := Lib.hid (talive_any TS W0)
  obtain ⟨zf, hzf⟩ : ∃ x, Tr.fmd (L.map Zc.zn) = x := ⟨_, rfl⟩
  obtain ⟨kf, hkf⟩ : ∃ x, Ve.fmd kn = x := ⟨_, rfl⟩
  have HZF := Lib.hid hzf
  have HKF := Lib.hid hkf
  clear hz hk hi hj bn NB0 hW0 hzf hkf
  cases zf with
  | false =>
    go_enter Try.func8, Try.ntmps8
    go_wp2_with fail
    try rw [HW0.out]
    refine TA.out.mono ?_
    clear TA
    rintro e xa ⟨rfl, b⟩
    replace HZ := Lib.hid (HZ.out.later b)
    replace HK := Lib.hid (HK.out.later b)
    replace HI := Lib.hid (HI.out.later b)
    replace HJ := Lib.hid (HJ.out.later b)
    replace NB := Lib.hid (NB.out.later b)
    have BB1 := Lib.hid (below_on BB0.out b)
    clear b
    have n := zformed_any A c L xa HZ.out
    rw [HZF.out] at n
    have NN := Lib.hid n
    clear n
    go_wp2_with fail
    refine NN.out.mono ?_
    clear NN
    rintro e x1 ⟨rfl, b⟩
    replace HZ := Lib.hid (HZ.out.later b)
    replace HK := Lib.hid (HK.out.later b)
    replace HI := Lib.hid (HI.out.later b)
    replace HJ := Lib.hid (HJ.out.later b)
    replace NB := Lib.hid (NB.out.later b)
    have BB2 := Lib.hid (below_on BB1.out b)
    clear b
    go_wp2
    go_ret
    exact ⟨by first | rfl | simp, BB2.out⟩
  | true =>
  cases kf with
  | false =>
    go_enter Try.func8, Try.ntmps8
    go_wp2_with fail
    try rw [HW0.out]
    refine TA.out.mono ?_
    clear TA
    rintro e xa ⟨rfl, b⟩
    replace HZ := Lib.hid (HZ.out.later b)
    replace HK := Lib.hid (HK.out.later b)
    replace HI := Lib.hid (HI.out.later b)
    replace HJ := Lib.hid (HJ.out.later b)
    replace NB := Lib.hid (NB.out.later b)
    have BB1 := Lib.hid (below_on BB0.out b)
    clear b
    have n := zformed_any A c L xa HZ.out
    rw [HZF.out] at n
    have NN := Lib.hid n
    clear n
    go_wp2_with fail
    refine NN.out.mono ?_
    clear NN
    rintro e x1 ⟨rfl, b⟩
    replace HZ := Lib.hid (HZ.out.later b)
    replace HK := Lib.hid (HK.out.later b)
    replace HI := Lib.hid (HI.out.later b)
    replace HJ := Lib.hid (HJ.out.later b)
    replace NB := Lib.hid (NB.out.later b)
    have BB2 := Lib.hid (below_on BB1.out b)
    clear b
    have n := rformed_any B cb kn x1 HK.out.len HK.out.stamps
    rw [HKF.out] at n
    have NN := Lib.hid n
    clear n
    go_wp2_with fail
    refine NN.out.mono ?_
    clear NN
    rintro e x2 ⟨rfl, b⟩
    replace HZ := Lib.hid (HZ.out.later b)
    replace HK := Lib.hid (HK.out.later b)
    replace HI := Lib.hid (HI.out.later b)
    replace HJ := Lib.hid (HJ.out.later b)
    replace NB := Lib.hid (NB.out.later b)
    have BB3 := Lib.hid (below_on BB2.out b)
    clear b
    go_wp2
    go_ret
    exact ⟨by first | rfl | simp, BB3.out⟩
  | true =>
    go_enter Try.func8, Try.ntmps8
    go_wp2_with fail
    try rw [HW0.out]
    refine TA.out.mono ?_
    clear TA
    rintro e xa ⟨rfl, b⟩
    replace HZ := Lib.hid (HZ.out.later b)
    replace HK := Lib.hid (HK.out.later b)
    replace HI := Lib.hid (HI.out.later b)
    replace HJ := Lib.hid (HJ.out.later b)
    replace NB := Lib.hid (NB.out.later b)
    have BB1 := Lib.hid (below_on BB0.out b)
    clear b
    have n := zformed_any A c L xa HZ.out
    rw [HZF.out] at n
    have NN := Lib.hid n
    clear n
    go_wp2_with fail
    refine NN.out.mono ?_
    clear NN
    rintro e x1 ⟨rfl, b⟩
    replace HZ := Lib.hid (HZ.out.later b)
    replace HK := Lib.hid (HK.out.later b)
    replace HI := Lib.hid (HI.out.later b)
    replace HJ := Lib.hid (HJ.out.later b)
    replace NB := Lib.hid (NB.out.later b)
    have BB2 := Lib.hid (below_on BB1.out b)
    clear b
    have n := rformed_any B cb kn x1 HK.out.len HK.out.stamps
    rw [HKF.out] at n
    have NN := Lib.hid n
    clear n
    go_wp2_with fail
    refine NN.out.mono ?_
    clear NN
    rintro e x2 ⟨rfl, b⟩
    replace HZ := Lib.hid (HZ.out.later b)
    replace HK := Lib.hid (HK.out.later b)
    replace HI := Lib.hid (HI.out.later b)
    replace HJ := Lib.hid (HJ.out.later b)
    replace NB := Lib.hid (NB.out.later b)
    have BB3 := Lib.hid (below_on BB2.out b)
    clear b
    obtain ⟨bl, hbl⟩ : ∃ x, Sp.joinS [l1, []] = x := ⟨_, rfl⟩
    have HBL := Lib.hid hbl
    have TW := Lib.hid (fun wx (hb : Below x2.heap.size x2 wx) => (show Calls Try.prog 29 #[.slice J l1.length cj, .slice none 0 0] wx (fun e w' => ∃ A c, e = .returned (.slice A bl.length c) ∧ OneL w' A c bl ∧ Below wx.heap.size wx w') from by
      rw [← hbl]
      exact (stwo_any J none cj 0 l1 [] wx (HJ.out.later hb) OneL.nil).mono fun _ _ hg => GivesS.one hg))
    have P0 := Lib.hid (NB.out.cell (i := 0) rfl)
    have P1 := Lib.hid (NB.out.cell (i := 1) rfl)
    clear hbl
    go_upto_region 5 with (fail)
    refine wp_region_facts 6 (by kernel_rfl) (by kernel_rfl)
      (fun v => { tmps := #[.slice A L.length c, .slice B kn.length cb, .agg #[.slice I it.length ci, .slice J l1.length cj], undef, undef, .pointer (some ⟨w.heap.size, 0, none⟩), .bool false, v 5, undef, undef, undef, undef, undef, .bool true, .bool false, .slice A L.length c, .bool true, .bool false, .bool false, .slice B kn.length cb, .bool true, .bool false, .bool false, v 0, v 1, v 2, v 3, v 4, undef, undef, undef, undef, undef, undef, undef, undef, undef, undef, undef, undef, undef, undef, undef, undef, undef, undef, undef, undef, undef, undef, undef, undef, undef, undef, undef, undef, undef, undef, undef, undef, undef], defers := [] }) (fun _ => undef)
      (fun i_ x_ wx => match i_ with
        | 0 => x_ = .pointer (some ⟨w.heap.size, 0, none⟩)
        | 1 => x_ = .slice I it.length ci
        | 2 => x_ = .pointer (some ⟨w.heap.size, 1, none⟩)
        | 3 => x_ = .slice J l1.length cj
        | 4 => ∃ A' c', x_ = .slice A' bl.length c' ∧ OneL wx A' c' bl
        | 5 => x_ = .slice I it.length ci
        | _ => True)
      (fun w1 w2 => Below w1.heap.size w1 w2) (fun h1 h2 => below_on h1 h2) (fun _ => Below.refl _ _) (Below.drew (Below.refl _ _)) ?stab ?step ?done
    case stab =>
      rintro i_ x_ w1 w2 h hb
      match i_, h with
      | 0, h => exact h
      | 1, h => exact h
      | 2, h => exact h
      | 3, h => exact h
      | 4, h => obtain ⟨A', c', h1, h2⟩ := h; exact ⟨A', c', h1, h2.later hb⟩
      | 5, h => exact h
      | i_ + 6, _ => trivial
    case step =>
      intro i_ hi_ v w' hb hd
      match i_, hi_ with
      | 0, _ =>
        refine wpOp_one rfl ?_
        clear hd
        go_wp2
        first | exact ⟨_, (by simp [upd]; done), Below.refl _ _, rfl⟩ | exact ⟨(by simp [upd]; done), Below.refl _ _⟩
      | 1, _ =>
        have h0 : v 0 = _ := hd 0 (List.elem_iff.1 (by kernel_rfl))
        refine wpOp_one rfl ?_
        clear hd
        rw [h0]
        have q0 := cell_later hb P0.out
        go_wp2
        first | exact ⟨_, (by simp [upd, h0]; done), Below.refl _ _, rfl⟩ | exact ⟨(by simp [upd, h0]; done), Below.refl _ _⟩
      | 2, _ =>
        refine wpOp_one rfl ?_
        clear hd
        go_wp2
        first | exact ⟨_, (by simp [upd]; done), Below.refl _ _, rfl⟩ | exact ⟨(by simp [upd]; done), Below.refl _ _⟩
      | 3, _ =>
        have h2 : v 2 = _ := hd 2 (List.elem_iff.1 (by kernel_rfl))
        refine wpOp_one rfl ?_
        clear hd
        rw [h2]
        have q0 := cell_later hb P1.out
        go_wp2
        first | exact ⟨_, (by simp [upd, h2]; done), Below.refl _ _, rfl⟩ | exact ⟨(by simp [upd, h2]; done), Below.refl _ _⟩
      | 4, _ =>
        have h3 : v 3 = _ := hd 3 (List.elem_iff.1 (by kernel_rfl))
        refine wpOp_one rfl ?_
        clear hd
        rw [h3]
        have CL := TW.out w' hb
        clear TW
        go_wp2_with fail
        refine CL.mono ?_
        rintro e w'' ⟨A', c', rfl, ho, b2⟩
        go_wp2
        exact ⟨_, (by simp [upd, h3]; done), b2, A', c', rfl, ho⟩
      | 5, _ =>
        have h1 : v 1 = _ := hd 1 (List.elem_iff.1 (by kernel_rfl))
        refine wpOp_one rfl ?_
        clear hd
        rw [h1]
        go_wp2
        first | exact ⟨_, (by simp [upd, h1]; done), Below.refl _ _, rfl⟩ | exact ⟨(by simp [upd, h1]; done), Below.refl _ _⟩
    case done =>
      intro v w' hb hf
      have h1 : v 5 = _ := hf 5 (by omega)
      obtain ⟨J2, cj2, h4, hbl2⟩ := hf 4 (by omega)
      clear hf
      simp only [List.drop_succ_cons, List.drop_zero]
      rw [h4, h1]
      clear h1 h4
      replace HZ := Lib.hid (HZ.out.later hb)
      replace HK := Lib.hid (HK.out.later hb)
      replace HI := Lib.hid (HI.out.later hb)
      have HBN := Lib.hid hbl2
      have BB4 := Lib.hid (below_on BB3.out hb)
      clear hb hbl2 P0 P1 TW HJ NB
      have n := TS.since A B I c cb ci L kn it w' HZ.out HK.out HI.out
      have NN := Lib.hid n
      clear n
      go_wp2_with fail
      refine NN.out.mono ?_
      clear NN
      intro e x3 h
      obtain ⟨A3, c3, rfl, hO, b⟩ := h
      replace HZ := Lib.hid (HZ.out.later b)
      replace HK := Lib.hid (HK.out.later b)
      replace HI := Lib.hid (HI.out.later b)
      replace HBN := Lib.hid (HBN.out.later b)
      have O3 := Lib.hid (hO)
      have BB5 := Lib.hid (below_on BB4.out b)
      clear b hO
      have b := below_new (Below.refl x3.heap.size x3) (.cells #[.slice A3 (Tr.sncR (L.map Zc.zn) kn it).length c3, .slice B kn.length cb] 23)
      have hb2 := two_slots x3 (.slice A3 (Tr.sncR (L.map Zc.zn) kn it).length c3) (.slice B kn.length cb) 23
      obtain ⟨W4, hW4⟩ : ∃ W4, x3.alloc (.cells #[.slice A3 (Tr.sncR (L.map Zc.zn) kn it).length c3, .slice B kn.length cb] 23) = W4 := ⟨_, rfl⟩
      rw [hW4] at b hb2
      have HX4 := Lib.hid hW4
      replace HZ := Lib.hid (HZ.out.later b)
      replace HK := Lib.hid (HK.out.later b)
      replace HI := Lib.hid (HI.out.later b)
      replace HBN := Lib.hid (HBN.out.later b)
      replace O3 := Lib.hid (O3.out.later b)
      have RW := Lib.hid (rows_two hb2 O3.out HK.out)
      have BB6 := Lib.hid (below_on BB5.out b)
      clear b hb2 hW4
      have MT := (rmeet_any (some ⟨x3.heap.size, 0, none⟩) 2 [Tr.sncR (L.map Zc.zn) kn it, kn] W4 (by simp) RW.out).mono fun _ _ hg => Gives.one hg
      have NM := Lib.hid MT
      clear MT
      go_wp2_with fail
      try rw [HX4.out]
      refine NM.out.mono ?_
      clear NM
      intro e x5 h
      obtain ⟨A5, c5, rfl, hO, b⟩ := h
      replace HZ := Lib.hid (HZ.out.later b)
      replace HK := Lib.hid (HK.out.later b)
      replace HI := Lib.hid (HI.out.later b)
      replace HBN := Lib.hid (HBN.out.later b)
      replace O3 := Lib.hid (O3.out.later b)
      have O5 := Lib.hid (hO)
      have BB7 := Lib.hid (below_on BB6.out b)
      clear b hO
      have hst := Tr.sum_take (it := it) HZF.out HKF.out (show Sp.fmd bl = true from by rw [← HBL.out]; exact Sp.fmd_ofL _)
      obtain ⟨ZN, hZN⟩ : ∃ x, Tr.mkTo (Tr.zof (L.map Zc.zn) kn (Tr.sumN (L.map Zc.zn) kn it bl)) 256 = x := ⟨_, rfl⟩
      rw [hZN] at hst
      have HST := Lib.hid hst
      have HTC := Lib.hid (show Sp.touch (Sp.inL (Sp.lessS it bl)) (Sp.inL (Tr.blr ZN)) = false from by rw [← hZN, ← HBL.out]; exact Tr.mends HZF.out HKF.out)
      clear hst hZN
      have n := TS.take A B A5 B J2 none c cb c5 cb cj2 0 L kn (Tr.sumN (L.map Zc.zn) kn it bl) x5 HZ.out HK.out ⟨O5.out, HK.out, HBN.out, OneW.nil⟩
      rw [HST.out] at n
      have NN := Lib.hid n
      clear n
      go_wp2_with fail
      refine NN.out.mono ?_
      clear NN
      intro e x6 h
      obtain ⟨A6, c6, L6, B6, d6, rfl, hO, hf, hB, b⟩ := h.open
      clear h
      replace HZ := Lib.hid (HZ.out.later b)
      replace HK := Lib.hid (HK.out.later b)
      replace HI := Lib.hid (HI.out.later b)
      replace HBN := Lib.hid (HBN.out.later b)
      replace O3 := Lib.hid (O3.out.later b)
      replace O5 := Lib.hid (O5.out.later b)
      have O6 := Lib.hid (hO)
      have K6 := Lib.hid (hB)
      have HF6 := Lib.hid hf
      have BB8 := Lib.hid (below_on BB7.out b)
      clear b hO hf hB
      have n := rsame_any B6 B d6 cb _ _ x6 K6.out.len K6.out.stamps HK.out.stamps
      rw [decide_eq_true rfl] at n
      have NN := Lib.hid n
      clear n
      go_wp2_with fail
      refine NN.out.mono ?_
      clear NN
      rintro e x7 ⟨rfl, b⟩
      replace HZ := Lib.hid (HZ.out.later b)
      replace HK := Lib.hid (HK.out.later b)
      replace HI := Lib.hid (HI.out.later b)
      replace HBN := Lib.hid (HBN.out.later b)
      replace O3 := Lib.hid (O3.out.later b)
      replace O5 := Lib.hid (O5.out.later b)
      replace O6 := Lib.hid (O6.out.later b)
      replace K6 := Lib.hid (K6.out.later b)
      have BB9 := Lib.hid (below_on BB8.out b)
      clear b
      have n := (sless_any I J2 ci cj2 it bl x7 HI.out HBN.out).mono fun _ _ hg => GivesS.one hg
      have NN := Lib.hid n
      clear n
      go_wp2_with fail
      refine NN.out.mono ?_
      clear NN
      intro e x8 h
      obtain ⟨A8, c8, rfl, hO, b⟩ := h
      replace HZ := Lib.hid (HZ.out.later b)
      replace HK := Lib.hid (HK.out.later b)
      replace HI := Lib.hid (HI.out.later b)
      replace HBN := Lib.hid (HBN.out.later b)
      replace O3 := Lib.hid (O3.out.later b)
      replace O5 := Lib.hid (O5.out.later b)
      replace O6 := Lib.hid (O6.out.later b)
      replace K6 := Lib.hid (K6.out.later b)
      have O8 := Lib.hid (hO)
      have BB10 := Lib.hid (below_on BB9.out b)
      clear b hO
      have n := TS.blurred A6 c6 L6 x8 O6.out
      rw [HF6.out] at n
      have NN := Lib.hid n
      clear n
      go_wp2_with fail
      refine NN.out.mono ?_
      clear NN
      intro e x9 h
      obtain ⟨A9, c9, rfl, hO, b⟩ := h
      replace HZ := Lib.hid (HZ.out.later b)
      replace HK := Lib.hid (HK.out.later b)
      replace HI := Lib.hid (HI.out.later b)
      replace HBN := Lib.hid (HBN.out.later b)
      replace O3 := Lib.hid (O3.out.later b)
      replace O5 := Lib.hid (O5.out.later b)
      replace O6 := Lib.hid (O6.out.later b)
      replace K6 := Lib.hid (K6.out.later b)
      replace O8 := Lib.hid (O8.out.later b)
      have O9 := Lib.hid (hO)
      have BB11 := Lib.hid (below_on BB10.out b)
      clear b hO
      have n := stouch_any A8 A9 c8 c9 _ _ x9 O8.out O9.out
      rw [HTC.out] at n
      have NN := Lib.hid n
      clear n
      go_wp2_with fail
      refine NN.out.mono ?_
      clear NN
      rintro e x10 ⟨rfl, b⟩
      replace HZ := Lib.hid (HZ.out.later b)
      replace HK := Lib.hid (HK.out.later b)
      replace HI := Lib.hid (HI.out.later b)
      replace HBN := Lib.hid (HBN.out.later b)
      replace O3 := Lib.hid (O3.out.later b)
      replace O5 := Lib.hid (O5.out.later b)
      replace O6 := Lib.hid (O6.out.later b)
      replace K6 := Lib.hid (K6.out.later b)
      replace O8 := Lib.hid (O8.out.later b)
      replace O9 := Lib.hid (O9.out.later b)
      have BB12 := Lib.hid (below_on BB11.out b)
      clear b
      go_wp2
      go_ret
      exact ⟨by first | rfl | simp, BB12.out⟩
end Go.Proofs.Ytcfkpjbakccgiaa
namespace Go.Proofs.Ytcfkpjbakccgiaa.trustMends
open Go.ChangeShapes Go.WideShapes Go.ChangeAt Go.RowKit

theorem cellsStamp : Try.prog.cellsOf 53 = 2 := by kernel_rfl
theorem bytesStamp : Try.prog.bytesOf 53 = 16 := by kernel_rfl
theorem cellsSpan : Try.prog.cellsOf 55 = 2 := by kernel_rfl
theorem bytesSpan : Try.prog.bytesOf 55 = 16 := by kernel_rfl
theorem cellsWrite : Try.prog.cellsOf 102 = 4 := by kernel_rfl
theorem bytesWrite : Try.prog.bytesOf 102 = 32 := by kernel_rfl
theorem own : ownKnob Try.prog.godebug = none := by kernel_rfl
theorem laidOut : laidOutB Try.prog = true := by kernel_rfl
theorem reads : ∀ t ∈ Try.f8.params.toList, Try.prog.readableRec t = true ∧ t < Try.prog.types.size := by
  intro t ht
  rw [Try.params8] at ht
  have : t = 22 ∨ t = 23 ∨ t = 46 := by simpa using ht
  rcases this with rfl | rfl | rfl <;> exact ⟨by kernel_rfl, of_decide_eq_true (by kernel_rfl)⟩

set_option maxRecDepth 100000 in
theorem lifted (os : Os) (started : os.Started) (H : Type) (enc : TypeId × Value → H) :
    ReturnsInHanded {} Try.checked os 8 .any (Rows.trustMendsSpec.pre6 enc Try.prog Try.f8 Rows.trustMendsRow.domain false) (Rows.trustMendsSpec.post enc Try.prog Try.f8 false true false false) := by
  refine returnsInHanded_of_change (C := Try.checked) own started (by kernel_rfl) Try.func8
    (ChangeSpec.witness6 (enc := enc) (C := Try.checked) false ⟨#[], #[.slice none 0 0, .slice none 0 0, .agg #[.slice none 0 0, .slice none 0 0]], []⟩ 8 (by kernel_rfl) (by kernel_rfl) (by kernel_rfl) (by kernel_rfl)) ?_
  intro W base args ds gs before hval0 hW _ _
  have hval : ∀ (j : Nat) t v, Try.f8.params[j]? = some t → args[j]? = some v → Value.okWide Try.prog W .any base t v := hval0
  have hW' := hW
  obtain ⟨p, q, hA0, hV, rfl, hfz, hnd⟩ := hW
  have hA : DataW.TrodAll enc Try.prog W 0 (fun _ => true) true Try.f8.params.toList args.toList ds p := hA0
  rw [Try.params8] at hA hval
  obtain ⟨v0, vs0, d0, ds0, p0, q0, hargs, rfl, rfl, h0, r0⟩ := trodAll_cons hA
  obtain ⟨v1, vs1, d1, ds1, p1, q1, rfl, rfl, rfl, h1, r1⟩ := trodAll_cons r0
  obtain ⟨v2, vs2, d2, ds2, p2, q2, rfl, rfl, rfl, h2, r2⟩ := trodAll_cons r1
  obtain ⟨rfl, rfl, rfl⟩ := trodAll_nil r2
  obtain rfl : args = #[v0, v1, v2] := by cases args; simp_all
  obtain ⟨rfl, rfl⟩ := trodVars_none hV
  obtain ⟨A0, c0, L0, rfl, o0, g0⟩ := open_zones (hval 0 22 v0 rfl rfl) h0
  obtain ⟨A1, cap1, l1, rfl, hc1, hm1, hn1, hl1, _, hd1⟩ := open_stamps Try.underlying23 Try.underlying53 (by kernel_rfl) cellsStamp rfl rfl Try.underlying3 (hval 1 23 v1 rfl rfl) h1
  have o1 : OneL W A1 cap1 l1 := ⟨hc1, hm1, hn1, hl1⟩
  obtain ⟨A2, B2, c2, e2, l2, m2, rfl, o2, q2⟩ := open_pair (hval 2 46 v2 rfl rfl) h2
  clear hA0 hval0
  refine (lawTMends_any trustSpec A0 A1 A2 B2 c0 cap1 c2 e2 L0 l1 l2 m2 W o0 o1 o2 q2).mono fun e W' ⟨he, hg⟩ => ?_
  subst he
  exact ⟨_, rfl, law_post laidOut hW' rfl rfl (by kernel_rfl) Try.underlying4 reads hg⟩

theorem over : Rows.trustMendsRow.holds Try.pinned (OpenSpec.ofChange Rows.trustMendsSpec) :=
  OpenClaim.holds_of_wide 8 Try.f8 rfl rfl rfl rfl rfl rfl rfl ⟨rfl, rfl, rfl, rfl, rfl⟩ rfl rfl rfl rfl rfl (by kernel_rfl) Try.func8 (by kernel_rfl)
    (of_decide_eq_true (by kernel_rfl)) (by unfold Func.isWrapper; first | (rw [if_pos (by decide +kernel)]; kernel_rfl) | (rw [if_neg (by decide +kernel)]; exact ⟨rfl, rfl⟩))
    (fun os started H enc _ => lifted os started H enc)

/-- The statement. -/
theorem proved : Rows.TrustMendsSaid :=
  over

end Go.Proofs.Ytcfkpjbakccgiaa.trustMends
