/-
  The laws TrustForms, TrustSinces, TrustTwice over the contracts of trust's functions.
  The law TrustSharp over the contracts of trust's functions.
  For all zones, any list of stamps and any note, the law TrustSharp returns true and leaves its arguments as they were. No condition.
-/
import Derived.Test.YtcfkpjbakccgiaaG13
import Derived.Test.YtcfkpjbakccgiaaG06
import Derived.Test.YtcfkpjbakccgiaaRows
import Derived.Test.YtcfkpjbakccgiaaG26
import Derived.Test.YtcfkpjbakccgiaaG10
import Derived.Test.YtcfkpjbakccgiaaG09
import Derived.OpenShut
import Derived.WalkKit
import Derived.ProofKit
import Derived.SizedLaws
namespace Go.Proofs.Ytcfkpjbakccgiaa
open Go.RowKit

theorem Tr.take_ways (zs : List Zn) (kn : List (Int × Int)) (n : Note) : (∃ k : Int, k ≠ 0 ∧ Tr.tkR zs kn n = ([], [], k)) ∨ (Tr.tkR zs kn n = (Tr.mkTo (Tr.zof zs kn n) 256, Ve.joinL [kn, n.e], 0) ∧ Tr.fmd zs = true ∧ Ve.fmd kn = true ∧ Nt.fmd n = true ∧ Ve.cov (Ve.cnt kn) (Ve.cnt n.s) = true) := by
  by_cases h : Tr.fmd zs = true ∧ Ve.fmd kn = true ∧ Nt.fmd n = true
  · by_cases hf : Ve.cov (Ve.cnt kn) (Ve.cnt n.s) = true
    · exact .inr ⟨Tr.take_yes h.1 h.2.1 h.2.2 hf, h.1, h.2.1, h.2.2, hf⟩
    · exact .inl ⟨3, by omega, by unfold Tr.tkR; rw [if_pos h, if_neg hf]⟩
  · exact .inl ⟨1, by omega, by unfold Tr.tkR; rw [if_neg h]⟩
theorem GivesZ.same {zs : List Zn} {w w' : World} {e : Ending} (h : GivesZ zs w e w') : ∃ A c L, e = .returned (.slice A (List.length L) c) ∧ OneZ w' A c L ∧ L.map Zc.zn = zs ∧ Below w.heap.size w w' := h

set_option maxRecDepth 100000 in
set_option maxHeartbeats 12800000 in
theorem lawTForms_any (TS : TrustSpec) (A B : Option Addr) (c cb : Nat) (L : List Zc) (kn : List (Int × Int)) (o : Int) (w : World) (hz : OneZ w A c L) (hk : OneL w B cb kn) (hL : L.length * 40 ≤ 140737488355328) (hE : ∀ z ∈ L, z.l.length * 16 ≤ 140737488355328) :
    Calls Try.prog 3 #[.slice A L.length c, .slice B kn.length cb, .int .i64 o] w (Says (.bool true) w) := by
  have HZ := Lib.hid hz
  have HK := Lib.hid hk
  clear hz hk
  obtain ⟨q, hq⟩ : ∃ q, Tr.fmd (L.map Zc.zn) = q := ⟨_, rfl⟩
  have HQ := Lib.hid hq
  clear hq
  go_enter Try.func3, Try.ntmps3
  have n := talive_any TS w
  have NN := Lib.hid n
  clear n
  go_wp2_with fail
  refine NN.out.mono ?_
  clear NN
  rintro e xa ⟨rfl, b⟩
  replace HZ := Lib.hid (HZ.out.later b)
  replace HK := Lib.hid (HK.out.later b)
  have BB1 := Lib.hid (b)
  clear b
  have n := zcopy_any A c L xa HZ.out hL hE
  have NN := Lib.hid n
  clear n
  go_wp2_with fail
  refine NN.out.mono ?_
  clear NN
  intro e x0 h
  obtain ⟨A0, c0, L0, rfl, hO, hf, b⟩ := h
  replace HZ := Lib.hid (HZ.out.later b)
  replace HK := Lib.hid (HK.out.later b)
  have O0 := Lib.hid (hO)
  have HF0 := Lib.hid hf
  have BB2 := Lib.hid (below_on BB1.out b)
  clear b hO hf
  have n := TS.formed A0 c0 L0 x0 O0.out
  rw [HF0.out, HQ.out] at n
  have NN := Lib.hid n
  clear n
  go_wp2_with fail
  refine NN.out.mono ?_
  clear NN
  rintro e x1 ⟨rfl, b⟩
  replace HZ := Lib.hid (HZ.out.later b)
  replace HK := Lib.hid (HK.out.later b)
  replace O0 := Lib.hid (O0.out.later b)
  have BB3 := Lib.hid (below_on BB2.out b)
  clear b
  have n := zformed_any A c L x1 HZ.out
  rw [HQ.out] at n
  have NN := Lib.hid n
  clear n
  go_wp2_with fail
  refine NN.out.mono ?_
  clear NN
  rintro e x2 ⟨rfl, b⟩
  replace HZ := Lib.hid (HZ.out.later b)
  replace HK := Lib.hid (HK.out.later b)
  replace O0 := Lib.hid (O0.out.later b)
  have BB4 := Lib.hid (below_on BB3.out b)
  clear b
  have n := TS.blurred A0 c0 L0 x2 O0.out
  rw [HF0.out] at n
  have NN := Lib.hid n
  clear n
  go_wp2_with fail
  refine NN.out.mono ?_
  clear NN
  intro e x3 h
  obtain ⟨A3, c3, rfl, hO, b⟩ := h
  replace HZ := Lib.hid (HZ.out.later b)
  replace HK := Lib.hid (HK.out.later b)
  replace O0 := Lib.hid (O0.out.later b)
  have O3 := Lib.hid (hO)
  have BB5 := Lib.hid (below_on BB4.out b)
  clear b hO
  have n := (zblurred_any A c L x3 HZ.out).mono fun _ _ hg => GivesS.one hg
  have NN := Lib.hid n
  clear n
  go_wp2_with fail
  refine NN.out.mono ?_
  clear NN
  intro e x4 h
  obtain ⟨A4, c4, rfl, hO, b⟩ := h
  replace HZ := Lib.hid (HZ.out.later b)
  replace HK := Lib.hid (HK.out.later b)
  replace O0 := Lib.hid (O0.out.later b)
  replace O3 := Lib.hid (O3.out.later b)
  have O4 := Lib.hid (hO)
  have BB6 := Lib.hid (below_on BB5.out b)
  clear b hO
  have n := ssame_any A3 A4 c3 c4 _ _ x4 O3.out.len O3.out.stamps O4.out.stamps
  rw [decide_eq_true rfl] at n
  have NN := Lib.hid n
  clear n
  go_wp2_with fail
  refine NN.out.mono ?_
  clear NN
  rintro e x5 ⟨rfl, b⟩
  replace HZ := Lib.hid (HZ.out.later b)
  replace HK := Lib.hid (HK.out.later b)
  replace O0 := Lib.hid (O0.out.later b)
  replace O3 := Lib.hid (O3.out.later b)
  replace O4 := Lib.hid (O4.out.later b)
  have BB7 := Lib.hid (below_on BB6.out b)
  clear b
  have n := TS.reach A0 B c0 cb L0 kn o x5 O0.out HK.out
  rw [HF0.out] at n
  have NN := Lib.hid n
  clear n
  go_wp2_with fail
  refine NN.out.mono ?_
  clear NN
  intro e x6 h
  obtain ⟨A6, c6, rfl, hO, b⟩ := h
  replace HZ := Lib.hid (HZ.out.later b)
  replace HK := Lib.hid (HK.out.later b)
  replace O0 := Lib.hid (O0.out.later b)
  replace O3 := Lib.hid (O3.out.later b)
  replace O4 := Lib.hid (O4.out.later b)
  have O6 := Lib.hid (hO)
  have BB8 := Lib.hid (below_on BB7.out b)
  clear b hO
  have n := (zreach_any A B c cb L kn o x6 HZ.out HK.out).mono fun _ _ hg => Gives.one hg
  have NN := Lib.hid n
  clear n
  go_wp2_with fail
  refine NN.out.mono ?_
  clear NN
  intro e x7 h
  obtain ⟨A7, c7, rfl, hO, b⟩ := h
  replace HZ := Lib.hid (HZ.out.later b)
  replace HK := Lib.hid (HK.out.later b)
  replace O0 := Lib.hid (O0.out.later b)
  replace O3 := Lib.hid (O3.out.later b)
  replace O4 := Lib.hid (O4.out.later b)
  replace O6 := Lib.hid (O6.out.later b)
  have O7 := Lib.hid (hO)
  have BB9 := Lib.hid (below_on BB8.out b)
  clear b hO
  have n := rsame_any A6 A7 c6 c7 _ _ x7 O6.out.len O6.out.stamps O7.out.stamps
  rw [decide_eq_true rfl] at n
  have NN := Lib.hid n
  clear n
  go_wp2_with fail
  refine NN.out.mono ?_
  clear NN
  rintro e x8 ⟨rfl, b⟩
  replace HZ := Lib.hid (HZ.out.later b)
  replace HK := Lib.hid (HK.out.later b)
  replace O0 := Lib.hid (O0.out.later b)
  replace O3 := Lib.hid (O3.out.later b)
  replace O4 := Lib.hid (O4.out.later b)
  replace O6 := Lib.hid (O6.out.later b)
  replace O7 := Lib.hid (O7.out.later b)
  have BB10 := Lib.hid (below_on BB9.out b)
  clear b
  have n := zsame_any A0 A c0 c L0 L x8 O0.out HZ.out
  rw [HF0.out, decide_eq_true rfl] at n
  have NN := Lib.hid n
  clear n
  go_wp2_with fail
  refine NN.out.mono ?_
  clear NN
  rintro e x9 ⟨rfl, b⟩
  replace HZ := Lib.hid (HZ.out.later b)
  replace HK := Lib.hid (HK.out.later b)
  replace O0 := Lib.hid (O0.out.later b)
  replace O3 := Lib.hid (O3.out.later b)
  replace O4 := Lib.hid (O4.out.later b)
  replace O6 := Lib.hid (O6.out.later b)
  replace O7 := Lib.hid (O7.out.later b)
  have BB11 := Lib.hid (below_on BB10.out b)
  clear b
  go_wp2
  go_ret
  exact ⟨by first | rfl | simp, BB11.out⟩

set_option maxRecDepth 100000 in
set_option maxHeartbeats 12800000 in
theorem lawTSinces_any (TS : TrustSpec) (A B C : Option Addr) (c cb cc : Nat) (L : List Zc) (kn it : List (Int × Int)) (w : World) (hz : OneZ w A c L) (hk : OneL w B cb kn) (hi : OneL w C cc it) :
    Calls Try.prog 4 #[.slice A L.length c, .slice B kn.length cb, .slice C it.length cc] w (Says (.bool true) w) := by
  have HZ := Lib.hid hz
  have HK := Lib.hid hk
  have HI := Lib.hid hi
  clear hz hk hi
  go_enter Try.func4, Try.ntmps4
  have n := talive_any TS w
  have NN := Lib.hid n
  clear n
  go_wp2_with fail
  refine NN.out.mono ?_
  clear NN
  rintro e xa ⟨rfl, b⟩
  replace HZ := Lib.hid (HZ.out.later b)
  replace HK := Lib.hid (HK.out.later b)
  replace HI := Lib.hid (HI.out.later b)
  have BB1 := Lib.hid (b)
  clear b
  have n := TS.since A B C c cb cc L kn it xa HZ.out HK.out HI.out
  have NN := Lib.hid n
  clear n
  go_wp2_with fail
  refine NN.out.mono ?_
  clear NN
  intro e x1 h
  obtain ⟨A1, c1, rfl, hO, b⟩ := h
  replace HZ := Lib.hid (HZ.out.later b)
  replace HK := Lib.hid (HK.out.later b)
  replace HI := Lib.hid (HI.out.later b)
  have O1 := Lib.hid (hO)
  have BB2 := Lib.hid (below_on BB1.out b)
  clear b hO
  have n := (zsince_any A B C c cb cc L kn it x1 HZ.out HK.out HI.out).mono fun _ _ hg => Gives.one hg
  have NN := Lib.hid n
  clear n
  go_wp2_with fail
  refine NN.out.mono ?_
  clear NN
  intro e x2 h
  obtain ⟨A2, c2, rfl, hO, b⟩ := h
  replace HZ := Lib.hid (HZ.out.later b)
  replace HK := Lib.hid (HK.out.later b)
  replace HI := Lib.hid (HI.out.later b)
  replace O1 := Lib.hid (O1.out.later b)
  have O2 := Lib.hid (hO)
  have BB3 := Lib.hid (below_on BB2.out b)
  clear b hO
  have n := rsame_any A1 A2 c1 c2 _ _ x2 O1.out.len O1.out.stamps O2.out.stamps
  rw [decide_eq_true rfl] at n
  have NN := Lib.hid n
  clear n
  go_wp2_with fail
  refine NN.out.mono ?_
  clear NN
  rintro e x3 ⟨rfl, b⟩
  replace HZ := Lib.hid (HZ.out.later b)
  replace HK := Lib.hid (HK.out.later b)
  replace HI := Lib.hid (HI.out.later b)
  replace O1 := Lib.hid (O1.out.later b)
  replace O2 := Lib.hid (O2.out.later b)
  have BB4 := Lib.hid (below_on BB3.out b)
  clear b
  go_wp2
  go_ret
  exact ⟨by first | rfl | simp, BB4.out⟩

set_option maxRecDepth 100000 in
set_option maxHeartbeats 12800000 in
theorem lawTTwice_any (TS : TrustSpec) (A B S E Bl V : Option Addr) (c cb cs ce cl cv : Nat) (L : List Zc) (kn : List (Int × Int)) (n : Note) (w : World) (hz : OneZ w A c L) (hk : OneL w B cb kn) (hn : NoteAt w S E Bl V cs ce cl cv n) :
    Calls Try.prog 6 #[.slice A L.length c, .slice B kn.length cb, .agg (noteCells S E Bl V cs ce cl cv n)] w (Says (.bool true) w) := by
  have bn := below_new (Below.refl w.heap.size w) (.cells (noteCells S E Bl V cs ce cl cv n) 38)
  obtain ⟨W0, hW0⟩ : ∃ W0, w.alloc (.cells (noteCells S E Bl V cs ce cl cv n) 38) = W0 := ⟨_, rfl⟩
  have NB0 : Blk W0 w.heap.size 38 (noteCells S E Bl V cs ce cl cv n) := by rw [← hW0]; exact Blk.new w _ _
  rw [hW0] at bn
  have HZ := Lib.hid (hz.later bn)
  have HK := Lib.hid (hk.later bn)
  have HN := Lib.hid (hn.later bn)
  have NB := Lib.hid NB0
  have BB0 := Lib.hid bn
  have HW0 := Lib.hid hW0
  have TA := Lib.hid (talive_any TS W0)
  clear hz hk hn bn NB0 hW0
  rcases Tr.take_ways (L.map Zc.zn) kn n with ⟨k, hk1, ht⟩ | ⟨ht, hzf, hkf, hnf, hff⟩
  · have HT := Lib.hid ht
    have hk2 : (k == 0) = false := by rw [beq_eq_false_iff_ne]; exact hk1
    have hk3 : decide (k = 0) = false := decide_eq_false hk1
    clear ht
    go_enter Try.func6, Try.ntmps6
    go_wp2_with fail
    try rw [HW0.out]
    refine TA.out.mono ?_
    clear TA
    rintro e xa ⟨rfl, b⟩
    replace HZ := Lib.hid (HZ.out.later b)
    replace HK := Lib.hid (HK.out.later b)
    replace HN := Lib.hid (HN.out.later b)
    replace NB := Lib.hid (NB.out.later b)
    have BB1 := Lib.hid (below_on BB0.out b)
    clear b
    obtain ⟨y0, y1, y2, y3⟩ := note_cells NB.out
    have n := TS.take A B S E Bl V c cb cs ce cl cv L kn n xa HZ.out HK.out HN.out
    rw [HT.out] at n
    have NN := Lib.hid n
    clear n
    go_wp2_with fail
    refine NN.out.mono ?_
    clear NN
    intro e x1 h
    obtain ⟨A1, c1, L1, B1, d1, rfl, hO, hf, hB, b⟩ := h.open
    clear h
    replace HZ := Lib.hid (HZ.out.later b)
    replace HK := Lib.hid (HK.out.later b)
    replace HN := Lib.hid (HN.out.later b)
    replace NB := Lib.hid (NB.out.later b)
    have O1 := Lib.hid (hO)
    have K1 := Lib.hid (hB)
    have HF1 := Lib.hid hf
    have BB2 := Lib.hid (below_on BB1.out b)
    clear b hO hf hB
    have hL1 : L1 = [] := by have := HF1.out; cases L1 with | nil => rfl | cons a r => cases this
    subst hL1
    clear y0 y1 y2 y3
    go_wp2
    go_ret
    exact ⟨by first | rfl | simp, BB2.out⟩
  · obtain ⟨KN, hKN⟩ : ∃ x, Ve.joinL [kn, n.e] = x := ⟨_, rfl⟩
    obtain ⟨ZN, hZN⟩ : ∃ x, Tr.mkTo (Tr.zof (L.map Zc.zn) kn n) 256 = x := ⟨_, rfl⟩
    have ht2 := Tr.take_twice hzf hkf hnf hff
    have ht3 := Tr.take_still (n := n) hzf hkf
    rw [hKN, hZN] at ht ht2 ht3
    have HT := Lib.hid ht
    have HT2 := Lib.hid ht2
    have HT3 := Lib.hid ht3
    clear ht ht2 ht3 hKN hZN hzf hkf hnf hff
    go_enter Try.func6, Try.ntmps6
    go_wp2_with fail
    try rw [HW0.out]
    refine TA.out.mono ?_
    clear TA
    rintro e xa ⟨rfl, b⟩
    replace HZ := Lib.hid (HZ.out.later b)
    replace HK := Lib.hid (HK.out.later b)
    replace HN := Lib.hid (HN.out.later b)
    replace NB := Lib.hid (NB.out.later b)
    have BB1 := Lib.hid (below_on BB0.out b)
    clear b
    obtain ⟨y0, y1, y2, y3⟩ := note_cells NB.out
    have n := TS.take A B S E Bl V c cb cs ce cl cv L kn n xa HZ.out HK.out HN.out
    rw [HT.out] at n
    have NN := Lib.hid n
    clear n
    go_wp2_with fail
    refine NN.out.mono ?_
    clear NN
    intro e x1 h
    obtain ⟨A1, c1, L1, B1, d1, rfl, hO, hf, hB, b⟩ := h.open
    clear h
    replace HZ := Lib.hid (HZ.out.later b)
    replace HK := Lib.hid (HK.out.later b)
    replace HN := Lib.hid (HN.out.later b)
    replace NB := Lib.hid (NB.out.later b)
    have O1 := Lib.hid (hO)
    have K1 := Lib.hid (hB)
    have HF1 := Lib.hid hf
    have BB2 := Lib.hid (below_on BB1.out b)
    clear b hO hf hB
    clear y0 y1 y2 y3
    obtain ⟨y0, y1, y2, y3⟩ := note_cells NB.out
    have n := TS.take A1 B1 S E Bl V c1 d1 cs ce cl cv L1 KN n x1 O1.out K1.out HN.out
    rw [HF1.out, HT2.out] at n
    have NN := Lib.hid n
    clear n
    go_wp2_with fail
    refine NN.out.mono ?_
    clear NN
    intro e x2 h
    obtain ⟨A2, c2, L2, B2, d2, rfl, hO, hf, hB, b⟩ := h.open
    clear h
    replace HZ := Lib.hid (HZ.out.later b)
    replace HK := Lib.hid (HK.out.later b)
    replace HN := Lib.hid (HN.out.later b)
    replace NB := Lib.hid (NB.out.later b)
    replace O1 := Lib.hid (O1.out.later b)
    replace K1 := Lib.hid (K1.out.later b)
    have O2 := Lib.hid (hO)
    have K2 := Lib.hid (hB)
    have HF2 := Lib.hid hf
    have BB3 := Lib.hid (below_on BB2.out b)
    clear b hO hf hB
    clear y0 y1 y2 y3
    have n := TS.take A2 B2 B1 B1 none none c2 d2 d1 d1 0 0 L2 KN (Tr.still KN) x2 O2.out K2.out ⟨K1.out, K1.out, OneL.nil, OneW.nil⟩
    rw [HF2.out, HT3.out] at n
    have NN := Lib.hid n
    clear n
    go_wp2_with fail
    refine NN.out.mono ?_
    clear NN
    intro e x3 h
    obtain ⟨A3, c3, L3, B3, d3, rfl, hO, hf, hB, b⟩ := h.open
    clear h
    replace HZ := Lib.hid (HZ.out.later b)
    replace HK := Lib.hid (HK.out.later b)
    replace HN := Lib.hid (HN.out.later b)
    replace NB := Lib.hid (NB.out.later b)
    replace O1 := Lib.hid (O1.out.later b)
    replace K1 := Lib.hid (K1.out.later b)
    replace O2 := Lib.hid (O2.out.later b)
    replace K2 := Lib.hid (K2.out.later b)
    have O3 := Lib.hid (hO)
    have K3 := Lib.hid (hB)
    have HF3 := Lib.hid hf
    have BB4 := Lib.hid (below_on BB3.out b)
    clear b hO hf hB
    have n := zsame_any A1 A2 c1 c2 L1 L2 x3 O1.out O2.out
    rw [HF1.out, HF2.out, decide_eq_true rfl] at n
    have NN := Lib.hid n
    clear n
    go_wp2_with fail
    refine NN.out.mono ?_
    clear NN
    rintro e x4 ⟨rfl, b⟩
    replace HZ := Lib.hid (HZ.out.later b)
    replace HK := Lib.hid (HK.out.later b)
    replace HN := Lib.hid (HN.out.later b)
    replace NB := Lib.hid (NB.out.later b)
    replace O1 := Lib.hid (O1.out.later b)
    replace K1 := Lib.hid (K1.out.later b)
    replace O2 := Lib.hid (O2.out.later b)
    replace K2 := Lib.hid (K2.out.later b)
    replace O3 := Lib.hid (O3.out.later b)
    replace K3 := Lib.hid (K3.out.later b)
    have BB5 := Lib.hid (below_on BB4.out b)
    clear b
    have n := rsame_any B1 B2 d1 d2 _ _ x4 K1.out.len K1.out.stamps K2.out.stamps
    rw [decide_eq_true rfl] at n
    have NN := Lib.hid n
    clear n
    go_wp2_with fail
    refine NN.out.mono ?_
    clear NN
    rintro e x5 ⟨rfl, b⟩
    replace HZ := Lib.hid (HZ.out.later b)
    replace HK := Lib.hid (HK.out.later b)
    replace HN := Lib.hid (HN.out.later b)
    replace NB := Lib.hid (NB.out.later b)
    replace O1 := Lib.hid (O1.out.later b)
    replace K1 := Lib.hid (K1.out.later b)
    replace O2 := Lib.hid (O2.out.later b)
    replace K2 := Lib.hid (K2.out.later b)
    replace O3 := Lib.hid (O3.out.later b)
    replace K3 := Lib.hid (K3.out.later b)
    have BB6 := Lib.hid (below_on BB5.out b)
    clear b
    have n := zsame_any A1 A3 c1 c3 L1 L3 x5 O1.out O3.out
    rw [HF1.out, HF3.out, decide_eq_true rfl] at n
    have NN := Lib.hid n
    clear n
    go_wp2_with fail
    refine NN.out.mono ?_
    clear NN
    rintro e x6 ⟨rfl, b⟩
    replace HZ := Lib.hid (HZ.out.later b)
    replace HK := Lib.hid (HK.out.later b)
    replace HN := Lib.hid (HN.out.later b)
    replace NB := Lib.hid (NB.out.later b)
    replace O1 := Lib.hid (O1.out.later b)
    replace K1 := Lib.hid (K1.out.later b)
    replace O2 := Lib.hid (O2.out.later b)
    replace K2 := Lib.hid (K2.out.later b)
    replace O3 := Lib.hid (O3.out.later b)
    replace K3 := Lib.hid (K3.out.later b)
    have BB7 := Lib.hid (below_on BB6.out b)
    clear b
    have n := rsame_any B1 B3 d1 d3 _ _ x6 K1.out.len K1.out.stamps K3.out.stamps
    rw [decide_eq_true rfl] at n
    have NN := Lib.hid n
    clear n
    go_wp2_with fail
    refine NN.out.mono ?_
    clear NN
    rintro e x7 ⟨rfl, b⟩
    replace HZ := Lib.hid (HZ.out.later b)
    replace HK := Lib.hid (HK.out.later b)
    replace HN := Lib.hid (HN.out.later b)
    replace NB := Lib.hid (NB.out.later b)
    replace O1 := Lib.hid (O1.out.later b)
    replace K1 := Lib.hid (K1.out.later b)
    replace O2 := Lib.hid (O2.out.later b)
    replace K2 := Lib.hid (K2.out.later b)
    replace O3 := Lib.hid (O3.out.later b)
    replace K3 := Lib.hid (K3.out.later b)
    have BB8 := Lib.hid (below_on BB7.out b)
    clear b
    go_wp2
    go_ret
    exact ⟨by first | rfl | simp, BB8.out⟩
end Go.Proofs.Ytcfkpjbakccgiaa
namespace Go.Proofs.Ytcfkpjbakccgiaa
open Go.RowKit

/-- A later world. -/
structure From (w0 w : World) : Prop where
  b : Below w0.heap.size w0 w
theorem From.later {w0 w w' : World} (h : From w0 w) (hb : Below w.heap.size w w') : From w0 w' := ⟨below_on h.b hb⟩
/-- What TrustSharp asks of an object. -/
theorem Tr.sharp_ok {zs : List Zn} {kn : List (Int × Int)} {n : Note} (hz : Tr.fmd zs = true) (hk : Ve.fmd kn = true) (hn : Nt.fmd n = true) (hf : Ve.cov (Ve.cnt kn) (Ve.cnt n.s) = true) {o : Nat} (ho : o < 256) :
    inOf (Tr.blr zs) (o : Int) = true ∨ inOf (Tr.blr (Tr.mkTo (Tr.zof zs kn n) 256)) (o : Int) = false ∨ inOf n.b (o : Int) = true := by
  have hfm := Tr.zof_fmd (n := n) hz hk
  have hin : ∀ l : List (Int × Int), inOf l (o : Int) = Sp.inL l o := fun l => by
    unfold inOf
    rw [decide_eq_true (⟨by omega, by omega⟩ : 0 ≤ (o : Int) ∧ (o : Int) ≤ 255), Bool.true_and]
    rfl
  rw [hin, hin, hin, Tr.blr_in hz ho, Tr.blr_in (Tr.fmd_mk hfm) ho, Tr.at_mk hfm ho]
  cases ha : Tr.at_ zs (o : Int) with
  | some v => exact .inl rfl
  | none =>
    cases hb : Sp.inL n.b o with
    | true => exact .inr (.inr rfl)
    | false => exact .inr (.inl (by rw [Tr.sharp_stays hn hf ha hb]; rfl))

set_option maxRecDepth 100000 in
set_option maxHeartbeats 12800000 in
theorem lawTSharp_any (TS : TrustSpec) (A B S E Bl V : Option Addr) (c cb cs ce cl cv : Nat) (L : List Zc) (kn : List (Int × Int)) (n : Note) (w : World) (hz : OneZ w A c L) (hk : OneL w B cb kn) (hn : NoteAt w S E Bl V cs ce cl cv n) :
    Calls Try.prog 7 #[.slice A L.length c, .slice B kn.length cb, .agg (noteCells S E Bl V cs ce cl cv n)] w (Says (.bool true) w) := by
  have bn := below_new (Below.refl w.heap.size w) (.cells (noteCells S E Bl V cs ce cl cv n) 38)
  obtain ⟨W0, hW0⟩ : ∃ W0, w.alloc (.cells (noteCells S E Bl V cs ce cl cv n) 38) = W0 := ⟨_, rfl⟩
  have NB0 : Blk W0 w.heap.size 38 (noteCells S E Bl V cs ce cl cv n) := by rw [← hW0]; exact Blk.new w _ _
  rw [hW0] at bn
  have HZ := Lib.hid (hz.later bn)
  have HK := Lib.hid (hk.later bn)
  have HN := Lib.hid (hn.later bn)
  have NB := Lib.hid NB0
  have BB0 := Lib.hid bn
  have HW0 := Lib.hid hW0
  have TA := Lib.hid (talive_any TS W0)
  clear hz hk hn bn NB0 hW0
  rcases Tr.take_ways (L.map Zc.zn) kn n with ⟨k, hk1, ht⟩ | ⟨ht, hzf, hkf, hnf, hff⟩
  · have HT := Lib.hid ht
    have hk2 : (k == 0) = false := by rw [beq_eq_false_iff_ne]; exact hk1
    have hk3 : decide (k = 0) = false := decide_eq_false hk1
    clear ht
    go_enter Try.func7, Try.ntmps7
    go_wp2_with fail
    try rw [HW0.out]
    refine TA.out.mono ?_
    clear TA
    rintro e xa ⟨rfl, b⟩
    replace HZ := Lib.hid (HZ.out.later b)
    replace HK := Lib.hid (HK.out.later b)
    replace HN := Lib.hid (HN.out.later b)
    replace NB := Lib.hid (NB.out.later b)
    have BB1 := Lib.hid (below_on BB0.out b)
    clear b
    obtain ⟨y0, y1, y2, y3⟩ := note_cells NB.out
    have n := TS.take A B S E Bl V c cb cs ce cl cv L kn n xa HZ.out HK.out HN.out
    rw [HT.out] at n
    have NN := Lib.hid n
    clear n
    go_wp2_with fail
    refine NN.out.mono ?_
    clear NN
    intro e x1 h
    obtain ⟨A1, c1, L1, B1, d1, rfl, hO, hf, hB, b⟩ := h.open
    clear h
    replace HZ := Lib.hid (HZ.out.later b)
    replace HK := Lib.hid (HK.out.later b)
    replace HN := Lib.hid (HN.out.later b)
    replace NB := Lib.hid (NB.out.later b)
    have O1 := Lib.hid (hO)
    have K1 := Lib.hid (hB)
    have HF1 := Lib.hid hf
    have BB2 := Lib.hid (below_on BB1.out b)
    clear b hO hf hB
    clear y0 y1 y2 y3
    have hL1 : L1 = [] := by have := HF1.out; cases L1 with | nil => rfl | cons a r => cases this
    subst hL1
    go_wp2
    go_ret
    exact ⟨by first | rfl | simp, BB2.out⟩
  · have hqz := Tr.fmd_mk (Tr.zof_fmd (n := n) hzf hkf)
    have hqk : Ve.fmd (Ve.joinL [kn, n.e]) = true := Ve.fmd_joinL _
    obtain ⟨KN, hKN⟩ : ∃ x, Ve.joinL [kn, n.e] = x := ⟨_, rfl⟩
    obtain ⟨ZN, hZN⟩ : ∃ x, Tr.mkTo (Tr.zof (L.map Zc.zn) kn n) 256 = x := ⟨_, rfl⟩
    rw [hKN, hZN] at ht
    rw [hZN] at hqz
    rw [hKN] at hqk
    have HT := Lib.hid ht
    have HPZ := Lib.hid hzf
    have HPK := Lib.hid hkf
    have HPN := Lib.hid hnf
    have HPF := Lib.hid hff
    have HQZ := Lib.hid hqz
    have HQK := Lib.hid hqk
    have HKN := Lib.hid hKN
    have HZN := Lib.hid hZN
    clear ht hKN hZN hzf hkf hnf hff hqz hqk
    go_enter Try.func7, Try.ntmps7
    go_wp2_with fail
    try rw [HW0.out]
    refine TA.out.mono ?_
    clear TA
    rintro e xa ⟨rfl, b⟩
    replace HZ := Lib.hid (HZ.out.later b)
    replace HK := Lib.hid (HK.out.later b)
    replace HN := Lib.hid (HN.out.later b)
    replace NB := Lib.hid (NB.out.later b)
    have BB1 := Lib.hid (below_on BB0.out b)
    clear b
    obtain ⟨y0, y1, y2, y3⟩ := note_cells NB.out
    have n := TS.take A B S E Bl V c cb cs ce cl cv L kn n xa HZ.out HK.out HN.out
    rw [HT.out] at n
    have NN := Lib.hid n
    clear n
    go_wp2_with fail
    refine NN.out.mono ?_
    clear NN
    intro e x1 h
    obtain ⟨A1, c1, L1, B1, d1, rfl, hO, hf, hB, b⟩ := h.open
    clear h
    replace HZ := Lib.hid (HZ.out.later b)
    replace HK := Lib.hid (HK.out.later b)
    replace HN := Lib.hid (HN.out.later b)
    replace NB := Lib.hid (NB.out.later b)
    have O1 := Lib.hid (hO)
    have K1 := Lib.hid (hB)
    have HF1 := Lib.hid hf
    have BB2 := Lib.hid (below_on BB1.out b)
    clear b hO hf hB
    clear y0 y1 y2 y3
    have n := TS.blurred A c L x1 HZ.out
    have NN := Lib.hid n
    clear n
    go_wp2_with fail
    refine NN.out.mono ?_
    clear NN
    intro e x2 h
    obtain ⟨A2, c2, rfl, hO, b⟩ := h
    replace HZ := Lib.hid (HZ.out.later b)
    replace HK := Lib.hid (HK.out.later b)
    replace HN := Lib.hid (HN.out.later b)
    replace NB := Lib.hid (NB.out.later b)
    replace O1 := Lib.hid (O1.out.later b)
    replace K1 := Lib.hid (K1.out.later b)
    have O2 := Lib.hid (hO)
    have BB3 := Lib.hid (below_on BB2.out b)
    clear b hO
    have n := TS.blurred A1 c1 L1 x2 O1.out
    rw [HF1.out] at n
    have NN := Lib.hid n
    clear n
    go_wp2_with fail
    refine NN.out.mono ?_
    clear NN
    intro e x3 h
    obtain ⟨A3, c3, rfl, hO, b⟩ := h
    replace HZ := Lib.hid (HZ.out.later b)
    replace HK := Lib.hid (HK.out.later b)
    replace HN := Lib.hid (HN.out.later b)
    replace NB := Lib.hid (NB.out.later b)
    replace O1 := Lib.hid (O1.out.later b)
    replace K1 := Lib.hid (K1.out.later b)
    replace O2 := Lib.hid (O2.out.later b)
    have O3 := Lib.hid (hO)
    have BB4 := Lib.hid (below_on BB3.out b)
    clear b hO
    go_wp2_with fail
    go_loopw [12] (fun s12 wr => ∃ k : Nat, k ≤ 256 ∧ s12 = .int .i64 (k : Int) ∧ Below x3.heap.size x3 wr) (fun s12 _ => 256 - (intOf s12).toNat)
    case atStart => exact ⟨0, Nat.zero_le _, rfl, Below.refl _ _⟩
    case round =>
      obtain ⟨k, hk, rfl, hbw⟩ := hrel
      by_cases hlt : k < 256
      · have hd : decide ((k : Int) < 256) = true := decide_eq_true (by omega)
        replace HZ := Lib.hid (HZ.out.later hbw)
        replace HK := Lib.hid (HK.out.later hbw)
        replace HN := Lib.hid (HN.out.later hbw)
        replace NB := Lib.hid (NB.out.later hbw)
        replace O1 := Lib.hid (O1.out.later hbw)
        replace K1 := Lib.hid (K1.out.later hbw)
        replace O2 := Lib.hid (O2.out.later hbw)
        replace O3 := Lib.hid (O3.out.later hbw)
        have BBr := Lib.hid (below_on BB4.out hbw)
        have HXB := Lib.hid (⟨hbw⟩ : From x3 wr)
        clear hbw
        have hok := Tr.sharp_ok HPZ.out HPK.out HPN.out HPF.out hlt
        have hrs := fun h => Tr.reach_rises (n := n) HPZ.out HPK.out hlt h
        rw [HKN.out, HZN.out] at hrs
        rw [HZN.out] at hok
        obtain ⟨i1, h1⟩ : ∃ x, inOf (Tr.blr (L.map Zc.zn)) (k : Int) = x := ⟨_, rfl⟩
        obtain ⟨i2, h2⟩ : ∃ x, inOf (Tr.blr ZN) (k : Int) = x := ⟨_, rfl⟩
        obtain ⟨i3, h3⟩ : ∃ x, inOf n.b (k : Int) = x := ⟨_, rfl⟩
        obtain ⟨r1, h4⟩ : ∃ x, Tr.rch ZN KN (k : Int) = x := ⟨_, rfl⟩
        obtain ⟨r2, h5⟩ : ∃ x, Tr.rch (L.map Zc.zn) kn (k : Int) = x := ⟨_, rfl⟩
        rw [h1, h2, h3] at hok
        rw [h4, h5] at hrs
        have q4 : Tr.rchR ZN KN (k : Int) = r1 := by unfold Tr.rchR; rw [if_pos ⟨HQZ.out, HQK.out, by omega, by omega⟩, h4]
        have q5 : Tr.rchR (L.map Zc.zn) kn (k : Int) = r2 := by unfold Tr.rchR; rw [if_pos ⟨HPZ.out, HPK.out, by omega, by omega⟩, h5]
        have H1 := Lib.hid h1
        have H2 := Lib.hid h2
        have H3 := Lib.hid h3
        have H4 := Lib.hid q4
        have H5 := Lib.hid q5
        have HOK := Lib.hid hok
        have HRS := Lib.hid hrs
        obtain ⟨cv1, h6⟩ : ∃ x, Ve.cov (Ve.cnt kn) (Ve.cnt r2) = x := ⟨_, rfl⟩
        have H6 := Lib.hid h6
        clear hok hrs h1 h2 h3 h4 h5 h6 q4 q5
        have hi0 : (0 : Int) ≤ (k : Int) := by omega
        have n := shas_any A2 c2 _ (k : Int) wr O2.out
        rw [H1.out] at n
        have NN := Lib.hid n
        clear n
        go_wp2_with fail
        refine NN.out.mono ?_
        clear NN
        rintro e x4 ⟨rfl, b⟩
        replace HZ := Lib.hid (HZ.out.later b)
        replace HK := Lib.hid (HK.out.later b)
        replace HN := Lib.hid (HN.out.later b)
        replace NB := Lib.hid (NB.out.later b)
        replace O1 := Lib.hid (O1.out.later b)
        replace K1 := Lib.hid (K1.out.later b)
        replace O2 := Lib.hid (O2.out.later b)
        replace O3 := Lib.hid (O3.out.later b)
        replace HXB := Lib.hid (HXB.out.later b)
        have BB5 := Lib.hid (below_on BBr.out b)
        clear b
        have n := shas_any A3 c3 _ (k : Int) x4 O3.out
        rw [H2.out] at n
        have NN := Lib.hid n
        clear n
        go_wp2_with fail
        refine NN.out.mono ?_
        clear NN
        rintro e x5 ⟨rfl, b⟩
        replace HZ := Lib.hid (HZ.out.later b)
        replace HK := Lib.hid (HK.out.later b)
        replace HN := Lib.hid (HN.out.later b)
        replace NB := Lib.hid (NB.out.later b)
        replace O1 := Lib.hid (O1.out.later b)
        replace K1 := Lib.hid (K1.out.later b)
        replace O2 := Lib.hid (O2.out.later b)
        replace O3 := Lib.hid (O3.out.later b)
        replace HXB := Lib.hid (HXB.out.later b)
        have BB6 := Lib.hid (below_on BB5.out b)
        clear b
        cases i1 with
        | true =>
          have n := TS.reach A1 B1 c1 d1 L1 KN (k : Int) x5 O1.out K1.out
          rw [HF1.out, H4.out] at n
          have NN := Lib.hid n
          clear n
          go_wp2_with fail
          refine NN.out.mono ?_
          clear NN
          intro e x7 h
          obtain ⟨A7, c7, rfl, hO, b⟩ := h
          replace HZ := Lib.hid (HZ.out.later b)
          replace HK := Lib.hid (HK.out.later b)
          replace HN := Lib.hid (HN.out.later b)
          replace NB := Lib.hid (NB.out.later b)
          replace O1 := Lib.hid (O1.out.later b)
          replace K1 := Lib.hid (K1.out.later b)
          replace O2 := Lib.hid (O2.out.later b)
          replace O3 := Lib.hid (O3.out.later b)
          replace HXB := Lib.hid (HXB.out.later b)
          have O7 := Lib.hid (hO)
          have BB7 := Lib.hid (below_on BB6.out b)
          clear b hO
          have n := TS.reach A B c cb L kn (k : Int) x7 HZ.out HK.out
          rw [H5.out] at n
          have NN := Lib.hid n
          clear n
          go_wp2_with fail
          refine NN.out.mono ?_
          clear NN
          intro e x8 h
          obtain ⟨A8, c8, rfl, hO, b⟩ := h
          replace HZ := Lib.hid (HZ.out.later b)
          replace HK := Lib.hid (HK.out.later b)
          replace HN := Lib.hid (HN.out.later b)
          replace NB := Lib.hid (NB.out.later b)
          replace O1 := Lib.hid (O1.out.later b)
          replace K1 := Lib.hid (K1.out.later b)
          replace O2 := Lib.hid (O2.out.later b)
          replace O3 := Lib.hid (O3.out.later b)
          replace HXB := Lib.hid (HXB.out.later b)
          replace O7 := Lib.hid (O7.out.later b)
          have O8 := Lib.hid (hO)
          have BB8 := Lib.hid (below_on BB7.out b)
          clear b hO
          have n := rcovers_any B A8 cb c8 kn r2 x8 HK.out.len O8.out.len HK.out.stamps O8.out.stamps
          rw [H6.out] at n
          have NN := Lib.hid n
          clear n
          go_wp2_with fail
          refine NN.out.mono ?_
          clear NN
          rintro e x9 ⟨rfl, b⟩
          replace HZ := Lib.hid (HZ.out.later b)
          replace HK := Lib.hid (HK.out.later b)
          replace HN := Lib.hid (HN.out.later b)
          replace NB := Lib.hid (NB.out.later b)
          replace O1 := Lib.hid (O1.out.later b)
          replace K1 := Lib.hid (K1.out.later b)
          replace O2 := Lib.hid (O2.out.later b)
          replace O3 := Lib.hid (O3.out.later b)
          replace HXB := Lib.hid (HXB.out.later b)
          replace O7 := Lib.hid (O7.out.later b)
          replace O8 := Lib.hid (O8.out.later b)
          have BB9 := Lib.hid (below_on BB8.out b)
          clear b
          cases cv1 with
          | false =>
            have FBX := HXB.out.b
            clear HOK HRS
            go_wp2_with fail
            go_roundw
            case rel => exact ⟨k + 1, by omega, by first | rfl | go_num, FBX⟩
            case measure => simp [intOf]; omega
          | true =>
            obtain ⟨g1, g2⟩ := HRS.out H6.out
            have G1 := Lib.hid g1
            have G2 := Lib.hid g2
            clear g1 g2
            have n := rcovers_any A7 A8 c7 c8 r1 r2 x9 O7.out.len O8.out.len O7.out.stamps O8.out.stamps
            rw [G1.out] at n
            have NN := Lib.hid n
            clear n
            go_wp2_with fail
            refine NN.out.mono ?_
            clear NN
            rintro e x10 ⟨rfl, b⟩
            replace HZ := Lib.hid (HZ.out.later b)
            replace HK := Lib.hid (HK.out.later b)
            replace HN := Lib.hid (HN.out.later b)
            replace NB := Lib.hid (NB.out.later b)
            replace O1 := Lib.hid (O1.out.later b)
            replace K1 := Lib.hid (K1.out.later b)
            replace O2 := Lib.hid (O2.out.later b)
            replace O3 := Lib.hid (O3.out.later b)
            replace HXB := Lib.hid (HXB.out.later b)
            replace O7 := Lib.hid (O7.out.later b)
            replace O8 := Lib.hid (O8.out.later b)
            have BB10 := Lib.hid (below_on BB9.out b)
            clear b
            have n := rcovers_any B1 A7 d1 c7 KN r1 x10 K1.out.len O7.out.len K1.out.stamps O7.out.stamps
            rw [G2.out] at n
            have NN := Lib.hid n
            clear n
            go_wp2_with fail
            refine NN.out.mono ?_
            clear NN
            rintro e x11 ⟨rfl, b⟩
            replace HZ := Lib.hid (HZ.out.later b)
            replace HK := Lib.hid (HK.out.later b)
            replace HN := Lib.hid (HN.out.later b)
            replace NB := Lib.hid (NB.out.later b)
            replace O1 := Lib.hid (O1.out.later b)
            replace K1 := Lib.hid (K1.out.later b)
            replace O2 := Lib.hid (O2.out.later b)
            replace O3 := Lib.hid (O3.out.later b)
            replace HXB := Lib.hid (HXB.out.later b)
            replace O7 := Lib.hid (O7.out.later b)
            replace O8 := Lib.hid (O8.out.later b)
            have BB11 := Lib.hid (below_on BB10.out b)
            clear b
            have FBX := HXB.out.b
            clear HOK HRS
            go_wp2_with fail
            go_roundw
            case rel => exact ⟨k + 1, by omega, by first | rfl | go_num, FBX⟩
            case measure => simp [intOf]; omega
        | false =>
        cases i2 with
        | false =>
          have n := TS.reach A1 B1 c1 d1 L1 KN (k : Int) x5 O1.out K1.out
          rw [HF1.out, H4.out] at n
          have NN := Lib.hid n
          clear n
          go_wp2_with fail
          refine NN.out.mono ?_
          clear NN
          intro e x7 h
          obtain ⟨A7, c7, rfl, hO, b⟩ := h
          replace HZ := Lib.hid (HZ.out.later b)
          replace HK := Lib.hid (HK.out.later b)
          replace HN := Lib.hid (HN.out.later b)
          replace NB := Lib.hid (NB.out.later b)
          replace O1 := Lib.hid (O1.out.later b)
          replace K1 := Lib.hid (K1.out.later b)
          replace O2 := Lib.hid (O2.out.later b)
          replace O3 := Lib.hid (O3.out.later b)
          replace HXB := Lib.hid (HXB.out.later b)
          have O7 := Lib.hid (hO)
          have BB7 := Lib.hid (below_on BB6.out b)
          clear b hO
          have n := TS.reach A B c cb L kn (k : Int) x7 HZ.out HK.out
          rw [H5.out] at n
          have NN := Lib.hid n
          clear n
          go_wp2_with fail
          refine NN.out.mono ?_
          clear NN
          intro e x8 h
          obtain ⟨A8, c8, rfl, hO, b⟩ := h
          replace HZ := Lib.hid (HZ.out.later b)
          replace HK := Lib.hid (HK.out.later b)
          replace HN := Lib.hid (HN.out.later b)
          replace NB := Lib.hid (NB.out.later b)
          replace O1 := Lib.hid (O1.out.later b)
          replace K1 := Lib.hid (K1.out.later b)
          replace O2 := Lib.hid (O2.out.later b)
          replace O3 := Lib.hid (O3.out.later b)
          replace HXB := Lib.hid (HXB.out.later b)
          replace O7 := Lib.hid (O7.out.later b)
          have O8 := Lib.hid (hO)
          have BB8 := Lib.hid (below_on BB7.out b)
          clear b hO
          have n := rcovers_any B A8 cb c8 kn r2 x8 HK.out.len O8.out.len HK.out.stamps O8.out.stamps
          rw [H6.out] at n
          have NN := Lib.hid n
          clear n
          go_wp2_with fail
          refine NN.out.mono ?_
          clear NN
          rintro e x9 ⟨rfl, b⟩
          replace HZ := Lib.hid (HZ.out.later b)
          replace HK := Lib.hid (HK.out.later b)
          replace HN := Lib.hid (HN.out.later b)
          replace NB := Lib.hid (NB.out.later b)
          replace O1 := Lib.hid (O1.out.later b)
          replace K1 := Lib.hid (K1.out.later b)
          replace O2 := Lib.hid (O2.out.later b)
          replace O3 := Lib.hid (O3.out.later b)
          replace HXB := Lib.hid (HXB.out.later b)
          replace O7 := Lib.hid (O7.out.later b)
          replace O8 := Lib.hid (O8.out.later b)
          have BB9 := Lib.hid (below_on BB8.out b)
          clear b
          cases cv1 with
          | false =>
            have FBX := HXB.out.b
            clear HOK HRS
            go_wp2_with fail
            go_roundw
            case rel => exact ⟨k + 1, by omega, by first | rfl | go_num, FBX⟩
            case measure => simp [intOf]; omega
          | true =>
            obtain ⟨g1, g2⟩ := HRS.out H6.out
            have G1 := Lib.hid g1
            have G2 := Lib.hid g2
            clear g1 g2
            have n := rcovers_any A7 A8 c7 c8 r1 r2 x9 O7.out.len O8.out.len O7.out.stamps O8.out.stamps
            rw [G1.out] at n
            have NN := Lib.hid n
            clear n
            go_wp2_with fail
            refine NN.out.mono ?_
            clear NN
            rintro e x10 ⟨rfl, b⟩
            replace HZ := Lib.hid (HZ.out.later b)
            replace HK := Lib.hid (HK.out.later b)
            replace HN := Lib.hid (HN.out.later b)
            replace NB := Lib.hid (NB.out.later b)
            replace O1 := Lib.hid (O1.out.later b)
            replace K1 := Lib.hid (K1.out.later b)
            replace O2 := Lib.hid (O2.out.later b)
            replace O3 := Lib.hid (O3.out.later b)
            replace HXB := Lib.hid (HXB.out.later b)
            replace O7 := Lib.hid (O7.out.later b)
            replace O8 := Lib.hid (O8.out.later b)
            have BB10 := Lib.hid (below_on BB9.out b)
            clear b
            have n := rcovers_any B1 A7 d1 c7 KN r1 x10 K1.out.len O7.out.len K1.out.stamps O7.out.stamps
            rw [G2.out] at n
            have NN := Lib.hid n
            clear n
            go_wp2_with fail
            refine NN.out.mono ?_
            clear NN
            rintro e x11 ⟨rfl, b⟩
            replace HZ := Lib.hid (HZ.out.later b)
            replace HK := Lib.hid (HK.out.later b)
            replace HN := Lib.hid (HN.out.later b)
            replace NB := Lib.hid (NB.out.later b)
            replace O1 := Lib.hid (O1.out.later b)
            replace K1 := Lib.hid (K1.out.later b)
            replace O2 := Lib.hid (O2.out.later b)
            replace O3 := Lib.hid (O3.out.later b)
            replace HXB := Lib.hid (HXB.out.later b)
            replace O7 := Lib.hid (O7.out.later b)
            replace O8 := Lib.hid (O8.out.later b)
            have BB11 := Lib.hid (below_on BB10.out b)
            clear b
            have FBX := HXB.out.b
            clear HOK HRS
            go_wp2_with fail
            go_roundw
            case rel => exact ⟨k + 1, by omega, by first | rfl | go_num, FBX⟩
            case measure => simp [intOf]; omega
        | true =>
          have hi3 : i3 = true := by rcases HOK.out with h | h | h <;> first | exact h | cases h
          subst hi3
          obtain ⟨y0, y1, y2, y3⟩ := note_cells NB.out
          have n := shas_any Bl cl _ (k : Int) x5 HN.out.hb
          rw [H3.out] at n
          have NN := Lib.hid n
          clear n
          go_wp2_with fail
          refine NN.out.mono ?_
          clear NN
          rintro e x6 ⟨rfl, b⟩
          replace HZ := Lib.hid (HZ.out.later b)
          replace HK := Lib.hid (HK.out.later b)
          replace HN := Lib.hid (HN.out.later b)
          replace NB := Lib.hid (NB.out.later b)
          replace O1 := Lib.hid (O1.out.later b)
          replace K1 := Lib.hid (K1.out.later b)
          replace O2 := Lib.hid (O2.out.later b)
          replace O3 := Lib.hid (O3.out.later b)
          replace HXB := Lib.hid (HXB.out.later b)
          have BB7 := Lib.hid (below_on BB6.out b)
          clear b
          clear y0 y1 y2 y3
          have n := TS.reach A1 B1 c1 d1 L1 KN (k : Int) x6 O1.out K1.out
          rw [HF1.out, H4.out] at n
          have NN := Lib.hid n
          clear n
          go_wp2_with fail
          refine NN.out.mono ?_
          clear NN
          intro e x7 h
          obtain ⟨A7, c7, rfl, hO, b⟩ := h
          replace HZ := Lib.hid (HZ.out.later b)
          replace HK := Lib.hid (HK.out.later b)
          replace HN := Lib.hid (HN.out.later b)
          replace NB := Lib.hid (NB.out.later b)
          replace O1 := Lib.hid (O1.out.later b)
          replace K1 := Lib.hid (K1.out.later b)
          replace O2 := Lib.hid (O2.out.later b)
          replace O3 := Lib.hid (O3.out.later b)
          replace HXB := Lib.hid (HXB.out.later b)
          have O7 := Lib.hid (hO)
          have BB8 := Lib.hid (below_on BB7.out b)
          clear b hO
          have n := TS.reach A B c cb L kn (k : Int) x7 HZ.out HK.out
          rw [H5.out] at n
          have NN := Lib.hid n
          clear n
          go_wp2_with fail
          refine NN.out.mono ?_
          clear NN
          intro e x8 h
          obtain ⟨A8, c8, rfl, hO, b⟩ := h
          replace HZ := Lib.hid (HZ.out.later b)
          replace HK := Lib.hid (HK.out.later b)
          replace HN := Lib.hid (HN.out.later b)
          replace NB := Lib.hid (NB.out.later b)
          replace O1 := Lib.hid (O1.out.later b)
          replace K1 := Lib.hid (K1.out.later b)
          replace O2 := Lib.hid (O2.out.later b)
          replace O3 := Lib.hid (O3.out.later b)
          replace HXB := Lib.hid (HXB.out.later b)
          replace O7 := Lib.hid (O7.out.later b)
          have O8 := Lib.hid (hO)
          have BB9 := Lib.hid (below_on BB8.out b)
          clear b hO
          have n := rcovers_any B A8 cb c8 kn r2 x8 HK.out.len O8.out.len HK.out.stamps O8.out.stamps
          rw [H6.out] at n
          have NN := Lib.hid n
          clear n
          go_wp2_with fail
          refine NN.out.mono ?_
          clear NN
          rintro e x9 ⟨rfl, b⟩
          replace HZ := Lib.hid (HZ.out.later b)
          replace HK := Lib.hid (HK.out.later b)
          replace HN := Lib.hid (HN.out.later b)
          replace NB := Lib.hid (NB.out.later b)
          replace O1 := Lib.hid (O1.out.later b)
          replace K1 := Lib.hid (K1.out.later b)
          replace O2 := Lib.hid (O2.out.later b)
          replace O3 := Lib.hid (O3.out.later b)
          replace HXB := Lib.hid (HXB.out.later b)
          replace O7 := Lib.hid (O7.out.later b)
          replace O8 := Lib.hid (O8.out.later b)
          have BB10 := Lib.hid (below_on BB9.out b)
          clear b
          cases cv1 with
          | false =>
            have FBX := HXB.out.b
            clear HOK HRS
            go_wp2_with fail
            go_roundw
            case rel => exact ⟨k + 1, by omega, by first | rfl | go_num, FBX⟩
            case measure => simp [intOf]; omega
          | true =>
            obtain ⟨g1, g2⟩ := HRS.out H6.out
            have G1 := Lib.hid g1
            have G2 := Lib.hid g2
            clear g1 g2
            have n := rcovers_any A7 A8 c7 c8 r1 r2 x9 O7.out.len O8.out.len O7.out.stamps O8.out.stamps
            rw [G1.out] at n
            have NN := Lib.hid n
            clear n
            go_wp2_with fail
            refine NN.out.mono ?_
            clear NN
            rintro e x10 ⟨rfl, b⟩
            replace HZ := Lib.hid (HZ.out.later b)
            replace HK := Lib.hid (HK.out.later b)
            replace HN := Lib.hid (HN.out.later b)
            replace NB := Lib.hid (NB.out.later b)
            replace O1 := Lib.hid (O1.out.later b)
            replace K1 := Lib.hid (K1.out.later b)
            replace O2 := Lib.hid (O2.out.later b)
            replace O3 := Lib.hid (O3.out.later b)
            replace HXB := Lib.hid (HXB.out.later b)
            replace O7 := Lib.hid (O7.out.later b)
            replace O8 := Lib.hid (O8.out.later b)
            have BB11 := Lib.hid (below_on BB10.out b)
            clear b
            have n := rcovers_any B1 A7 d1 c7 KN r1 x10 K1.out.len O7.out.len K1.out.stamps O7.out.stamps
            rw [G2.out] at n
            have NN := Lib.hid n
            clear n
            go_wp2_with fail
            refine NN.out.mono ?_
            clear NN
            rintro e x11 ⟨rfl, b⟩
            replace HZ := Lib.hid (HZ.out.later b)
            replace HK := Lib.hid (HK.out.later b)
            replace HN := Lib.hid (HN.out.later b)
            replace NB := Lib.hid (NB.out.later b)
            replace O1 := Lib.hid (O1.out.later b)
            replace K1 := Lib.hid (K1.out.later b)
            replace O2 := Lib.hid (O2.out.later b)
            replace O3 := Lib.hid (O3.out.later b)
            replace HXB := Lib.hid (HXB.out.later b)
            replace O7 := Lib.hid (O7.out.later b)
            replace O8 := Lib.hid (O8.out.later b)
            have BB12 := Lib.hid (below_on BB11.out b)
            clear b
            have FBX := HXB.out.b
            clear HOK HRS
            go_wp2_with fail
            go_roundw
            case rel => exact ⟨k + 1, by omega, by first | rfl | go_num, FBX⟩
            case measure => simp [intOf]; omega
      · have hd : decide ((k : Int) < 256) = false := decide_eq_false (by omega)
        have FB := Lib.hid (below_on BB4.out hbw)
        clear hbw
        go_wp2
        go_ret
        exact ⟨by first | rfl | simp, FB.out⟩
end Go.Proofs.Ytcfkpjbakccgiaa
namespace Go.Proofs.Ytcfkpjbakccgiaa.trustSharp
open Go.ChangeShapes Go.WideShapes Go.ChangeAt Go.RowKit

theorem cellsStamp : Try.prog.cellsOf 53 = 2 := by kernel_rfl
theorem bytesStamp : Try.prog.bytesOf 53 = 16 := by kernel_rfl
theorem cellsSpan : Try.prog.cellsOf 55 = 2 := by kernel_rfl
theorem bytesSpan : Try.prog.bytesOf 55 = 16 := by kernel_rfl
theorem cellsWrite : Try.prog.cellsOf 102 = 4 := by kernel_rfl
theorem bytesWrite : Try.prog.bytesOf 102 = 32 := by kernel_rfl
theorem stampE {H : Type} {enc : TypeId × Value → H} {w : World} (fuel : Nat) (cs : List Value) (x : DataW H × List MemPlace) (h : DataW.trod enc Try.prog w 0 (fun _ => true) true fuel 53 cs = some x) : ∃ a, cs = stCell a := by
  obtain ⟨c, n, rfl, _⟩ := stamp_cells Try.underlying53 (by kernel_rfl) (by kernel_rfl) rfl rfl Try.underlying3 h
  exact ⟨(c, n), rfl⟩
theorem spanE {H : Type} {enc : TypeId × Value → H} {w : World} (fuel : Nat) (cs : List Value) (x : DataW H × List MemPlace) (h : DataW.trod enc Try.prog w 0 (fun _ => true) true fuel 55 cs = some x) : ∃ a, cs = stCell a := by
  obtain ⟨c, n, rfl, _⟩ := stamp_cells Try.underlying55 (by kernel_rfl) (by kernel_rfl) rfl rfl Try.underlying3 h
  exact ⟨(c, n), rfl⟩
theorem writeE {H : Type} {enc : TypeId × Value → H} {w : World} (fuel : Nat) (cs : List Value) (x : DataW H × List MemPlace) (h : DataW.trod enc Try.prog w 0 (fun _ => true) true fuel 102 cs = some x) : ∃ a, cs = Nt.wrCell a :=
  write_cells Try.underlying102 (by kernel_rfl) (by kernel_rfl) rfl (by kernel_rfl) rfl (by kernel_rfl) rfl Try.underlying53 (by kernel_rfl) rfl rfl Try.underlying3 Try.underlying3 Try.underlying4 h
theorem own : ownKnob Try.prog.godebug = none := by kernel_rfl
theorem laidOut : laidOutB Try.prog = true := by kernel_rfl
theorem reads : ∀ t ∈ Try.f7.params.toList, Try.prog.readableRec t = true ∧ t < Try.prog.types.size := by
  intro t ht
  rw [Try.params7] at ht
  have : t = 22 ∨ t = 23 ∨ t = 38 := by simpa using ht
  rcases this with rfl | rfl | rfl <;> exact ⟨by kernel_rfl, of_decide_eq_true (by kernel_rfl)⟩

set_option maxRecDepth 100000 in
theorem lifted (os : Os) (started : os.Started) (H : Type) (enc : TypeId × Value → H) :
    ReturnsInHanded {} Try.checked os 7 .any (Rows.trustSharpSpec.pre6 enc Try.prog Try.f7 Rows.trustSharpRow.domain false) (Rows.trustSharpSpec.post enc Try.prog Try.f7 false true false false) := by
  refine returnsInHanded_of_change (C := Try.checked) own started (by kernel_rfl) Try.func7
    (ChangeSpec.witness6 (enc := enc) (C := Try.checked) false ⟨#[], #[.slice none 0 0, .slice none 0 0, .agg #[.slice none 0 0, .slice none 0 0, .slice none 0 0, .slice none 0 0]], []⟩ 8 (by kernel_rfl) (by kernel_rfl) (by kernel_rfl) (by kernel_rfl)) ?_
  intro W base args ds gs before hval0 hW _ _
  have hval : ∀ (j : Nat) t v, Try.f7.params[j]? = some t → args[j]? = some v → Value.okWide Try.prog W .any base t v := hval0
  have hW' := hW
  obtain ⟨p, q, hA0, hV, rfl, hfz, hnd⟩ := hW
  have hA : DataW.TrodAll enc Try.prog W 0 (fun _ => true) true Try.f7.params.toList args.toList ds p := hA0
  rw [Try.params7] at hA hval
  obtain ⟨v0, vs0, d0, ds0, p0, q0, hargs, rfl, rfl, h0, r0⟩ := trodAll_cons hA
  obtain ⟨v1, vs1, d1, ds1, p1, q1, rfl, rfl, rfl, h1, r1⟩ := trodAll_cons r0
  obtain ⟨v2, vs2, d2, ds2, p2, q2, rfl, rfl, rfl, h2, r2⟩ := trodAll_cons r1
  obtain ⟨rfl, rfl, rfl⟩ := trodAll_nil r2
  obtain rfl : args = #[v0, v1, v2] := by cases args; simp_all
  obtain ⟨rfl, rfl⟩ := trodVars_none hV
  obtain ⟨A0, c0, L0, rfl, o0, g0⟩ := open_zones (hval 0 22 v0 rfl rfl) h0
  obtain ⟨A1, cap1, l1, rfl, hc1, hm1, hn1, hl1, _, hd1⟩ := open_stamps Try.underlying23 Try.underlying53 (by kernel_rfl) cellsStamp rfl rfl Try.underlying3 (hval 1 23 v1 rfl rfl) h1
  have o1 : OneL W A1 cap1 l1 := ⟨hc1, hm1, hn1, hl1⟩
  obtain ⟨S2, E2, B2, V2, cs2, ce2, cb2, cv2, n2, rfl, o2, x20, x21, x22, x23, rfl, m20, m21, m22, m23⟩ := open_note Try.underlying38 (by kernel_rfl) (by kernel_rfl) Try.underlying23 Try.underlying23 Try.underlying28 Try.underlying36 (by kernel_rfl) (by kernel_rfl) (by kernel_rfl) stampE spanE writeE (hval 2 38 v2 rfl rfl) h2
  clear hA0 hval0
  refine (lawTSharp_any trustSpec A0 A1 S2 E2 B2 V2 c0 cap1 cs2 ce2 cb2 cv2 L0 l1 n2 W o0 o1 o2).mono fun e W' ⟨he, hg⟩ => ?_
  subst he
  exact ⟨_, rfl, law_post laidOut hW' rfl rfl (by kernel_rfl) Try.underlying4 reads hg⟩

theorem over : Rows.trustSharpRow.holds Try.pinned (OpenSpec.ofChange Rows.trustSharpSpec) :=
  OpenClaim.holds_of_wide 7 Try.f7 rfl rfl rfl rfl rfl rfl rfl ⟨rfl, rfl, rfl, rfl, rfl⟩ rfl rfl rfl rfl rfl (by kernel_rfl) Try.func7 (by kernel_rfl)
    (of_decide_eq_true (by kernel_rfl)) (by unfold Func.isWrapper; first | (rw [if_pos (by decide +kernel)]; kernel_rfl) | (rw [if_neg (by decide +kernel)]; exact ⟨rfl, rfl⟩))
    (fun os started H enc _ => lifted os started H enc)

/-- The statement. -/
theorem proved : Rows.TrustSharpSaid :=
  over

end Go.Proofs.Ytcfkpjbakccgiaa.trustSharp
