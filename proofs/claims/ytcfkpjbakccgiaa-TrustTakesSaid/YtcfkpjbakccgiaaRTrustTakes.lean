/-
  The laws TrustForms, TrustSinces, TrustTwice over the contracts of trust's functions.
  The law TrustTakes over the contracts of trust's functions.
  For all zones, any list of stamps and any note, the law TrustTakes returns true and leaves its arguments as they were. No condition.
-/
import Derived.Test.YtcfkpjbakccgiaaG13
import Derived.Test.YtcfkpjbakccgiaaG06
import Derived.Test.YtcfkpjbakccgiaaRows
import Derived.Test.YtcfkpjbakccgiaaG26
import Derived.Test.YtcfkpjbakccgiaaG10
import Derived.Test.YtcfkpjbakccgiaaG09
import Derived.OpenShut
import Derived.WalkKit
import Derived.ProofKit
import Derived.SizedLaws
namespace Go.Proofs.Ytcfkpjbakccgiaa
open Go.RowKit

theorem Tr.take_ways (zs : List Zn) (kn : List (Int × Int)) (n : Note) : (∃ k : Int, k ≠ 0 ∧ Tr.tkR zs kn n = ([], [], k)) ∨ (Tr.tkR zs kn n = (Tr.mkTo (Tr.zof zs kn n) 256, Ve.joinL [kn, n.e], 0) ∧ Tr.fmd zs = true ∧ Ve.fmd kn = true ∧ Nt.fmd n = true ∧ Ve.cov (Ve.cnt kn) (Ve.cnt n.s) = true) := by
  by_cases h : Tr.fmd zs = true ∧ Ve.fmd kn = true ∧ Nt.fmd n = true
  · by_cases hf : Ve.cov (Ve.cnt kn) (Ve.cnt n.s) = true
    · exact .inr ⟨Tr.take_yes h.1 h.2.1 h.2.2 hf, h.1, h.2.1, h.2.2, hf⟩
    · exact .inl ⟨3, by omega, by unfold Tr.tkR; rw [if_pos h, if_neg hf]⟩
  · exact .inl ⟨1, by omega, by unfold Tr.tkR; rw [if_neg h]⟩
theorem GivesZ.same {zs : List Zn} {w w' : World} {e : Ending} (h : GivesZ zs w e w') : ∃ A c L, e = .returned (.slice A (List.length L) c) ∧ OneZ w' A c L ∧ L.map Zc.zn = zs ∧ Below w.heap.size w w' := h

set_option maxRecDepth 100000 in
set_option maxHeartbeats 12800000 in
theorem lawTForms_any (TS : TrustSpec) (A B : Option Addr) (c cb : Nat) (L : List Zc) (kn : List (Int × Int)) (o : Int) (w : World) (hz : OneZ w A c L) (hk : OneL w B cb kn) (hL : L.length * 40 ≤ 140737488355328) (hE : ∀ z ∈ L, z.l.length * 16 ≤ 140737488355328) :
    Calls Try.prog 3 #[.slice A L.length c, .slice B kn.length cb, .int .i64 o] w (Says (.bool true) w) := by
  have HZ := Lib.hid hz
  have HK := Lib.hid hk
  clear hz hk
  obtain ⟨q, hq⟩ : ∃ q, Tr.fmd (L.map Zc.zn) = q := ⟨_, rfl⟩
  have HQ := Lib.hid hq
  clear hq
  go_enter Try.func3, Try.ntmps3
  have n := talive_any TS w
  have NN := Lib.hid n
  clear n
  go_wp2_with fail
  refine NN.out.mono ?_
  clear NN
  rintro e xa ⟨rfl, b⟩
  replace HZ := Lib.hid (HZ.out.later b)
  replace HK := Lib.hid (HK.out.later b)
  have BB1 := Lib.hid (b)
  clear b
  have n := zcopy_any A c L xa HZ.out hL hE
  have NN := Lib.hid n
  clear n
  go_wp2_with fail
  refine NN.out.mono ?_
  clear NN
  intro e x0 h
  obtain ⟨A0, c0, L0, rfl, hO, hf, b⟩ := h
  replace HZ := Lib.hid (HZ.out.later b)
  replace HK := Lib.hid (HK.out.later b)
  have O0 := Lib.hid (hO)
  have HF0 := Lib.hid hf
  have BB2 := Lib.hid (below_on BB1.out b)
  clear b hO hf
  have n := TS.formed A0 c0 L0 x0 O0.out
  rw [HF0.out, HQ.out] at n
  have NN := Lib.hid n
  clear n
  go_wp2_with fail
  refine NN.out.mono ?_
  clear NN
  rintro e x1 ⟨rfl, b⟩
  replace HZ := Lib.hid (HZ.out.later b)
  replace HK := Lib.hid (HK.out.later b)
  replace O0 := Lib.hid (O0.out.later b)
  have BB3 := Lib.hid (below_on BB2.out b)
  clear b
  have n := zformed_any A c L x1 HZ.out
  rw [HQ.out] at n
  have NN := Lib.hid n
  clear n
  go_wp2_with fail
  refine NN.out.mono ?_
  clear NN
  rintro e x2 ⟨rfl, b⟩
  replace HZ := Lib.hid (HZ.out.later b)
  replace HK := Lib.hid (HK.out.later b)
  replace O0 := Lib.hid (O0.out.later b)
  have BB4 := Lib.hid (below_on BB3.out b)
  clear b
  have n := TS.blurred A0 c0 L0 x2 O0.out
  rw [HF0.out] at n
  have NN := Lib.hid n
  clear n
  go_wp2_with fail
  refine NN.out.mono ?_
  clear NN
  intro e x3 h
  obtain ⟨A3, c3, rfl, hO, b⟩ := h
  replace HZ := Lib.hid (HZ.out.later b)
  replace HK := Lib.hid (HK.out.later b)
  replace O0 := Lib.hid (O0.out.later b)
  have O3 := Lib.hid (hO)
  have BB5 := Lib.hid (below_on BB4.out b)
  clear b hO
  have n := (zblurred_any A c L x3 HZ.out).mono fun _ _ hg => GivesS.one hg
  have NN := Lib.hid n
  clear n
  go_wp2_with fail
  refine NN.out.mono ?_
  clear NN
  intro e x4 h
  obtain ⟨A4, c4, rfl, hO, b⟩ := h
  replace HZ := Lib.hid (HZ.out.later b)
  replace HK := Lib.hid (HK.out.later b)
  replace O0 := Lib.hid (O0.out.later b)
  replace O3 := Lib.hid (O3.out.later b)
  have O4 := Lib.hid (hO)
  have BB6 := Lib.hid (below_on BB5.out b)
  clear b hO
  have n := ssame_any A3 A4 c3 c4 _ _ x4 O3.out.len O3.out.stamps O4.out.stamps
  rw [decide_eq_true rfl] at n
  have NN := Lib.hid n
  clear n
  go_wp2_with fail
  refine NN.out.mono ?_
  clear NN
  rintro e x5 ⟨rfl, b⟩
  replace HZ := Lib.hid (HZ.out.later b)
  replace HK := Lib.hid (HK.out.later b)
  replace O0 := Lib.hid (O0.out.later b)
  replace O3 := Lib.hid (O3.out.later b)
  replace O4 := Lib.hid (O4.out.later b)
  have BB7 := Lib.hid (below_on BB6.out b)
  clear b
  have n := TS.reach A0 B c0 cb L0 kn o x5 O0.out HK.out
  rw [HF0.out] at n
  have NN := Lib.hid n
  clear n
  go_wp2_with fail
  refine NN.out.mono ?_
  clear NN
  intro e x6 h
  obtain ⟨A6, c6, rfl, hO, b⟩ := h
  replace HZ := Lib.hid (HZ.out.later b)
  replace HK := Lib.hid (HK.out.later b)
  replace O0 := Lib.hid (O0.out.later b)
  replace O3 := Lib.hid (O3.out.later b)
  replace O4 := Lib.hid (O4.out.later b)
  have O6 := Lib.hid (hO)
  have BB8 := Lib.hid (below_on BB7.out b)
  clear b hO
  have n := (zreach_any A B c cb L kn o x6 HZ.out HK.out).mono fun _ _ hg => Gives.one hg
  have NN := Lib.hid n
  clear n
  go_wp2_with fail
  refine NN.out.mono ?_
  clear NN
  intro e x7 h
  obtain ⟨A7, c7, rfl, hO, b⟩ := h
  replace HZ := Lib.hid (HZ.out.later b)
  replace HK := Lib.hid (HK.out.later b)
  replace O0 := Lib.hid (O0.out.later b)
  replace O3 := Lib.hid (O3.out.later b)
  replace O4 := Lib.hid (O4.out.later b)
  replace O6 := Lib.hid (O6.out.later b)
  have O7 := Lib.hid (hO)
  have BB9 := Lib.hid (below_on BB8.out b)
  clear b hO
  have n := rsame_any A6 A7 c6 c7 _ _ x7 O6.out.len O6.out.stamps O7.out.stamps
  rw [decide_eq_true rfl] at n
  have NN := Lib.hid n
  clear n
  go_wp2_with fail
  refine NN.out.mono ?_
  clear NN
  rintro e x8 ⟨rfl, b⟩
  replace HZ := Lib.hid (HZ.out.later b)
  replace HK := Lib.hid (HK.out.later b)
  replace O0 := Lib.hid (O0.out.later b)
  replace O3 := Lib.hid (O3.out.later b)
  replace O4 := Lib.hid (O4.out.later b)
  replace O6 := Lib.hid (O6.out.later b)
  replace O7 := Lib.hid (O7.out.later b)
  have BB10 := Lib.hid (below_on BB9.out b)
  clear b
  have n := zsame_any A0 A c0 c L0 L x8 O0.out HZ.out
  rw [HF0.out, decide_eq_true rfl] at n
  have NN := Lib.hid n
  clear n
  go_wp2_with fail
  refine NN.out.mono ?_
  clear NN
  rintro e x9 ⟨rfl, b⟩
  replace HZ := Lib.hid (HZ.out.later b)
  replace HK := Lib.hid (HK.out.later b)
  replace O0 := Lib.hid (O0.out.later b)
  replace O3 := Lib.hid (O3.out.later b)
  replace O4 := Lib.hid (O4.out.later b)
  replace O6 := Lib.hid (O6.out.later b)
  replace O7 := Lib.hid (O7.out.later b)
  have BB11 := Lib.hid (below_on BB10.out b)
  clear b
  go_wp2
  go_ret
  exact ⟨by first | rfl | simp, BB11.out⟩

set_option maxRecDepth 100000 in
set_option maxHeartbeats 12800000 in
theorem lawTSinces_any (TS : TrustSpec) (A B C : Option Addr) (c cb cc : Nat) (L : List Zc) (kn it : List (Int × Int)) (w : World) (hz : OneZ w A c L) (hk : OneL w B cb kn) (hi : OneL w C cc it) :
    Calls Try.prog 4 #[.slice A L.length c, .slice B kn.length cb, .slice C it.length cc] w (Says (.bool true) w) := by
  have HZ := Lib.hid hz
  have HK := Lib.hid hk
  have HI := Lib.hid hi
  clear hz hk hi
  go_enter Try.func4, Try.ntmps4
  have n := talive_any TS w
  have NN := Lib.hid n
  clear n
  go_wp2_with fail
  refine NN.out.mono ?_
  clear NN
  rintro e xa ⟨rfl, b⟩
  replace HZ := Lib.hid (HZ.out.later b)
  replace HK := Lib.hid (HK.out.later b)
  replace HI := Lib.hid (HI.out.later b)
  have BB1 := Lib.hid (b)
  clear b
  have n := TS.since A B C c cb cc L kn it xa HZ.out HK.out HI.out
  have NN := Lib.hid n
  clear n
  go_wp2_with fail
  refine NN.out.mono ?_
  clear NN
  intro e x1 h
  obtain ⟨A1, c1, rfl, hO, b⟩ := h
  replace HZ := Lib.hid (HZ.out.later b)
  replace HK := Lib.hid (HK.out.later b)
  replace HI := Lib.hid (HI.out.later b)
  have O1 := Lib.hid (hO)
  have BB2 := Lib.hid (below_on BB1.out b)
  clear b hO
  have n := (zsince_any A B C c cb cc L kn it x1 HZ.out HK.out HI.out).mono fun _ _ hg => Gives.one hg
  have NN := Lib.hid n
  clear n
  go_wp2_with fail
  refine NN.out.mono ?_
  clear NN
  intro e x2 h
  obtain ⟨A2, c2, rfl, hO, b⟩ := h
  replace HZ := Lib.hid (HZ.out.later b)
  replace HK := Lib.hid (HK.out.later b)
  replace HI := Lib.hid (HI.out.later b)
  replace O1 := Lib.hid (O1.out.later b)
  have O2 := Lib.hid (hO)
  have BB3 := Lib.hid (below_on BB2.out b)
  clear b hO
  have n := rsame_any A1 A2 c1 c2 _ _ x2 O1.out.len O1.out.stamps O2.out.stamps
  rw [decide_eq_true rfl] at n
  have NN := Lib.hid n
  clear n
  go_wp2_with fail
  refine NN.out.mono ?_
  clear NN
  rintro e x3 ⟨rfl, b⟩
  replace HZ := Lib.hid (HZ.out.later b)
  replace HK := Lib.hid (HK.out.later b)
  replace HI := Lib.hid (HI.out.later b)
  replace O1 := Lib.hid (O1.out.later b)
  replace O2 := Lib.hid (O2.out.later b)
  have BB4 := Lib.hid (below_on BB3.out b)
  clear b
  go_wp2
  go_ret
  exact ⟨by first | rfl | simp, BB4.out⟩

set_option maxRecDepth 100000 in
set_option maxHeartbeats 12800000 in
theorem lawTTwice_any (TS : TrustSpec) (A B S E Bl V : Option Addr) (c cb cs ce cl cv : Nat) (L : List Zc) (kn : List (Int × Int)) (n : Note) (w : World) (hz : OneZ w A c L) (hk : OneL w B cb kn) (hn : NoteAt w S E Bl V cs ce cl cv n) :
    Calls Try.prog 6 #[.slice A L.length c, .slice B kn.length cb, .agg (noteCells S E Bl V cs ce cl cv n)] w (Says (.bool true) w) := by
  have bn := below_new (Below.refl w.heap.size w) (.cells (noteCells S E Bl V cs ce cl cv n) 38)
  obtain ⟨W0, hW0⟩ : ∃ W0, w.alloc (.cells (noteCells S E Bl V cs ce cl cv n) 38) = W0 := ⟨_, rfl⟩
  have NB0 : Blk W0 w.heap.size 38 (noteCells S E Bl V cs ce cl cv n) := by rw [← hW0]; exact Blk.new w _ _
  rw [hW0] at bn
  have HZ := Lib.hid (hz.later bn)
  have HK := Lib.hid (hk.later bn)
  have HN := Lib.hid (hn.later bn)
  have NB := Lib.hid NB0
  have BB0 := Lib.hid bn
  have HW0 := Lib.hid hW0
  have TA := Lib.hid (talive_any TS W0)
  clear hz hk hn bn NB0 hW0
  rcases Tr.take_ways (L.map Zc.zn) kn n with ⟨k, hk1, ht⟩ | ⟨ht, hzf, hkf, hnf, hff⟩
  · have HT := Lib.hid ht
    have hk2 : (k == 0) = false := by rw [beq_eq_false_iff_ne]; exact hk1
    have hk3 : decide (k = 0) = false := decide_eq_false hk1
    clear ht
    go_enter Try.func6, Try.ntmps6
    go_wp2_with fail
    try rw [HW0.out]
    refine TA.out.mono ?_
    clear TA
    rintro e xa ⟨rfl, b⟩
    replace HZ := Lib.hid (HZ.out.later b)
    replace HK := Lib.hid (HK.out.later b)
    replace HN := Lib.hid (HN.out.later b)
    replace NB := Lib.hid (NB.out.later b)
    have BB1 := Lib.hid (below_on BB0.out b)
    clear b
    obtain ⟨y0, y1, y2, y3⟩ := note_cells NB.out
    have n := TS.take A B S E Bl V c cb cs ce cl cv L kn n xa HZ.out HK.out HN.out
    rw [HT.out] at n
    have NN := Lib.hid n
    clear n
    go_wp2_with fail
    refine NN.out.mono ?_
    clear NN
    intro e x1 h
    obtain ⟨A1, c1, L1, B1, d1, rfl, hO, hf, hB, b⟩ := h.open
    clear h
    replace HZ := Lib.hid (HZ.out.later b)
    replace HK := Lib.hid (HK.out.later b)
    replace HN := Lib.hid (HN.out.later b)
    replace NB := Lib.hid (NB.out.later b)
    have O1 := Lib.hid (hO)
    have K1 := Lib.hid (hB)
    have HF1 := Lib.hid hf
    have BB2 := Lib.hid (below_on BB1.out b)
    clear b hO hf hB
    have hL1 : L1 = [] := by have := HF1.out; cases L1 with | nil => rfl | cons a r => cases this
    subst hL1
    clear y0 y1 y2 y3
    go_wp2
    go_ret
    exact ⟨by first | rfl | simp, BB2.out⟩
  · obtain ⟨KN, hKN⟩ : ∃ x, Ve.joinL [kn, n.e] = x := ⟨_, rfl⟩
    obtain ⟨ZN, hZN⟩ : ∃ x, Tr.mkTo (Tr.zof (L.map Zc.zn) kn n) 256 = x := ⟨_, rfl⟩
    have ht2 := Tr.take_twice hzf hkf hnf hff
    have ht3 := Tr.take_still (n := n) hzf hkf
    rw [hKN, hZN] at ht ht2 ht3
    have HT := Lib.hid ht
    have HT2 := Lib.hid ht2
    have HT3 := Lib.hid ht3
    clear ht ht2 ht3 hKN hZN hzf hkf hnf hff
    go_enter Try.func6, Try.ntmps6
    go_wp2_with fail
    try rw [HW0.out]
    refine TA.out.mono ?_
    clear TA
    rintro e xa ⟨rfl, b⟩
    replace HZ := Lib.hid (HZ.out.later b)
    replace HK := Lib.hid (HK.out.later b)
    replace HN := Lib.hid (HN.out.later b)
    replace NB := Lib.hid (NB.out.later b)
    have BB1 := Lib.hid (below_on BB0.out b)
    clear b
    obtain ⟨y0, y1, y2, y3⟩ := note_cells NB.out
    have n := TS.take A B S E Bl V c cb cs ce cl cv L kn n xa HZ.out HK.out HN.out
    rw [HT.out] at n
    have NN := Lib.hid n
    clear n
    go_wp2_with fail
    refine NN.out.mono ?_
    clear NN
    intro e x1 h
    obtain ⟨A1, c1, L1, B1, d1, rfl, hO, hf, hB, b⟩ := h.open
    clear h
    replace HZ := Lib.hid (HZ.out.later b)
    replace HK := Lib.hid (HK.out.later b)
    replace HN := Lib.hid (HN.out.later b)
    replace NB := Lib.hid (NB.out.later b)
    have O1 := Lib.hid (hO)
    have K1 := Lib.hid (hB)
    have HF1 := Lib.hid hf
    have BB2 := Lib.hid (below_on BB1.out b)
    clear b hO hf hB
    clear y0 y1 y2 y3
    obtain ⟨y0, y1, y2, y3⟩ := note_cells NB.out
    have n := TS.take A1 B1 S E Bl V c1 d1 cs ce cl cv L1 KN n x1 O1.out K1.out HN.out
    rw [HF1.out, HT2.out] at n
    have NN := Lib.hid n
    clear n
    go_wp2_with fail
    refine NN.out.mono ?_
    clear NN
    intro e x2 h
    obtain ⟨A2, c2, L2, B2, d2, rfl, hO, hf, hB, b⟩ := h.open
    clear h
    replace HZ := Lib.hid (HZ.out.later b)
    replace HK := Lib.hid (HK.out.later b)
    replace HN := Lib.hid (HN.out.later b)
    replace NB := Lib.hid (NB.out.later b)
    replace O1 := Lib.hid (O1.out.later b)
    replace K1 := Lib.hid (K1.out.later b)
    have O2 := Lib.hid (hO)
    have K2 := Lib.hid (hB)
    have HF2 := Lib.hid hf
    have BB3 := Lib.hid (below_on BB2.out b)
    clear b hO hf hB
    clear y0 y1 y2 y3
    have n := TS.take A2 B2 B1 B1 none none c2 d2 d1 d1 0 0 L2 KN (Tr.still KN) x2 O2.out K2.out ⟨K1.out, K1.out, OneL.nil, OneW.nil⟩
    rw [HF2.out, HT3.out] at n
    have NN := Lib.hid n
    clear n
    go_wp2_with fail
    refine NN.out.mono ?_
    clear NN
    intro e x3 h
    obtain ⟨A3, c3, L3, B3, d3, rfl, hO, hf, hB, b⟩ := h.open
    clear h
    replace HZ := Lib.hid (HZ.out.later b)
    replace HK := Lib.hid (HK.out.later b)
    replace HN := Lib.hid (HN.out.later b)
    replace NB := Lib.hid (NB.out.later b)
    replace O1 := Lib.hid (O1.out.later b)
    replace K1 := Lib.hid (K1.out.later b)
    replace O2 := Lib.hid (O2.out.later b)
    replace K2 := Lib.hid (K2.out.later b)
    have O3 := Lib.hid (hO)
    have K3 := Lib.hid (hB)
    have HF3 := Lib.hid hf
    have BB4 := Lib.hid (below_on BB3.out b)
    clear b hO hf hB
    have n := zsame_any A1 A2 c1 c2 L1 L2 x3 O1.out O2.out
    rw [HF1.out, HF2.out, decide_eq_true rfl] at n
    have NN := Lib.hid n
    clear n
    go_wp2_with fail
    refine NN.out.mono ?_
    clear NN
    rintro e x4 ⟨rfl, b⟩
    replace HZ := Lib.hid (HZ.out.later b)
    replace HK := Lib.hid (HK.out.later b)
    replace HN := Lib.hid (HN.out.later b)
    replace NB := Lib.hid (NB.out.later b)
    replace O1 := Lib.hid (O1.out.later b)
    replace K1 := Lib.hid (K1.out.later b)
    replace O2 := Lib.hid (O2.out.later b)
    replace K2 := Lib.hid (K2.out.later b)
    replace O3 := Lib.hid (O3.out.later b)
    replace K3 := Lib.hid (K3.out.later b)
    have BB5 := Lib.hid (below_on BB4.out b)
    clear b
    have n := rsame_any B1 B2 d1 d2 _ _ x4 K1.out.len K1.out.stamps K2.out.stamps
    rw [decide_eq_true rfl] at n
    have NN := Lib.hid n
    clear n
    go_wp2_with fail
    refine NN.out.mono ?_
    clear NN
    rintro e x5 ⟨rfl, b⟩
    replace HZ := Lib.hid (HZ.out.later b)
    replace HK := Lib.hid (HK.out.later b)
    replace HN := Lib.hid (HN.out.later b)
    replace NB := Lib.hid (NB.out.later b)
    replace O1 := Lib.hid (O1.out.later b)
    replace K1 := Lib.hid (K1.out.later b)
    replace O2 := Lib.hid (O2.out.later b)
    replace K2 := Lib.hid (K2.out.later b)
    replace O3 := Lib.hid (O3.out.later b)
    replace K3 := Lib.hid (K3.out.later b)
    have BB6 := Lib.hid (below_on BB5.out b)
    clear b
    have n := zsame_any A1 A3 c1 c3 L1 L3 x5 O1.out O3.out
    rw [HF1.out, HF3.out, decide_eq_true rfl] at n
    have NN := Lib.hid n
    clear n
    go_wp2_with fail
    refine NN.out.mono ?_
    clear NN
    rintro e x6 ⟨rfl, b⟩
    replace HZ := Lib.hid (HZ.out.later b)
    replace HK := Lib.hid (HK.out.later b)
    replace HN := Lib.hid (HN.out.later b)
    replace NB := Lib.hid (NB.out.later b)
    replace O1 := Lib.hid (O1.out.later b)
    replace K1 := Lib.hid (K1.out.later b)
    replace O2 := Lib.hid (O2.out.later b)
    replace K2 := Lib.hid (K2.out.later b)
    replace O3 := Lib.hid (O3.out.later b)
    replace K3 := Lib.hid (K3.out.later b)
    have BB7 := Lib.hid (below_on BB6.out b)
    clear b
    have n := rsame_any B1 B3 d1 d3 _ _ x6 K1.out.len K1.out.stamps K3.out.stamps
    rw [decide_eq_true rfl] at n
    have NN := Lib.hid n
    clear n
    go_wp2_with fail
    refine NN.out.mono ?_
    clear NN
    rintro e x7 ⟨rfl, b⟩
    replace HZ := Lib.hid (HZ.out.later b)
    replace HK := Lib.hid (HK.out.later b)
    replace HN := Lib.hid (HN.out.later b)
    replace NB := Lib.hid (NB.out.later b)
    replace O1 := Lib.hid (O1.out.later b)
    replace K1 := Lib.hid (K1.out.later b)
    replace O2 := Lib.hid (O2.out.later b)
    replace K2 := Lib.hid (K2.out.later b)
    replace O3 := Lib.hid (O3.out.later b)
    replace K3 := Lib.hid (K3.out.later b)
    have BB8 := Lib.hid (below_on BB7.out b)
    clear b
    go_wp2
    go_ret
    exact ⟨by first | rfl | simp, BB8.out⟩
end Go.Proofs.Ytcfkpjbakccgiaa
namespace Go.Proofs.Ytcfkpjbakccgiaa
open Go.RowKit

theorem nt_cells2 {w : World} {g : Nat} {t : TypeId} {y0 y1 y2 y3 : Value} (h : Blk w g t #[y0, y1, y2, y3]) : (w.cell? ⟨g, 0, none⟩ = some y0 ∧ w.cell? ⟨g, 1, none⟩ = some y1 ∧ w.cell? ⟨g, 2, none⟩ = some y2 ∧ w.cell? ⟨g, 3, none⟩ = some y3) ∧
    (w.frozen? ⟨g, 0, none⟩ = false ∧ w.frozen? ⟨g, 1, none⟩ = false ∧ w.frozen? ⟨g, 2, none⟩ = false ∧ w.frozen? ⟨g, 3, none⟩ = false) := ⟨⟨h.cell rfl, h.cell rfl, h.cell rfl, h.cell rfl⟩, h.free 0, h.free 1, h.free 2, h.free 3⟩
theorem sameN_refl (n : Note) : sameN n n = true := (sameN_iff n n).2 rfl
theorem OwnZ.puts {w : World} {base : Nat} {v : Value} {L : List Zc} (h : OwnZ w base v L) {g : Nat} {y0 y1 y2 y3 : Value} (hB : Blk w g 38 #[y0, y1, y2, y3]) (x0 x1 x2 x3 : Value) : OwnZ ((((w.setCell ⟨g, 0, none⟩ x0).setCell ⟨g, 1, none⟩ x1).setCell ⟨g, 2, none⟩ x2).setCell ⟨g, 3, none⟩ x3) base v L :=
  have d1 : 38 ≠ 57 := by decide
  have d2 : 38 ≠ 53 := by decide
  (((h.far hB d1 d2 0 x0).far (hB.put 0 x0) d1 d2 1 x1).far ((hB.put 0 x0).put 1 x1) d1 d2 2 x2).far (((hB.put 0 x0).put 1 x1).put 2 x2) d1 d2 3 x3

set_option maxRecDepth 100000 in
set_option maxHeartbeats 12800000 in
theorem lawTTakes_any (TS : TrustSpec) (A B S E Bl V : Option Addr) (c cb cs ce cl cv : Nat) (L : List Zc) (kn : List (Int × Int)) (n : Note) (w : World) (hz : OneZ w A c L) (hk : OneL w B cb kn) (hn : NoteAt w S E Bl V cs ce cl cv n) (hL : L.length * 40 ≤ 140737488355328) (hE : ∀ z ∈ L, z.l.length * 16 ≤ 140737488355328)
    (hls : n.s.length * 16 ≤ 140737488355328) (hle : n.e.length * 16 ≤ 140737488355328) (hlb : n.b.length * 16 ≤ 140737488355328) (hlw : n.ws.length * 32 ≤ 140737488355328) :
    Calls Try.prog 5 #[.slice A L.length c, .slice B kn.length cb, .agg (noteCells S E Bl V cs ce cl cv n)] w (Says (.bool true) w) := by
  have bn := below_new (Below.refl w.heap.size w) (.cells (noteCells S E Bl V cs ce cl cv n) 38)
  obtain ⟨W0, hW0⟩ : ∃ W0, w.alloc (.cells (noteCells S E Bl V cs ce cl cv n) 38) = W0 := ⟨_, rfl⟩
  have NB0 : Blk W0 w.heap.size 38 (noteCells S E Bl V cs ce cl cv n) := by rw [← hW0]; exact Blk.new w _ _
  rw [hW0] at bn
  have HZ := Lib.hid (hz.later bn)
  have HK := Lib.hid (hk.later bn)
  have HN := Lib.hid (hn.later bn)
  have NB := Lib.hid NB0
  have BB0 := Lib.hid bn
  have HW0 := Lib.hid hW0
  have TA := Lib.hid (talive_any TS W0)
  obtain ⟨⟨ZR, KR, k⟩, hr⟩ : ∃ r, Tr.tkR (L.map Zc.zn) kn n = r := ⟨_, rfl⟩
  have HT := Lib.hid hr
  have HTF := Lib.hid (show k = 0 → Tr.fmd ZR = true from fun hk0 => by
    rcases Tr.take_ways (L.map Zc.zn) kn n with ⟨j, hj, ht⟩ | ⟨ht, hzf, hkf, -, -⟩
    · have h1 : k = j := congrArg (fun r : Tr.Ans3 => r.2.2) (hr.symm.trans ht)
      exact absurd (h1.symm.trans hk0) hj
    · have h1 : ZR = Tr.mkTo (Tr.zof (L.map Zc.zn) kn n) 256 := congrArg (fun r : Tr.Ans3 => r.1) (hr.symm.trans ht)
      rw [h1]
      exact Tr.fmd_mk (Tr.zof_fmd hzf hkf n))
  clear hz hk hn bn NB0 hW0 hr
  go_enter Try.func5, Try.ntmps5
  go_wp2_with fail
  try rw [HW0.out]
  refine TA.out.mono ?_
  clear TA
  rintro e xa ⟨rfl, b⟩
  replace HZ := Lib.hid (HZ.out.later b)
  replace HK := Lib.hid (HK.out.later b)
  replace HN := Lib.hid (HN.out.later b)
  replace NB := Lib.hid (NB.out.later b)
  have BB1 := Lib.hid (below_on BB0.out b)
  clear b
  have CZ := Lib.hid (fun wx (hb : Below xa.heap.size xa wx) => (show Calls Try.prog 10 #[.slice A L.length c] wx (fun e w' => ∃ A2 c2 M, e = .returned (.slice A2 (List.length M) c2) ∧ OwnZ w' xa.heap.size (.slice A2 M.length c2) M ∧ M.map Zc.zn = L.map Zc.zn ∧ Below wx.heap.size wx w') from by
    refine (zcopyO_any A c L wx (HZ.out.later hb) hL hE).mono ?_
    rintro e w' ⟨v, M, rfl, hO, hm, b⟩
    obtain ⟨V2, c2, rfl, -⟩ := hO.one
    exact ⟨V2, c2, M, rfl, hO.lower hb.size, hm, b⟩))
  have CN := Lib.hid (fun wx (hb : Below xa.heap.size xa wx) => show Calls Try.prog 22 #[.agg #[.slice S n.s.length cs, .slice E n.e.length ce, .slice Bl n.b.length cl, .slice V n.ws.length cv]] wx (AnsN n wx) from ncopy_any S E Bl V cs ce cl cv n wx hls hle hlb hlw (HN.out.later hb))
  have P0 := Lib.hid (note_cells NB.out).1
  have P1 := Lib.hid (note_cells NB.out).2.1
  have P2 := Lib.hid (note_cells NB.out).2.2.1
  have P3 := Lib.hid (note_cells NB.out).2.2.2
  go_upto_region 3 with (fail)
  refine wp_region_facts 6 (by kernel_rfl) (by kernel_rfl)
    (fun v => { tmps := #[.slice A L.length c, .slice B kn.length cb, .agg (noteCells S E Bl V cs ce cl cv n), undef, undef, .pointer (some ⟨w.heap.size, 0, none⟩), .bool false, v 5, v 4, undef, undef, undef, undef, undef, undef, .bool true, .bool false, v 0, v 1, v 2, v 3, undef, undef, undef, undef, undef, undef, undef, undef, undef, undef, undef, undef, undef, undef, undef, undef, undef, undef, undef, undef, undef, undef, undef, undef, undef, undef, undef, undef, undef, undef, undef, undef, undef, undef, undef, undef, undef, undef, undef, undef, undef, undef, undef, undef, undef, undef, undef], defers := [] }) (fun _ => undef)
    (fun i_ x_ wx => match i_ with
      | 0 => x_ = .slice A L.length c
      | 1 => ∃ A0 c0 L0, x_ = .slice A0 (List.length L0) c0 ∧ OwnZ wx xa.heap.size (.slice A0 L0.length c0) L0 ∧ L0.map Zc.zn = L.map Zc.zn
      | 2 => x_ = .agg #[.slice S n.s.length cs, .slice E n.e.length ce, .slice Bl n.b.length cl, .slice V n.ws.length cv]
      | 3 => ∃ S2 E2 B2 V2 s2 e2 b2 v2, x_ = .agg (noteCells S2 E2 B2 V2 s2 e2 b2 v2 n) ∧ NoteAt wx S2 E2 B2 V2 s2 e2 b2 v2 n
      | 4 => ∃ g, x_ = .pointer (some ⟨g, 0, none⟩) ∧ Blk wx g 38 #[.slice none 0 0, .slice none 0 0, .slice none 0 0, .slice none 0 0] ∧ xa.heap.size ≤ g
      | 5 => ∃ A0 c0 L0, x_ = .slice A0 (List.length L0) c0 ∧ OwnZ wx xa.heap.size (.slice A0 L0.length c0) L0 ∧ L0.map Zc.zn = L.map Zc.zn
      | _ => True)
    (fun w1 w2 => Below w1.heap.size w1 w2) (fun h1 h2 => below_on h1 h2) (fun _ => Below.refl _ _) (Below.drew (Below.refl _ _)) ?stab ?step ?done
  case stab =>
    rintro i_ x_ w1 w2 h hb
    match i_, h with
    | 0, h => exact h
    | 1, h => obtain ⟨A0, c0, L0, h1, h2, h3⟩ := h; exact ⟨A0, c0, L0, h1, h2.later hb, h3⟩
    | 2, h => exact h
    | 3, h => obtain ⟨S2, E2, B2, V2, s2, e2, b2, v2, h1, h2⟩ := h; exact ⟨S2, E2, B2, V2, s2, e2, b2, v2, h1, h2.later hb⟩
    | 4, h => obtain ⟨g, h1, h2, h3⟩ := h; exact ⟨g, h1, h2.later hb, h3⟩
    | 5, h => obtain ⟨A0, c0, L0, h1, h2, h3⟩ := h; exact ⟨A0, c0, L0, h1, h2.later hb, h3⟩
    | i_ + 6, _ => trivial
  case step =>
    intro i_ hi_ v w' hb hd
    match i_, hi_ with
    | 0, _ =>
      refine wpOp_one rfl ?_
      clear hd
      go_wp2
      first | exact ⟨_, (by simp [upd]; done), Below.refl _ _, rfl⟩ | exact ⟨(by simp [upd]; done), Below.refl _ _⟩
    | 1, _ =>
      have h0 : v 0 = _ := hd 0 (List.elem_iff.1 (by kernel_rfl))
      refine wpOp_one rfl ?_
      clear hd
      rw [h0]
      have CL := CZ.out w' hb
      clear CZ CN
      go_wp2_with fail
      refine CL.mono ?_
      rintro e w'' ⟨A0, c0, L0, rfl, ho, hm, b2⟩
      go_wp2
      exact ⟨_, (by simp [upd, h0]; done), b2, A0, c0, L0, rfl, ho, hm⟩
    | 2, _ =>
      refine wpOp_one rfl ?_
      clear hd
      have q0 := cell_later hb P0.out
      have q1 := cell_later hb P1.out
      have q2 := cell_later hb P2.out
      have q3 := cell_later hb P3.out
      go_wp2
      first | exact ⟨_, (by simp [upd]; done), Below.refl _ _, rfl⟩ | exact ⟨(by simp [upd]; done), Below.refl _ _⟩
    | 3, _ =>
      have h2 : v 2 = _ := hd 2 (List.elem_iff.1 (by kernel_rfl))
      refine wpOp_one rfl ?_
      clear hd
      rw [h2]
      have CL := CN.out w' hb
      clear CZ CN
      go_wp2_with fail
      refine CL.mono ?_
      rintro e w'' ⟨S2, E2, B2, V2, s2, e2, b2, v2, rfl, ho, bb⟩
      go_wp2
      exact ⟨_, (by simp [upd, h2]; done), bb, S2, E2, B2, V2, s2, e2, b2, v2, rfl, ho⟩
    | 4, _ =>
      refine wpOp_one rfl ?_
      clear hd
      have hbn := below_new (Below.refl w'.heap.size w') (.cells #[.slice none 0 0, .slice none 0 0, .slice none 0 0, .slice none 0 0] 38)
      have KK := Lib.hid (Blk.new w' 38 #[.slice none 0 0, .slice none 0 0, .slice none 0 0, .slice none 0 0])
      have hz := hb.size
      go_wp2
      exact ⟨_, (by simp [upd]; done), hbn, w'.heap.size, rfl, KK.out, hz⟩
    | 5, _ =>
      obtain ⟨X1, c1', M1, h1, o1, m1⟩ := hd 1 (List.elem_iff.1 (by kernel_rfl))
      refine wpOp_one rfl ?_
      clear hd
      rw [h1]
      go_wp2
      exact ⟨_, (by simp [upd, h1]; done), Below.refl _ _, X1, c1', M1, rfl, o1, m1⟩
  case done =>
    intro v w' hb hf
    obtain ⟨A0, c0, L0, h1, hO, hm⟩ := hf 1 (by omega)
    obtain ⟨S2, E2, B2, V2, s2, e2, b2, v2, h3, hNN⟩ := hf 3 (by omega)
    obtain ⟨g, h4, q4, l4⟩ := hf 4 (by omega)
    have h5 : ∃ A0 c0 L0, v 5 = .slice A0 (List.length L0) c0 ∧ OwnZ w' xa.heap.size (.slice A0 L0.length c0) L0 ∧ L0.map Zc.zn = L.map Zc.zn := hf 5 (by omega)
    clear hf h1 hO hm
    obtain ⟨A0, c0, L0, h5, hO, hm⟩ := h5
    simp only [List.drop_succ_cons, List.drop_zero]
    rw [h3, h4, h5]
    clear h3 h4 h5
    obtain ⟨⟨m0, m1, m2, m3⟩, f0, f1, f2, f3⟩ := nt_cells2 q4
    have hO2 := hO.puts q4 (.slice S2 n.s.length s2) (.slice E2 n.e.length e2) (.slice B2 n.b.length b2) (.slice V2 n.ws.length v2)
    have hN2 := hNN.puts q4 ⟨rfl, rfl, rfl, rfl⟩ (.slice S2 n.s.length s2) (.slice E2 n.e.length e2) (.slice B2 n.b.length b2) (.slice V2 n.ws.length v2) ⟨rfl, rfl, rfl⟩
    have q5 : Blk _ g 38 (noteCells S2 E2 B2 V2 s2 e2 b2 v2 n) := (((q4.put 0 (.slice S2 n.s.length s2)).put 1 (.slice E2 n.e.length e2)).put 2 (.slice B2 n.b.length b2)).put 3 (.slice V2 n.ws.length v2)
    have hb2 : Below xa.heap.size xa ((((w'.setCell ⟨g, 0, none⟩ (.slice S2 n.s.length s2)).setCell ⟨g, 1, none⟩ (.slice E2 n.e.length e2)).setCell ⟨g, 2, none⟩ (.slice B2 n.b.length b2)).setCell ⟨g, 3, none⟩ (.slice V2 n.ws.length v2)) := (((hb.setCell (p := ⟨g, 0, none⟩) l4 _).setCell (p := ⟨g, 1, none⟩) l4 _).setCell (p := ⟨g, 2, none⟩) l4 _).setCell (p := ⟨g, 3, none⟩) l4 _
    obtain ⟨VO, co, hvo, hO3⟩ := hO2.one
    injection hvo with hvo1 _ hvo2
    subst hvo1 hvo2
    have HO0 := Lib.hid hO3
    have HM0 := Lib.hid hm
    have HMN := Lib.hid hN2
    have HQ := Lib.hid q5
    have HB2 := Lib.hid hb2
    clear hO hO2 hO3 hm hNN hN2 q4 q5 hb2 hb CZ CN P0 P1 P2 P3
    rw [show noteCells S2 E2 B2 V2 s2 e2 b2 v2 n = #[.slice S2 n.s.length s2, .slice E2 n.e.length e2, .slice B2 n.b.length b2, .slice V2 n.ws.length v2] from rfl]
    go_upto_region 4 with (fail)
    obtain ⟨W5, hW5⟩ : ∃ W5, (((w'.setCell ⟨g, 0, none⟩ (.slice S2 n.s.length s2)).setCell ⟨g, 1, none⟩ (.slice E2 n.e.length e2)).setCell ⟨g, 2, none⟩ (.slice B2 n.b.length b2)).setCell ⟨g, 3, none⟩ (.slice V2 n.ws.length v2) = W5 := ⟨_, rfl⟩
    rw [hW5] at HO0 HMN HQ HB2 ⊢
    clear hW5 m0 m1 m2 m3 f0 f1 f2 f3
    replace HZ := Lib.hid (HZ.out.later HB2.out)
    replace HK := Lib.hid (HK.out.later HB2.out)
    replace HN := Lib.hid (HN.out.later HB2.out)
    replace NB := Lib.hid (NB.out.later HB2.out)
    have BB2 := Lib.hid (below_on BB1.out HB2.out)
    clear HB2
    obtain ⟨y0, y1, y2, y3⟩ := note_cells HQ.out
    have n := TS.take A0 B S2 E2 B2 V2 c0 cb s2 e2 b2 v2 L0 kn n W5 HO0.out HK.out HMN.out
    rw [HM0.out, HT.out] at n
    have NN := Lib.hid n
    clear n
    go_wp2_with fail
    refine NN.out.mono ?_
    clear NN
    intro e x1 h
    obtain ⟨A1, c1, L1, B1, d1, rfl, hO, hf, hB, b⟩ := h.open
    clear h
    replace HZ := Lib.hid (HZ.out.later b)
    replace HK := Lib.hid (HK.out.later b)
    replace HN := Lib.hid (HN.out.later b)
    replace NB := Lib.hid (NB.out.later b)
    replace HO0 := Lib.hid (HO0.out.later b)
    replace HMN := Lib.hid (HMN.out.later b)
    replace HQ := Lib.hid (HQ.out.later b)
    have O1 := Lib.hid (hO)
    have K1 := Lib.hid (hB)
    have HF1 := Lib.hid hf
    have BB3 := Lib.hid (below_on BB2.out b)
    clear b hO hf hB
    clear y0 y1 y2 y3
    obtain ⟨y0, y1, y2, y3⟩ := note_cells NB.out
    have n := ztake_any A B S E Bl V c cb cs ce cl cv L kn n x1 HZ.out HK.out HN.out
    rw [HT.out] at n
    have NN := Lib.hid n
    clear n
    go_wp2_with fail
    refine NN.out.mono ?_
    clear NN
    intro e x2 h
    obtain ⟨A2, c2, L2, B2x, d2, rfl, hO, hf, hB, b⟩ := h.open
    clear h
    replace HZ := Lib.hid (HZ.out.later b)
    replace HK := Lib.hid (HK.out.later b)
    replace HN := Lib.hid (HN.out.later b)
    replace NB := Lib.hid (NB.out.later b)
    replace HO0 := Lib.hid (HO0.out.later b)
    replace HMN := Lib.hid (HMN.out.later b)
    replace HQ := Lib.hid (HQ.out.later b)
    replace O1 := Lib.hid (O1.out.later b)
    replace K1 := Lib.hid (K1.out.later b)
    have O2 := Lib.hid (hO)
    have K2 := Lib.hid (hB)
    have HF2 := Lib.hid hf
    have BB4 := Lib.hid (below_on BB3.out b)
    clear b hO hf hB
    clear y0 y1 y2 y3
    have n := zsame_any A1 A2 c1 c2 L1 L2 x2 O1.out O2.out
    rw [HF1.out, HF2.out, decide_eq_true rfl] at n
    have NN := Lib.hid n
    clear n
    go_wp2_with fail
    refine NN.out.mono ?_
    clear NN
    rintro e x3 ⟨rfl, b⟩
    replace HZ := Lib.hid (HZ.out.later b)
    replace HK := Lib.hid (HK.out.later b)
    replace HN := Lib.hid (HN.out.later b)
    replace NB := Lib.hid (NB.out.later b)
    replace HO0 := Lib.hid (HO0.out.later b)
    replace HMN := Lib.hid (HMN.out.later b)
    replace HQ := Lib.hid (HQ.out.later b)
    replace O1 := Lib.hid (O1.out.later b)
    replace K1 := Lib.hid (K1.out.later b)
    replace O2 := Lib.hid (O2.out.later b)
    replace K2 := Lib.hid (K2.out.later b)
    have BB5 := Lib.hid (below_on BB4.out b)
    clear b
    have n := rsame_any B1 B2x d1 d2 _ _ x3 K1.out.len K1.out.stamps K2.out.stamps
    rw [decide_eq_true rfl] at n
    have NN := Lib.hid n
    clear n
    go_wp2_with fail
    refine NN.out.mono ?_
    clear NN
    rintro e x4 ⟨rfl, b⟩
    replace HZ := Lib.hid (HZ.out.later b)
    replace HK := Lib.hid (HK.out.later b)
    replace HN := Lib.hid (HN.out.later b)
    replace NB := Lib.hid (NB.out.later b)
    replace HO0 := Lib.hid (HO0.out.later b)
    replace HMN := Lib.hid (HMN.out.later b)
    replace HQ := Lib.hid (HQ.out.later b)
    replace O1 := Lib.hid (O1.out.later b)
    replace K1 := Lib.hid (K1.out.later b)
    replace O2 := Lib.hid (O2.out.later b)
    replace K2 := Lib.hid (K2.out.later b)
    have BB6 := Lib.hid (below_on BB5.out b)
    clear b
    have n := zsame_any A0 A c0 c L0 L x4 HO0.out HZ.out
    rw [HM0.out, decide_eq_true rfl] at n
    have NN := Lib.hid n
    clear n
    go_wp2_with fail
    refine NN.out.mono ?_
    clear NN
    rintro e x5 ⟨rfl, b⟩
    replace HZ := Lib.hid (HZ.out.later b)
    replace HK := Lib.hid (HK.out.later b)
    replace HN := Lib.hid (HN.out.later b)
    replace NB := Lib.hid (NB.out.later b)
    replace HO0 := Lib.hid (HO0.out.later b)
    replace HMN := Lib.hid (HMN.out.later b)
    replace HQ := Lib.hid (HQ.out.later b)
    replace O1 := Lib.hid (O1.out.later b)
    replace K1 := Lib.hid (K1.out.later b)
    replace O2 := Lib.hid (O2.out.later b)
    replace K2 := Lib.hid (K2.out.later b)
    have BB7 := Lib.hid (below_on BB6.out b)
    clear b
    obtain ⟨y0, y1, y2, y3⟩ := note_cells NB.out
    obtain ⟨z0, z1, z2, z3⟩ := note_cells HQ.out
    have n := nsame_any S2 E2 B2 V2 S E Bl V s2 e2 b2 v2 cs ce cl cv n n x5 HMN.out HN.out
    rw [sameN_refl] at n
    have NN := Lib.hid n
    clear n
    go_wp2_with fail
    refine NN.out.mono ?_
    clear NN
    rintro e x6 ⟨rfl, b⟩
    replace HZ := Lib.hid (HZ.out.later b)
    replace HK := Lib.hid (HK.out.later b)
    replace HN := Lib.hid (HN.out.later b)
    replace NB := Lib.hid (NB.out.later b)
    replace HO0 := Lib.hid (HO0.out.later b)
    replace HMN := Lib.hid (HMN.out.later b)
    replace HQ := Lib.hid (HQ.out.later b)
    replace O1 := Lib.hid (O1.out.later b)
    replace K1 := Lib.hid (K1.out.later b)
    replace O2 := Lib.hid (O2.out.later b)
    replace K2 := Lib.hid (K2.out.later b)
    have BB8 := Lib.hid (below_on BB7.out b)
    clear b
    clear y0 y1 y2 y3 z0 z1 z2 z3
    by_cases hk0 : k = 0
    · have hzf := HTF.out hk0
      have HZR := Lib.hid hzf
      subst hk0
      clear hzf
      have n := TS.formed A1 c1 L1 x6 O1.out
      rw [HF1.out, HZR.out] at n
      have NN := Lib.hid n
      clear n
      go_wp2_with fail
      refine NN.out.mono ?_
      clear NN
      rintro e x7 ⟨rfl, b⟩
      replace HZ := Lib.hid (HZ.out.later b)
      replace HK := Lib.hid (HK.out.later b)
      replace HN := Lib.hid (HN.out.later b)
      replace NB := Lib.hid (NB.out.later b)
      replace HO0 := Lib.hid (HO0.out.later b)
      replace HMN := Lib.hid (HMN.out.later b)
      replace HQ := Lib.hid (HQ.out.later b)
      replace O1 := Lib.hid (O1.out.later b)
      replace K1 := Lib.hid (K1.out.later b)
      replace O2 := Lib.hid (O2.out.later b)
      replace K2 := Lib.hid (K2.out.later b)
      have BB9 := Lib.hid (below_on BB8.out b)
      clear b
      go_wp2
      go_ret
      exact ⟨by first | rfl | simp, BB9.out⟩
    · have hk2 : (k == 0) = false := by rw [beq_eq_false_iff_ne]; exact hk0
      have hk3 : decide (k = 0) = false := decide_eq_false hk0
      go_wp2
      go_ret
      exact ⟨by first | rfl | simp, BB8.out⟩
end Go.Proofs.Ytcfkpjbakccgiaa
namespace Go.Proofs.Ytcfkpjbakccgiaa.trustTakes
open Go.ChangeShapes Go.WideShapes Go.ChangeAt Go.RowKit

theorem cellsStamp : Try.prog.cellsOf 53 = 2 := by kernel_rfl
theorem bytesStamp : Try.prog.bytesOf 53 = 16 := by kernel_rfl
theorem cellsSpan : Try.prog.cellsOf 55 = 2 := by kernel_rfl
theorem bytesSpan : Try.prog.bytesOf 55 = 16 := by kernel_rfl
theorem cellsWrite : Try.prog.cellsOf 102 = 4 := by kernel_rfl
theorem bytesWrite : Try.prog.bytesOf 102 = 32 := by kernel_rfl
theorem stampE {H : Type} {enc : TypeId × Value → H} {w : World} (fuel : Nat) (cs : List Value) (x : DataW H × List MemPlace) (h : DataW.trod enc Try.prog w 0 (fun _ => true) true fuel 53 cs = some x) : ∃ a, cs = stCell a := by
  obtain ⟨c, n, rfl, _⟩ := stamp_cells Try.underlying53 (by kernel_rfl) (by kernel_rfl) rfl rfl Try.underlying3 h
  exact ⟨(c, n), rfl⟩
theorem spanE {H : Type} {enc : TypeId × Value → H} {w : World} (fuel : Nat) (cs : List Value) (x : DataW H × List MemPlace) (h : DataW.trod enc Try.prog w 0 (fun _ => true) true fuel 55 cs = some x) : ∃ a, cs = stCell a := by
  obtain ⟨c, n, rfl, _⟩ := stamp_cells Try.underlying55 (by kernel_rfl) (by kernel_rfl) rfl rfl Try.underlying3 h
  exact ⟨(c, n), rfl⟩
theorem writeE {H : Type} {enc : TypeId × Value → H} {w : World} (fuel : Nat) (cs : List Value) (x : DataW H × List MemPlace) (h : DataW.trod enc Try.prog w 0 (fun _ => true) true fuel 102 cs = some x) : ∃ a, cs = Nt.wrCell a :=
  write_cells Try.underlying102 (by kernel_rfl) (by kernel_rfl) rfl (by kernel_rfl) rfl (by kernel_rfl) rfl Try.underlying53 (by kernel_rfl) rfl rfl Try.underlying3 Try.underlying3 Try.underlying4 h
theorem own : ownKnob Try.prog.godebug = none := by kernel_rfl
theorem laidOut : laidOutB Try.prog = true := by kernel_rfl
theorem reads : ∀ t ∈ Try.f5.params.toList, Try.prog.readableRec t = true ∧ t < Try.prog.types.size := by
  intro t ht
  rw [Try.params5] at ht
  have : t = 22 ∨ t = 23 ∨ t = 38 := by simpa using ht
  rcases this with rfl | rfl | rfl <;> exact ⟨by kernel_rfl, of_decide_eq_true (by kernel_rfl)⟩

set_option maxRecDepth 100000 in
theorem lifted (os : Os) (started : os.Started) (H : Type) (enc : TypeId × Value → H) :
    ReturnsInHanded {} Try.checked os 5 .any (Rows.trustTakesSpec.pre6 enc Try.prog Try.f5 Rows.trustTakesRow.domain false) (Rows.trustTakesSpec.post enc Try.prog Try.f5 false true false false) := by
  refine returnsInHanded_of_change_sized (C := Try.checked) own started (by kernel_rfl) Try.func5
    (ChangeSpec.witness6 (enc := enc) (C := Try.checked) false ⟨#[], #[.slice none 0 0, .slice none 0 0, .agg #[.slice none 0 0, .slice none 0 0, .slice none 0 0, .slice none 0 0]], []⟩ 8 (by kernel_rfl) (by kernel_rfl) (by kernel_rfl) (by kernel_rfl)) ?_
  intro W base args ds gs before hval0 hW _ hsz0 _
  have hval : ∀ (j : Nat) t v, Try.f5.params[j]? = some t → args[j]? = some v → Value.okWide Try.prog W .any base t v := hval0
  have hsz : (DataW.weightsEach Try.prog (Try.f5.params.toList ++ Rows.trustTakesSpec.plain.varTypes Try.prog) (ds ++ gs)).all (· ≤ reachBytes) = true := hsz0
  have hW' := hW
  obtain ⟨p, q, hA0, hV, rfl, hfz, hnd⟩ := hW
  have hA : DataW.TrodAll enc Try.prog W 0 (fun _ => true) true Try.f5.params.toList args.toList ds p := hA0
  rw [Try.params5] at hA hval hsz
  obtain ⟨v0, vs0, d0, ds0, p0, q0, hargs, rfl, rfl, h0, r0⟩ := trodAll_cons hA
  obtain ⟨v1, vs1, d1, ds1, p1, q1, rfl, rfl, rfl, h1, r1⟩ := trodAll_cons r0
  obtain ⟨v2, vs2, d2, ds2, p2, q2, rfl, rfl, rfl, h2, r2⟩ := trodAll_cons r1
  obtain ⟨rfl, rfl, rfl⟩ := trodAll_nil r2
  obtain rfl : args = #[v0, v1, v2] := by cases args; simp_all
  obtain ⟨rfl, rfl⟩ := trodVars_none hV
  obtain ⟨A0, c0, L0, rfl, o0, g0⟩ := open_zones (hval 0 22 v0 rfl rfl) h0
  have z0 := fit_zones hsz (j := 0) rfl rfl g0
  obtain ⟨A1, cap1, l1, rfl, hc1, hm1, hn1, hl1, _, hd1⟩ := open_stamps Try.underlying23 Try.underlying53 (by kernel_rfl) cellsStamp rfl rfl Try.underlying3 (hval 1 23 v1 rfl rfl) h1
  have o1 : OneL W A1 cap1 l1 := ⟨hc1, hm1, hn1, hl1⟩
  obtain ⟨S2, E2, B2, V2, cs2, ce2, cb2, cv2, n2, rfl, o2, x20, x21, x22, x23, rfl, m20, m21, m22, m23⟩ := open_note Try.underlying38 (by kernel_rfl) (by kernel_rfl) Try.underlying23 Try.underlying23 Try.underlying28 Try.underlying36 (by kernel_rfl) (by kernel_rfl) (by kernel_rfl) stampE spanE writeE (hval 2 38 v2 rfl rfl) h2
  have z2s : n2.s.length * 16 ≤ 140737488355328 := by
    have := sized_field hsz (j := 2) (t := 38) rfl rfl Try.underlying38 (i := 0) (tf := 23) (e := 53) rfl rfl Try.underlying23 m20
    rw [bytesStamp] at this
    simp only [reachBytes] at this
    omega
  have z2e : n2.e.length * 16 ≤ 140737488355328 := by
    have := sized_field hsz (j := 2) (t := 38) rfl rfl Try.underlying38 (i := 1) (tf := 23) (e := 53) rfl rfl Try.underlying23 m21
    rw [bytesStamp] at this
    simp only [reachBytes] at this
    omega
  have z2b : n2.b.length * 16 ≤ 140737488355328 := by
    have := sized_field hsz (j := 2) (t := 38) rfl rfl Try.underlying38 (i := 2) (tf := 28) (e := 55) rfl rfl Try.underlying28 m22
    rw [bytesSpan] at this
    simp only [reachBytes] at this
    omega
  have z2w : n2.ws.length * 32 ≤ 140737488355328 := by
    have := sized_field hsz (j := 2) (t := 38) rfl rfl Try.underlying38 (i := 3) (tf := 36) (e := 102) rfl rfl Try.underlying36 m23
    rw [bytesWrite] at this
    simp only [reachBytes] at this
    omega
  clear hA0 hval0 hsz hsz0
  refine (lawTTakes_any trustSpec A0 A1 S2 E2 B2 V2 c0 cap1 cs2 ce2 cb2 cv2 L0 l1 n2 W o0 o1 o2 z0.1 z0.2 z2s z2e z2b z2w).mono fun e W' ⟨he, hg⟩ => ?_
  subst he
  exact ⟨_, rfl, law_post laidOut hW' rfl rfl (by kernel_rfl) Try.underlying4 reads hg⟩

theorem over : Rows.trustTakesRow.holds Try.pinned (OpenSpec.ofChange Rows.trustTakesSpec) :=
  OpenClaim.holds_of_wide 5 Try.f5 rfl rfl rfl rfl rfl rfl rfl ⟨rfl, rfl, rfl, rfl, rfl⟩ rfl rfl rfl rfl rfl (by kernel_rfl) Try.func5 (by kernel_rfl)
    (of_decide_eq_true (by kernel_rfl)) (by unfold Func.isWrapper; first | (rw [if_pos (by decide +kernel)]; kernel_rfl) | (rw [if_neg (by decide +kernel)]; exact ⟨rfl, rfl⟩))
    (fun os started H enc _ => lifted os started H enc)

/-- The statement. -/
theorem proved : Rows.TrustTakesSaid :=
  over

end Go.Proofs.Ytcfkpjbakccgiaa.trustTakes
