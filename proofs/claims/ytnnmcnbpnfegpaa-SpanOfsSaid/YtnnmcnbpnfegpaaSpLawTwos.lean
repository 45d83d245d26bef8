/-
  SpanTwos walked from span's contracts.
-/
import Derived.Test.YtnnmcnbpnfegpaaSpLawForms
namespace Go.Proofs.Ytnnmcnbpnfegpaa
open Go.RowKit

theorem ssame_self (A B : Option Addr) (c d : Nat) (l : List (Int × Int)) (w : World) (h1 : OneL w A c l) (h2 : OneL w B d l) :
    Calls Try.prog 17 #[.slice A l.length c, .slice B l.length d] w (Says (.bool true) w) := by
  have q := ssame_any A B c d l l w h1.len h1.stamps h2.stamps
  rw [decide_eq_true rfl] at q
  exact q

set_option maxRecDepth 100000 in
set_option maxHeartbeats 3200000 in
theorem lawTwos_any (S : SpanSpec) (A B : Option Addr) (c d : Nat) (l r : List (Int × Int)) (w : World) (hl : l.length * 16 ≤ 140737488355328) (hr : r.length * 16 ≤ 140737488355328) (h1 : OneL w A c l) (h2 : OneL w B d r) :
    Calls Try.prog 6 #[.slice A l.length c, .slice B r.length d] w (Says (.bool true) w) := by
  have N0 := Lib.hid (salive_any S w)
  have N1 := Lib.hid (fun wx (hx : OneL wx A c l) => scopy_any A c l wx hl hx.2.2.1 hx.2.2.2)
  have N2 := Lib.hid (fun wx (hx : OneL wx B d r) => scopy_any B d r wx hr hx.2.2.1 hx.2.2.2)
  have HA := Lib.hid h1
  have HB := Lib.hid h2
  clear h1 h2
  go_enter Try.func6, Try.ntmps6
  go_wp2_with fail
  refine N0.out.mono ?_
  rintro e w1 ⟨rfl, b1⟩
  have HA := Lib.hid (HA.out.later b1)
  have HB := Lib.hid (HB.out.later b1)
  clear N0
  go_wp2_with fail
  refine (N1.out _ HA.out).mono ?_
  rintro e w2 hg
  obtain ⟨X, cx, rfl, hx, b2⟩ := hg.ans
  have hb2 := below_on b1 b2
  have HA := Lib.hid (HA.out.later b2)
  have HB := Lib.hid (HB.out.later b2)
  have HX := Lib.hid hx
  clear hg hx N1
  go_wp2_with fail
  refine (N2.out _ HB.out).mono ?_
  rintro e w3 hg
  obtain ⟨Y, cy, rfl, hy, b3⟩ := hg.ans
  have hb3 := below_on hb2 b3
  have HA := Lib.hid (HA.out.later b3)
  have HB := Lib.hid (HB.out.later b3)
  have HX := Lib.hid (HX.out.later b3)
  have HY := Lib.hid hy
  clear hg hy N2
  have M0 := Lib.hid (fun wx (bb : Below w3.heap.size w3 wx) => S.meet X Y cx cy l r wx (HX.out.later bb) (HY.out.later bb))
  have L0 := Lib.hid (fun wx (bb : Below w3.heap.size w3 wx) => S.less X Y cx cy l r wx (HX.out.later bb) (HY.out.later bb))
  have M1 := Lib.hid (fun wx (bb : Below w3.heap.size w3 wx) => smeet_any A B c d l r wx (HA.out.later bb) (HB.out.later bb))
  have L1 := Lib.hid (fun wx (bb : Below w3.heap.size w3 wx) => sless_any A B c d l r wx (HA.out.later bb) (HB.out.later bb))
  have Q0 := Lib.hid (fun wx (bb : Below w3.heap.size w3 wx) => (show Calls Try.prog 26 #[.slice X l.length cx, .slice Y r.length cy] wx (Says (.bool (Sp.cov (Sp.inL l) (Sp.inL r))) wx) from S.covers X Y cx cy l r wx (HX.out.later bb) (HY.out.later bb)))
  have Q1 := Lib.hid (fun wx (bb : Below w3.heap.size w3 wx) => (show Calls Try.prog 27 #[.slice A l.length c, .slice B r.length d] wx (Says (.bool (Sp.cov (Sp.inL l) (Sp.inL r))) wx) from scovers_any A B c d l r wx (HA.out.later bb) (HB.out.later bb)))
  have Q2 := Lib.hid (fun wx (bb : Below w3.heap.size w3 wx) => (show Calls Try.prog 28 #[.slice X l.length cx, .slice Y r.length cy] wx (Says (.bool (Sp.touch (Sp.inL l) (Sp.inL r))) wx) from S.touch X Y cx cy l r wx (HX.out.later bb) (HY.out.later bb)))
  have Q3 := Lib.hid (fun wx (bb : Below w3.heap.size w3 wx) => (show Calls Try.prog 29 #[.slice A l.length c, .slice B r.length d] wx (Says (.bool (Sp.touch (Sp.inL l) (Sp.inL r))) wx) from stouch_any A B c d l r wx (HA.out.later bb) (HB.out.later bb)))
  have Q4 := Lib.hid (fun wx (bb : Below w3.heap.size w3 wx) => (show Calls Try.prog 17 #[.slice X l.length cx, .slice A l.length c] wx (Says (.bool true) wx) from ssame_self X A cx c l wx (HX.out.later bb) (HA.out.later bb)))
  have Q5 := Lib.hid (fun wx (bb : Below w3.heap.size w3 wx) => (show Calls Try.prog 17 #[.slice Y r.length cy, .slice B r.length d] wx (Says (.bool true) wx) from ssame_self Y B cy d r wx (HY.out.later bb) (HB.out.later bb)))
  obtain ⟨m, hm⟩ : ∃ m, Sp.meetS l r = m := ⟨_, rfl⟩
  obtain ⟨q, hq⟩ : ∃ q, Sp.lessS l r = q := ⟨_, rfl⟩
  obtain ⟨x1, hx1⟩ : ∃ x, Sp.cov (Sp.inL l) (Sp.inL r) = x := ⟨_, rfl⟩
  obtain ⟨x2, hx2⟩ : ∃ x, Sp.touch (Sp.inL l) (Sp.inL r) = x := ⟨_, rfl⟩
  rw [hm] at M0 M1
  rw [hq] at L0 L1
  rw [hx1] at Q0 Q1
  rw [hx2] at Q2 Q3
  clear hm hq hx1 hx2 HA HB HX HY
  go_wp2_with fail
  refine (M0.out _ (Below.refl _ _)).mono ?_
  rintro e w4 ⟨D1, k1, rfl, hm, bb4⟩
  have HM := Lib.hid hm
  clear hm M0
  go_wp2_with fail
  refine (L0.out _ bb4).mono ?_
  rintro e w5 ⟨D2, k2, rfl, hq, b5⟩
  have bb5 := below_on bb4 b5
  have HM := Lib.hid (HM.out.later b5)
  have HQ := Lib.hid hq
  clear hq L0
  go_wp2_with fail
  refine (M1.out _ bb5).mono ?_
  rintro e w6 hg
  obtain ⟨D3, k3, rfl, hm, b6⟩ := hg.ans
  have bb6 := below_on bb5 b6
  have HS := Lib.hid (ssame_self D1 D3 k1 k3 m w6 (HM.out.later b6) hm)
  have HQ := Lib.hid (HQ.out.later b6)
  clear hg hm M1 HM
  go_wp2_with fail
  refine HS.out.mono ?_
  rintro e w7 ⟨rfl, b7⟩
  have bb7 := below_on bb6 b7
  have HQ := Lib.hid (HQ.out.later b7)
  clear HS
  go_wp2_with fail
  refine (L1.out _ bb7).mono ?_
  rintro e w8 hg
  obtain ⟨D4, k4, rfl, hq, b8⟩ := hg.ans
  have bb8 := below_on bb7 b8
  have HS := Lib.hid (ssame_self D2 D4 k2 k4 q w8 (HQ.out.later b8) hq)
  clear hg hq L1 HQ
  go_wp2_with fail
  refine HS.out.mono ?_
  rintro e w9 ⟨rfl, b9⟩
  have bc0 := below_on bb8 b9
  clear HS
  go_wp2_with fail
  refine (Q0.out _ bc0).mono ?_
  rintro e u0 ⟨rfl, bu0⟩
  have bc1 := below_on bc0 bu0
  clear Q0
  go_wp2_with fail
  refine (Q1.out _ bc1).mono ?_
  rintro e u1 ⟨rfl, bu1⟩
  have bc2 := below_on bc1 bu1
  clear Q1
  go_wp2_with fail
  refine (Q2.out _ bc2).mono ?_
  rintro e u2 ⟨rfl, bu2⟩
  have bc3 := below_on bc2 bu2
  clear Q2
  go_wp2_with fail
  refine (Q3.out _ bc3).mono ?_
  rintro e u3 ⟨rfl, bu3⟩
  have bc4 := below_on bc3 bu3
  clear Q3
  go_wp2_with fail
  refine (Q4.out _ bc4).mono ?_
  rintro e u4 ⟨rfl, bu4⟩
  have bc5 := below_on bc4 bu4
  clear Q4
  go_wp2_with fail
  refine (Q5.out _ bc5).mono ?_
  rintro e u5 ⟨rfl, bu5⟩
  have bc6 := below_on bc5 bu5
  clear Q5
  go_wp2
  go_ret
  exact ⟨rfl, below_on hb3 bc6⟩

end Go.Proofs.Ytnnmcnbpnfegpaa
