/-
  SpanForms walked from span's contracts.
-/
import Derived.Test.YtnnmcnbpnfegpaaSpSpec
namespace Go.Proofs.Ytnnmcnbpnfegpaa
open Go.RowKit

set_option maxRecDepth 100000 in
set_option maxHeartbeats 3200000 in
theorem lawForms_any (S : SpanSpec) (A : Option Addr) (c : Nat) (l : List (Int × Int)) (o : Int) (w : World) (hl : l.length * 16 ≤ 140737488355328) (h1 : OneL w A c l) :
    Calls Try.prog 3 #[.slice A l.length c, .int .i64 o] w (Says (.bool true) w) := by
  have N0 := Lib.hid (salive_any S w)
  have N1 := Lib.hid (fun wx (hx : OneL wx A c l) => scopy_any A c l wx hl hx.2.2.1 hx.2.2.2)
  have HL0 := Lib.hid h1
  clear h1
  go_enter Try.func3, Try.ntmps3
  go_wp2_with fail
  refine N0.out.mono ?_
  rintro e w1 ⟨rfl, b1⟩
  have HL1 := Lib.hid (HL0.out.later b1)
  clear N0 HL0
  go_wp2_with fail
  refine (N1.out _ HL1.out).mono ?_
  rintro e w2 hg
  obtain ⟨B, d, rfl, ho, b2⟩ := hg.ans
  have hb2 := below_on b1 b2
  have HO := Lib.hid ho
  have HL := Lib.hid (HL1.out.later b2)
  clear hg ho N1 HL1
  have Q0 := Lib.hid (fun wx (bb : Below w2.heap.size w2 wx) => (show Calls Try.prog 11 #[.slice B l.length d] wx (Says (.bool (Sp.fmd l)) wx) from S.formed B d l wx (HO.out.later bb)))
  have Q1 := Lib.hid (fun wx (bb : Below w2.heap.size w2 wx) => (show Calls Try.prog 12 #[.slice A l.length c] wx (Says (.bool (Sp.fmd l)) wx) from sformed_any A c l wx (HL.out.later bb)))
  have Q2 := Lib.hid (fun wx (bb : Below w2.heap.size w2 wx) => (show Calls Try.prog 13 #[.slice B l.length d, .int .i64 o] wx (Says (.bool (inOf l o)) wx) from S.has B d l o wx (HO.out.later bb)))
  have Q3 := Lib.hid (fun wx (bb : Below w2.heap.size w2 wx) => (show Calls Try.prog 14 #[.slice A l.length c, .int .i64 o] wx (Says (.bool (inOf l o)) wx) from shas_any A c l o wx (HL.out.later bb)))
  have Q4 := Lib.hid (fun wx (bb : Below w2.heap.size w2 wx) => (show Calls Try.prog 15 #[.slice B l.length d] wx (Says (.int .i64 (Sp.sz (Sp.inL l) : Int)) wx) from S.size B d l wx (HO.out.later bb)))
  have Q5 := Lib.hid (fun wx (bb : Below w2.heap.size w2 wx) => (show Calls Try.prog 16 #[.slice A l.length c] wx (Says (.int .i64 (Sp.sz (Sp.inL l) : Int)) wx) from ssize_any A c l wx (HL.out.later bb)))
  have Q6 := Lib.hid (fun wx (bb : Below w2.heap.size w2 wx) => (show Calls Try.prog 17 #[.slice B l.length d, .slice A l.length c] wx (Says (.bool true) wx) from by have q := ssame_any B A d c l l wx HO.out.len (HO.out.later bb).stamps (HL.out.later bb).stamps; rw [decide_eq_true rfl] at q; exact q))
  have hx1 : ∃ x, Sp.fmd l = x := ⟨_, rfl⟩
  have hx2 : ∃ x, inOf l o = x := ⟨_, rfl⟩
  have hx3 : ∃ x, (Sp.sz (Sp.inL l) : Int) = x := ⟨_, rfl⟩
  obtain ⟨x1, hx1⟩ := hx1
  obtain ⟨x2, hx2⟩ := hx2
  obtain ⟨x3, hx3⟩ := hx3
  rw [hx1] at Q0 Q1
  rw [hx2] at Q2 Q3
  rw [hx3] at Q4 Q5
  clear hx1 hx2 hx3
  have bb0 := Below.refl w2.heap.size w2
  go_wp2_with fail
  refine (Q0.out _ bb0).mono ?_
  rintro e u0 ⟨rfl, bu0⟩
  have bb1 := below_on bb0 bu0
  clear Q0
  go_wp2_with fail
  refine (Q1.out _ bb1).mono ?_
  rintro e u1 ⟨rfl, bu1⟩
  have bb2 := below_on bb1 bu1
  clear Q1
  go_wp2_with fail
  refine (Q2.out _ bb2).mono ?_
  rintro e u2 ⟨rfl, bu2⟩
  have bb3 := below_on bb2 bu2
  clear Q2
  go_wp2_with fail
  refine (Q3.out _ bb3).mono ?_
  rintro e u3 ⟨rfl, bu3⟩
  have bb4 := below_on bb3 bu3
  clear Q3
  go_wp2_with fail
  refine (Q4.out _ bb4).mono ?_
  rintro e u4 ⟨rfl, bu4⟩
  have bb5 := below_on bb4 bu4
  clear Q4
  go_wp2_with fail
  refine (Q5.out _ bb5).mono ?_
  rintro e u5 ⟨rfl, bu5⟩
  have bb6 := below_on bb5 bu5
  clear Q5
  go_wp2_with fail
  refine (Q6.out _ bb6).mono ?_
  rintro e u6 ⟨rfl, bu6⟩
  have bb7 := below_on bb6 bu6
  clear Q6
  go_wp2
  go_ret
  exact ⟨rfl, below_on hb2 bb7⟩

end Go.Proofs.Ytnnmcnbpnfegpaa
