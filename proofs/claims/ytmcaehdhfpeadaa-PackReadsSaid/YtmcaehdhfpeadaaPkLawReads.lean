/-
  The law PackReads, walked from what is asked of pack's functions.
-/
import Derived.Test.YtmcaehdhfpeadaaPkSpec
namespace Go.Proofs.Ytmcaehdhfpeadaa
open Go.RowKit

set_option maxHeartbeats 1600000 in
theorem lawPReads_any (SP : PackSpec) (A : Option Addr) (c : Nat) (l : List Int) (w : World) (h : OneB w A c l) :
    Calls Try.prog 4 #[.slice A l.length c] w (Says (.bool true) w) := by
  have N0 := Lib.hid (fun wx => palive_any SP wx)
  have n1 := fun wx (hx : OneB wx A c l) => SP.number A c l wx hx
  have n2 := fun wx (hx : OneB wx A c l) => bnum_any A c l wx hx
  obtain ⟨r1, r2, r3⟩ : Int × Int × Int := Pk.num l
  obtain ⟨⟨r1, r2, r3⟩, hr⟩ : ∃ r, Pk.num l = r := ⟨_, rfl⟩
  rw [hr] at n1 n2
  have N1 := Lib.hid (fun wx (hx : OneB wx A c l) => (show Calls Try.prog 16 #[.slice A l.length c] wx (Says (.tuple #[.int .i64 r1, .int .i64 r2, .int .i64 r3]) wx) from n1 wx hx))
  have N2 := Lib.hid (fun wx (hx : OneB wx A c l) => (show Calls Try.prog 17 #[.slice A l.length c] wx (Says (.tuple #[.int .i64 r1, .int .i64 r2, .int .i64 r3]) wx) from n2 wx hx))
  have H := Lib.hid h
  clear n1 n2 hr h
  go_enter Try.func4, Try.ntmps4
  go_wp2_with fail
  refine (N0.out _).mono ?_
  rintro e w1 ⟨rfl, b1⟩
  go_wp2_with fail
  refine (N1.out _ (H.out.later b1)).mono ?_
  rintro e w2 ⟨rfl, b2⟩
  have bb2 := below_on b1 b2
  go_wp2_with fail
  refine (N2.out _ (H.out.later bb2)).mono ?_
  rintro e w3 ⟨rfl, b3⟩
  go_wp2
  go_ret
  exact ⟨by first | rfl | simp, below_on bb2 b3⟩

end Go.Proofs.Ytmcaehdhfpeadaa
