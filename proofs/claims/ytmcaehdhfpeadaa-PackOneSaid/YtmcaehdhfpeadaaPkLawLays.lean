/-
  The law PackLays, walked from what is asked of pack's functions.
-/
import Derived.Test.YtmcaehdhfpeadaaPkSpare
namespace Go.Proofs.Ytmcaehdhfpeadaa
open Go.RowKit

/-- The first of two lists of bytes that stand one behind the other, and the second. -/
theorem OneB.fore {w : World} {b off c : Nat} {l p : List Int} (h : OneB w (some ⟨b, off, none⟩) c (l ++ p)) : OneB w (some ⟨b, off, none⟩) c l := by
  have k := h.part 0 l.length (by simp)
  simpa using k
theorem OneB.hind {w : World} {b off c : Nat} {l p : List Int} (h : OneB w (some ⟨b, off, none⟩) c (l ++ p)) : OneB w (some ⟨b, off + l.length, none⟩) (c - l.length) p := by
  have k := h.part l.length p.length (by simp)
  simpa using k

set_option maxHeartbeats 1600000 in
theorem lawPLays_neg (SP : PackSpec) (A : Option Addr) (c : Nat) (l : List Int) (n : Int) (w : World) (hn0 : -9223372036854775808 ≤ n) (hn : n < 0) (hl : l.length + 9 ≤ 140737488355328) (h : OneB w A c l) :
    Calls Try.prog 3 #[.slice A l.length c, .int .i64 n] w (Says (.bool true) w) := by
  have N0 := Lib.hid (fun wx => palive_any SP wx)
  have NS := Lib.hid (fun wx (hx : OneB wx A c l) => spare_any A c l wx (by omega) hx)
  have NK := Lib.hid (fun g cap wx (hM : Marked wx g cap l) (hx : OneB wx A c l) => kept_any g cap A c l wx hM hx)
  have NA := Lib.hid (fun g cap wx (hM : Marked wx g cap l) => (show Calls Try.prog 11 #[.slice (some ⟨g, 0, none⟩) l.length cap, .int .i64 n] wx (AnsB2 [] 1 wx) from by
    have k := SP.appn (some ⟨g, 0, none⟩) cap l n wx hn0 (by omega) hl hM.one
    rw [show Pk.appn l n = ([], 1) from if_pos hn] at k
    exact k))
  have NL := Lib.hid (fun wx => (show Calls Try.prog 13 #[.int .i64 n] wx (Says (.int .i64 0) wx) from by
    have k := SP.len n wx hn0 (by omega)
    rw [show Pk.lenOf n = 0 from if_pos hn] at k
    exact k))
  have H := Lib.hid h
  have hd : decide (n < 0) = true := decide_eq_true hn
  clear h
  go_enter Try.func3, Try.ntmps3
  go_wp2_with fail
  refine (N0.out _).mono ?_
  rintro e w1 ⟨rfl, b1⟩
  go_wp2_with fail
  refine (NS.out _ (H.out.later b1)).mono ?_
  rintro e w2 ⟨g, cap, rfl, hM, b2⟩
  have bb2 := below_on b1 b2
  go_wp2_with fail
  refine (NA.out g cap _ hM).mono ?_
  rintro e w3 ⟨X, d, rfl, hX, b3⟩
  have bb3 := below_on bb2 b3
  go_wp2_with fail
  refine (NK.out g cap _ (hM.later b3) (H.out.later bb3)).mono ?_
  rintro e w4 ⟨rfl, b4⟩
  have bb4 := below_on bb3 b4
  go_wp2_with fail
  refine (NL.out _).mono ?_
  rintro e w5 ⟨rfl, b5⟩
  go_wp2
  go_ret
  exact ⟨by first | rfl | simp, below_on bb4 b5⟩

set_option maxHeartbeats 3200000 in
theorem lawPLays_pos (SP : PackSpec) (A : Option Addr) (c : Nat) (l : List Int) (n : Nat) (w : World) (hn : n ≤ 9223372036854775807) (hl : l.length + 9 ≤ 140737488355328) (h : OneB w A c l) :
    Calls Try.prog 3 #[.slice A l.length c, .int .i64 (n : Int)] w (Says (.bool true) w) := by
  have N0 := Lib.hid (fun wx => palive_any SP wx)
  have NS := Lib.hid (fun wx (hx : OneB wx A c l) => spare_any A c l wx (by omega) hx)
  have NK := Lib.hid (fun g cap wx (hM : Marked wx g cap l) (hx : OneB wx A c l) => kept_any g cap A c l wx hM hx)
  have na := fun g cap wx (hM : Marked wx g cap l) => (show Calls Try.prog 11 #[.slice (some ⟨g, 0, none⟩) l.length cap, .int .i64 (n : Int)] wx (AnsB2 (l ++ Pk.bytesOf n) 0 wx) from by
    have k := SP.appn (some ⟨g, 0, none⟩) cap l (n : Int) wx (by omega) (by omega) hl hM.one
    rw [show Pk.appn l (n : Int) = (l ++ Pk.bytesOf n, 0) from by unfold Pk.appn; rw [if_neg (by omega), Int.toNat_natCast]] at k
    exact k)
  have nl := fun wx => (show Calls Try.prog 13 #[.int .i64 (n : Int)] wx (Says (.int .i64 ((Pk.bytesOf n).length : Int)) wx) from by
    have k := SP.len (n : Int) wx (by omega) (by omega)
    rw [show Pk.lenOf (n : Int) = ((Pk.bytesOf n).length : Int) from by unfold Pk.lenOf; rw [if_neg (by omega), Int.toNat_natCast]] at k
    exact k)
  have nb := fun wx => bytes_any n wx hn
  have hb := bytesOf_byte n hn
  have hp0 : 0 < (Pk.bytesOf n).length := by unfold Pk.bytesOf; unfold Pk.nb; split <;> simp
  obtain ⟨p, hp⟩ : ∃ p, Pk.bytesOf n = p := ⟨_, rfl⟩
  rw [hp] at nb hb hp0
  rw [hp] at nl
  simp only [hp] at na
  have NA := Lib.hid na
  have NL := Lib.hid nl
  have NB := Lib.hid nb
  have HB := Lib.hid hb
  have H := Lib.hid h
  have hd : decide ((n : Int) < 0) = false := decide_eq_false (by omega)
  clear h na nl nb hb hp
  go_enter Try.func3, Try.ntmps3
  go_wp2_with fail
  refine (N0.out _).mono ?_
  rintro e w1 ⟨rfl, b1⟩
  go_wp2_with fail
  refine (NS.out _ (H.out.later b1)).mono ?_
  rintro e w2 ⟨g, cap, rfl, hM, b2⟩
  have bb2 := below_on b1 b2
  go_wp2_with fail
  refine (NA.out g cap _ hM).mono ?_
  rintro e w3 ⟨X, d, rfl, hX, b3⟩
  have bb3 := below_on bb2 b3
  have hle := hX.le
  have hcap := hX.cap
  unfold maxLen at hcap
  rw [List.length_append] at hle
  obtain ⟨xb, xo, rfl, -⟩ := hX.at (fun e => by rw [(List.append_eq_nil_iff.1 e).2] at hp0; exact absurd hp0 (by decide))
  have HX := Lib.hid hX
  clear hX
  rw [List.length_append]
  go_wp2_with fail
  refine (NK.out g cap _ (hM.later b3) (H.out.later bb3)).mono ?_
  rintro e w4 ⟨rfl, b4⟩
  have bb4 := below_on bb3 b4
  go_wp2_with fail
  refine (NB.out _).mono ?_
  rintro e w5 hg
  obtain ⟨D, k, rfl, hD, b5⟩ := hg.one HB.out
  have bb5 := below_on bb4 b5
  have bx5 := below_on b4 b5
  go_wp2_with fail
  refine (bsame_any (some ⟨xb, xo, none⟩) A d c l l _ (HX.out.later bx5).fore (H.out.later bb5)).mono ?_
  rw [decide_eq_true rfl]
  rintro e w6 ⟨rfl, b6⟩
  have bb6 := below_on bb5 b6
  have bx6 := below_on bx5 b6
  go_wp2_with fail
  refine (bsame_any (some ⟨xb, xo + l.length, none⟩) D (d - l.length) k p p _ (HX.out.later bx6).hind (hD.later b6)).mono ?_
  rw [decide_eq_true rfl]
  rintro e w7 ⟨rfl, b7⟩
  have bb7 := below_on bb6 b7
  go_wp2_with fail
  refine (NL.out _).mono ?_
  rintro e w8 ⟨rfl, b8⟩
  go_wp2
  go_ret
  exact ⟨by first | rfl | simp, below_on bb7 b8⟩

theorem lawPLays_any (SP : PackSpec) (A : Option Addr) (c : Nat) (l : List Int) (n : Int) (w : World) (hn0 : -9223372036854775808 ≤ n) (hn : n ≤ 9223372036854775807) (hl : l.length + 9 ≤ 140737488355328) (h : OneB w A c l) :
    Calls Try.prog 3 #[.slice A l.length c, .int .i64 n] w (Says (.bool true) w) := by
  by_cases hm : n < 0
  · exact lawPLays_neg SP A c l n w hn0 hm hl h
  · have k := lawPLays_pos SP A c l n.toNat w (by omega) hl h
    rwa [Int.toNat_of_nonneg (by omega)] at k

end Go.Proofs.Ytmcaehdhfpeadaa
