/-
  The law PackLaid, walked from what is asked of pack's functions.
-/
import Derived.Test.YtmcaehdhfpeadaaPkLawLays
namespace Go.Proofs.Ytmcaehdhfpeadaa
open Go.RowKit

set_option maxHeartbeats 3200000 in
theorem lawPLaid_any (SP : PackSpec) (A : Option Addr) (c : Nat) (l : List Int) (R : Option Addr) (rc : Nat) (r : List Int) (w : World) (hl : l.length + r.length + 10 ≤ 140737488355328) (h : OneB w A c l) (hr : OneB w R rc r) :
    Calls Try.prog 6 #[.slice A l.length c, .slice R r.length rc] w (Says (.bool true) w) := by
  have N0 := Lib.hid (fun wx => palive_any SP wx)
  have NS := Lib.hid (fun wx (hx : OneB wx A c l) => spare_any A c l wx (by omega) hx)
  have NK := Lib.hid (fun g cap wx (hM : Marked wx g cap l) (hx : OneB wx A c l) => kept_any g cap A c l wx hM hx)
  have na := fun g cap wx (hM : Marked wx g cap l) (hx : OneB wx R rc r) => SP.appr (some ⟨g, 0, none⟩) cap l R rc r wx (by omega) hM.one hx
  have nb := fun wx (hx : OneB wx R rc r) => blaid_any R rc r wx (by omega) hx
  have hb : ∀ x ∈ Pk.laid r, isB x := fun x hx => by
    rcases List.mem_append.1 hx with hx | hx
    · exact bytesOf_byte r.length (by omega) x hx
    · exact hr.byte x hx
  have hp0 : 0 < (Pk.laid r).length := by
    unfold Pk.laid
    rw [List.length_append]
    have : 0 < (Pk.bytesOf r.length).length := by unfold Pk.bytesOf; unfold Pk.nb; split <;> simp
    omega
  obtain ⟨p, hp⟩ : ∃ p, Pk.laid r = p := ⟨_, rfl⟩
  rw [hp] at hb hp0
  simp only [hp] at na nb
  have NA := Lib.hid na
  have NB := Lib.hid nb
  have HB := Lib.hid hb
  have H := Lib.hid h
  have HR := Lib.hid hr
  clear h hr na nb hb hp
  go_enter Try.func6, Try.ntmps6
  go_wp2_with fail
  refine (N0.out _).mono ?_
  rintro e w1 ⟨rfl, b1⟩
  go_wp2_with fail
  refine (NS.out _ (H.out.later b1)).mono ?_
  rintro e w2 ⟨g, cap, rfl, hM, b2⟩
  have bb2 := below_on b1 b2
  go_wp2_with fail
  refine (NA.out g cap _ hM (HR.out.later bb2)).mono ?_
  rintro e w3 ⟨X, d, rfl, hX, b3⟩
  have bb3 := below_on bb2 b3
  have hle := hX.le
  have hcap := hX.cap
  unfold maxLen at hcap
  rw [List.length_append] at hle
  obtain ⟨xb, xo, rfl, -⟩ := hX.at (fun e => by rw [(List.append_eq_nil_iff.1 e).2] at hp0; exact absurd hp0 (by decide))
  have HX := Lib.hid hX
  clear hX
  rw [List.length_append]
  go_wp2_with fail
  refine (NB.out _ (HR.out.later bb3)).mono ?_
  rintro e w4 hg
  obtain ⟨D, k, rfl, hD, b4⟩ := hg.one HB.out
  have bb4 := below_on bb3 b4
  go_wp2_with fail
  refine (NK.out g cap _ (hM.later (below_on b3 b4)) (H.out.later bb4)).mono ?_
  rintro e w5 ⟨rfl, b5⟩
  have bb5 := below_on bb4 b5
  have bx5 := below_on b4 b5
  go_wp2_with fail
  refine (bsame_any (some ⟨xb, xo, none⟩) A d c l l _ (HX.out.later bx5).fore (H.out.later bb5)).mono ?_
  rw [decide_eq_true rfl]
  rintro e w6 ⟨rfl, b6⟩
  have bb6 := below_on bb5 b6
  have bx6 := below_on bx5 b6
  go_wp2_with fail
  refine (bsame_any (some ⟨xb, xo + l.length, none⟩) D (d - l.length) k p p _ (HX.out.later bx6).hind (hD.later (below_on b5 b6))).mono ?_
  rw [decide_eq_true rfl]
  rintro e w7 ⟨rfl, b7⟩
  go_wp2
  go_ret
  exact ⟨by first | rfl | simp, below_on bb6 b7⟩

end Go.Proofs.Ytmcaehdhfpeadaa
