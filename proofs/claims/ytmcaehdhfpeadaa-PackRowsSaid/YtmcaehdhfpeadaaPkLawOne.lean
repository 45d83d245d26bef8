/-
  The law PackOne, walked from what is asked of pack's functions.
-/
import Derived.Test.YtmcaehdhfpeadaaPkLawLays
import Derived.Test.YtmcaehdhfpeadaaPkMath
namespace Go.Proofs.Ytmcaehdhfpeadaa
open Go.RowKit

namespace Pk
/-- The ways of a row, from bytes that begin with a number or not. -/
theorem row_ways (l : List Int) (most : Int) (hl : ∀ x ∈ l, isB x) : (∃ e : Int, (e = 1 ∨ e = 4 ∨ e = 5) ∧ row l most = ([], 0, e)) ∨ ∃ (q : List Int) (j : Nat), row l most = (q, (j : Int), 0) ∧ laid q = l.take j ∧ j ≤ l.length ∧ (∀ x ∈ q, isB x) ∧ q.length + 1 ≤ j := by
  have hrow : row l most = if most < 0 then ([], 0, 1) else if (num l).2.2 ≠ 0 then ([], 0, (num l).2.2) else if most < (num l).1 then ([], 0, 4) else if (l.length : Int) - (num l).2.1 < (num l).1 then ([], 0, 5) else ((l.drop (num l).2.1.toNat).take (num l).1.toNat, (num l).2.1 + (num l).1, 0) := rfl
  by_cases hm : most < 0
  · exact .inl ⟨1, .inl rfl, by rw [hrow, if_pos hm]⟩
  · rw [if_neg hm] at hrow
    rcases num_ways l hl with (hw | hw) | ⟨v, k, hw, hk1, hkl, hk9, hv⟩
    · exact .inl ⟨4, .inr (.inl rfl), by rw [hrow, hw]; rfl⟩
    · exact .inl ⟨5, .inr (.inr rfl), by rw [hrow, hw]; rfl⟩
    · rw [hw] at hrow
      have hrow : row l most = if most < (v : Int) then ([], 0, 4) else if (l.length : Int) - (k : Int) < (v : Int) then ([], 0, 5) else ((l.drop k).take v, (k : Int) + (v : Int), 0) := hrow
      by_cases h2 : most < (v : Int)
      · exact .inl ⟨4, .inr (.inl rfl), by rw [hrow, if_pos h2]⟩
      · rw [if_neg h2] at hrow
        by_cases h3 : (l.length : Int) - (k : Int) < (v : Int)
        · exact .inl ⟨5, .inr (.inr rfl), by rw [hrow, if_pos h3]⟩
        · rw [if_neg h3] at hrow
          have hq : ((l.drop k).take v).length = v := by rw [List.length_take, List.length_drop]; omega
          refine .inr ⟨(l.drop k).take v, k + v, by rw [hrow]; rfl, ?_, by omega, fun x hx => hl x (List.mem_of_mem_drop (List.mem_of_mem_take hx)), by omega⟩
          unfold laid
          rw [hq, num_back l hl v k hw, List.take_add]
theorem row_err (l : List Int) (most e : Int) (hm : ¬ most < 0) (h : num l = (0, 0, e)) (he : e ≠ 0) : row l most = ([], 0, e) := by
  have hrow : row l most = if most < 0 then ([], 0, 1) else if (num l).2.2 ≠ 0 then ([], 0, (num l).2.2) else if most < (num l).1 then ([], 0, 4) else if (l.length : Int) - (num l).2.1 < (num l).1 then ([], 0, 5) else ((l.drop (num l).2.1.toNat).take (num l).1.toNat, (num l).2.1 + (num l).1, 0) := rfl
  rw [hrow, if_neg hm, h, if_pos he]
end Pk

theorem GivesB3.one {l : List Int} {k r : Int} {w w' : World} {e : Ending} (h : GivesB3 l k r w e w') (hb : ∀ x ∈ l, isB x) : ∃ A c, e = .returned (.tuple #[.slice A l.length c, .int .i64 k, .int .i64 r]) ∧ OneB w' A c l ∧ Below w.heap.size w w' := by
  obtain ⟨v, rfl, ho, hbw⟩ := h
  obtain ⟨A, c, rfl, hO⟩ := OneB.of_own ho hb
  exact ⟨A, c, rfl, hO, hbw⟩
theorem OneB.upto {w : World} {b off c : Nat} {l : List Int} (h : OneB w (some ⟨b, off, none⟩) c l) (k : Nat) (hk : k ≤ l.length) : OneB w (some ⟨b, off, none⟩) c (l.take k) := by
  have q := h.part 0 k (by omega)
  simpa using q

set_option maxHeartbeats 3200000 in
theorem lawPOne_err (SP : PackSpec) (A : Option Addr) (c : Nat) (l : List Int) (e0 : Int) (w : World) (hl : l.length + 10 ≤ 140737488355328) (h : OneB w A c l) (he : e0 = 4 ∨ e0 = 5) (hn : Pk.num l = (0, 0, e0)) :
    Calls Try.prog 8 #[.slice A l.length c] w (Says (.bool true) w) := by
  have N0 := Lib.hid (fun wx => palive_any SP wx)
  have NN := Lib.hid (fun wx (hx : OneB wx A c l) => (show Calls Try.prog 16 #[.slice A l.length c] wx (Says (.tuple #[.int .i64 0, .int .i64 0, .int .i64 e0]) wx) from by
    have k := SP.number A c l wx hx
    rw [hn] at k
    exact k))
  have NR := Lib.hid (fun wx (hx : OneB wx A c l) => (show Calls Try.prog 19 #[.slice A l.length c, .int .i64 (l.length : Int)] wx (GivesB3 [] 0 e0 wx) from by
    have k := SP.row A c l (l.length : Int) wx (by omega) hx
    rw [Pk.row_err l _ e0 (by omega) hn (by omega)] at k
    exact k))
  have H := Lib.hid h
  have hd : decide (e0 = 0) = false := decide_eq_false (by omega)
  clear h hn
  go_enter Try.func8, Try.ntmps8
  go_wp2_with fail
  refine (N0.out _).mono ?_
  rintro e w1 ⟨rfl, b1⟩
  go_wp2_with fail
  refine (NN.out _ (H.out.later b1)).mono ?_
  rintro e w2 ⟨rfl, b2⟩
  have bb2 := below_on b1 b2
  rcases he with rfl | rfl <;>
  · go_wp2_with fail
    refine (NR.out _ (H.out.later bb2)).mono ?_
    rintro e w3 hg
    obtain ⟨X, d, rfl, hX, b3⟩ := hg.one (fun x hx => by cases hx)
    clear hg hX
    go_wp2
    go_ret
    exact ⟨by first | rfl | simp, below_on bb2 b3⟩

set_option maxHeartbeats 3200000 in
theorem lawPOne_num (SP : PackSpec) (A : Option Addr) (c : Nat) (l : List Int) (v k : Nat) (e0 : Int) (w : World) (hl : l.length + 10 ≤ 140737488355328) (h : OneB w A c l) (hn : Pk.num l = ((v : Int), (k : Int), 0)) (hk1 : 1 ≤ k) (hkl : k ≤ l.length) (hk9 : k ≤ 9) (hv : v ≤ 9223372036854775807)
    (he : e0 = 1 ∨ e0 = 4 ∨ e0 = 5) (hr : Pk.row l (l.length : Int) = ([], 0, e0)) :
    Calls Try.prog 8 #[.slice A l.length c] w (Says (.bool true) w) := by
  have N0 := Lib.hid (fun wx => palive_any SP wx)
  have NN := Lib.hid (fun wx (hx : OneB wx A c l) => (show Calls Try.prog 16 #[.slice A l.length c] wx (Says (.tuple #[.int .i64 (v : Int), .int .i64 (k : Int), .int .i64 0]) wx) from by
    have k := SP.number A c l wx hx
    rw [hn] at k
    exact k))
  have NR := Lib.hid (fun wx (hx : OneB wx A c l) => (show Calls Try.prog 19 #[.slice A l.length c, .int .i64 (l.length : Int)] wx (GivesB3 [] 0 e0 wx) from by
    have k := SP.row A c l (l.length : Int) wx (by omega) hx
    rw [hr] at k
    exact k))
  have NA := Lib.hid (fun wx => (show Calls Try.prog 11 #[.slice none 0 0, .int .i64 (v : Int)] wx (AnsB2 (l.take k) 0 wx) from by
    have q := SP.appn none 0 [] (v : Int) wx (by omega) (by omega) (by simp) (OneB.nil wx)
    rw [show Pk.appn [] (v : Int) = (l.take k, 0) from by unfold Pk.appn; rw [if_neg (by omega), Int.toNat_natCast, Pk.num_back l h.byte v k hn]; rfl] at q
    exact q))
  obtain ⟨b, off, hA, -⟩ := h.at (fun e => by rw [e] at hkl; simp at hkl; omega)
  subst hA
  have hcap := h.le
  have hcm := h.cap
  unfold maxLen at hcm
  have hkk : (l.take k).length = k := by rw [List.length_take]; omega
  have NS := Lib.hid (fun X d wx (h1 : OneB wx X d (l.take k)) (h2 : OneB wx (some ⟨b, off, none⟩) c l) => (show Calls Try.prog 15 #[.slice X k d, .slice (some ⟨b, off, none⟩) k c] wx fun e w' => e = .returned (.bool true) ∧ Below wx.heap.size wx w' from by
    have q := bsame_any X (some ⟨b, off, none⟩) d c (l.take k) (l.take k) wx h1 (h2.upto k hkl)
    rw [decide_eq_true rfl] at q
    rwa [hkk] at q))
  have H := Lib.hid h
  have d1 : decide ((k : Int) < 1) = false := decide_eq_false (by omega)
  have d2 : decide ((l.length : Int) < (k : Int)) = false := decide_eq_false (by omega)
  have d5 : decide (l.length < k) = false := decide_eq_false (by omega)
  have d3 : decide (9 < (k : Int)) = false := decide_eq_false (by omega)
  clear h hn hr
  go_enter Try.func8, Try.ntmps8
  go_wp2_with fail
  refine (N0.out _).mono ?_
  rintro e w1 ⟨rfl, b1⟩
  go_wp2_with fail
  refine (NN.out _ (H.out.later b1)).mono ?_
  rintro e w2 ⟨rfl, b2⟩
  have bb2 := below_on b1 b2
  go_wp2_with fail
  refine (NA.out _).mono ?_
  rintro e w3 ⟨X, d, rfl, hX, b3⟩
  have bb3 := below_on bb2 b3
  go_wp2_with fail
  refine (NS.out X d _ hX (H.out.later bb3)).mono ?_
  rintro e w4 ⟨rfl, b4⟩
  have bb4 := below_on bb3 b4
  clear hX
  rcases he with rfl | rfl | rfl <;>
  · go_wp2_with fail
    refine (NR.out _ (H.out.later bb4)).mono ?_
    rintro e w5 hg
    obtain ⟨Y, d', rfl, hY, b5⟩ := hg.one (fun x hx => by cases hx)
    clear hg hY
    go_wp2
    go_ret
    exact ⟨by first | rfl | simp, below_on bb4 b5⟩

end Go.Proofs.Ytmcaehdhfpeadaa
