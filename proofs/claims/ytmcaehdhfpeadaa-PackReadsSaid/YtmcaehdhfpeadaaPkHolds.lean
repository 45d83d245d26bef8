/-
  What pack's Row answers; pack's functions keep what is asked of them.
-/
import Derived.Test.YtmcaehdhfpeadaaPkDevApp
import Derived.Test.YtmcaehdhfpeadaaPkDevNum
import Derived.Test.YtmcaehdhfpeadaaPkDevLen
namespace Go.Proofs.Ytmcaehdhfpeadaa
open Go.RowKit

set_option maxHeartbeats 3200000 in
theorem drow_any (A : Option Addr) (c1 : Nat) (l : List Int) (most : Int) (w : World) (hl : l.length ≤ 140737488355328) (h1 : OneB w A c1 l) :
    Calls Try.prog 19 #[.slice A l.length c1, .int .i64 most] w (GivesB3 (Pk.row l most).1 (Pk.row l most).2.1 (Pk.row l most).2.2 w) := by
  have n1 := dnum_any A c1 l w h1
  have hw := Pk.num_ways l h1.byte
  have H1 := Lib.hid h1
  have hrow : Pk.row l most = if most < 0 then ([], 0, 1) else if (Pk.num l).2.2 ≠ 0 then ([], 0, (Pk.num l).2.2) else if most < (Pk.num l).1 then ([], 0, 4) else if (l.length : Int) - (Pk.num l).2.1 < (Pk.num l).1 then ([], 0, 5) else ((l.drop (Pk.num l).2.1.toNat).take (Pk.num l).1.toNat, (Pk.num l).2.1 + (Pk.num l).1, 0) := rfl
  clear h1
  by_cases hm : most < 0
  · rw [if_pos hm] at hrow
    rw [hrow]
    have hd : decide (most < 0) = true := decide_eq_true hm
    clear n1 hw hrow
    go_enter Try.func19, Try.ntmps19
    go_wp2
    go_ret3
    exact ⟨_, rfl, ⟨rfl, .inl ⟨rfl, rfl⟩⟩, Below.refl _ _⟩
  · rw [if_neg hm] at hrow
    have hd : decide (most < 0) = false := decide_eq_false hm
    rcases hw with (hw | hw) | ⟨v, k, hw, hk1, hkl, hk9, hv⟩
    · rw [hw] at n1 hrow
      rw [if_pos (by decide)] at hrow
      rw [hrow]
      have N1 := Lib.hid (show Calls Try.prog 16 #[.slice A l.length c1] w fun e w' => e = .returned (.tuple #[.int .i64 0, .int .i64 0, .int .i64 4]) ∧ Below w.heap.size w w' from n1)
      clear n1 hw hrow
      go_enter Try.func19, Try.ntmps19
      go_wp2_with fail
      refine N1.out.mono ?_
      rintro e w1 ⟨rfl, b1⟩
      go_wp2
      go_ret3
      exact ⟨_, rfl, ⟨rfl, .inl ⟨rfl, rfl⟩⟩, b1⟩
    · rw [hw] at n1 hrow
      rw [if_pos (by decide)] at hrow
      rw [hrow]
      have N1 := Lib.hid (show Calls Try.prog 16 #[.slice A l.length c1] w fun e w' => e = .returned (.tuple #[.int .i64 0, .int .i64 0, .int .i64 5]) ∧ Below w.heap.size w w' from n1)
      clear n1 hw hrow
      go_enter Try.func19, Try.ntmps19
      go_wp2_with fail
      refine N1.out.mono ?_
      rintro e w1 ⟨rfl, b1⟩
      go_wp2
      go_ret3
      exact ⟨_, rfl, ⟨rfl, .inl ⟨rfl, rfl⟩⟩, b1⟩
    · rw [hw] at n1 hrow
      rw [if_neg (by simp)] at hrow
      have hrow : Pk.row l most = if most < (v : Int) then ([], 0, 4) else if (l.length : Int) - (k : Int) < (v : Int) then ([], 0, 5) else ((l.drop k).take v, (k : Int) + (v : Int), 0) := hrow
      have N1 := Lib.hid (show Calls Try.prog 16 #[.slice A l.length c1] w fun e w' => e = .returned (.tuple #[.int .i64 (v : Int), .int .i64 (k : Int), .int .i64 0]) ∧ Below w.heap.size w w' from n1)
      clear n1 hw
      by_cases h2 : most < (v : Int)
      · rw [if_pos h2] at hrow
        rw [hrow]
        have hd2 : decide (most < (v : Int)) = true := decide_eq_true h2
        clear hrow
        go_enter Try.func19, Try.ntmps19
        go_wp2_with fail
        refine N1.out.mono ?_
        rintro e w1 ⟨rfl, b1⟩
        go_wp2
        go_ret3
        exact ⟨_, rfl, ⟨rfl, .inl ⟨rfl, rfl⟩⟩, b1⟩
      · rw [if_neg h2] at hrow
        have hd2 : decide (most < (v : Int)) = false := decide_eq_false h2
        by_cases h3 : (l.length : Int) - (k : Int) < (v : Int)
        · rw [if_pos h3] at hrow
          rw [hrow]
          have hd3 : decide ((l.length : Int) - (k : Int) < (v : Int)) = true := decide_eq_true h3
          clear hrow
          go_enter Try.func19, Try.ntmps19
          go_wp2_with fail
          refine N1.out.mono ?_
          rintro e w1 ⟨rfl, b1⟩
          go_wp2
          go_ret3
          exact ⟨_, rfl, ⟨rfl, .inl ⟨rfl, rfl⟩⟩, b1⟩
        · rw [if_neg h3] at hrow
          rw [hrow]
          have hd3 : decide ((l.length : Int) - (k : Int) < (v : Int)) = false := decide_eq_false h3
          have hkv : k + v ≤ l.length := by omega
          have hne : l ≠ [] := fun e => by subst e; simp at hkl; omega
          obtain ⟨b, off, hA, -⟩ := H1.out.at hne
          subst hA
          have hcap := H1.out.le
          have hplen : ((l.drop k).take v).length = v := by rw [List.length_take, List.length_drop]; omega
          have hcp := fun wx (hx : OneB wx (some ⟨b, off + k, none⟩) (c1 - k) ((l.drop k).take v)) => cloneB_any (some ⟨b, off + k, none⟩) (c1 - k) ((l.drop k).take v) wx (by rw [hplen]; omega) hx
          have hpb : ∀ x ∈ (l.drop k).take v, isB x := fun x hx => H1.out.byte x (List.mem_of_mem_drop (List.mem_of_mem_take hx))
          have hpt := fun wx (hx : OneB wx (some ⟨b, off, none⟩) c1 l) => hx.part k v hkv
          obtain ⟨q, hq⟩ : ∃ q, (l.drop k).take v = q := ⟨_, rfl⟩
          rw [hq] at hcp hplen hpb hpt ⊢
          have CP := Lib.hid hcp
          have PB := Lib.hid hpb
          have PT := Lib.hid hpt
          clear hrow hq hcp hpb hpt
          subst hplen
          have fin : ∀ D d w1, OneB w1 D d q → Calls Try.prog 26 #[.slice D q.length d] w1 (GivesB q w1) := fun D d w1 hx => cloneB_any D d q w1 (by have := hx.le; omega) hx
          have FIN := Lib.hid fin
          clear CP fin
          by_cases hck : c1 = k
          · have hq0 : q = [] := List.eq_nil_of_length_eq_zero (by omega)
            subst hq0
            have hkl2 : k = l.length := by simp at hkv; omega
            have hcl2 : c1 = l.length := by omega
            subst hkl2
            subst hcl2
            have F0 := Lib.hid (fun w1 => (show Calls Try.prog 26 #[.slice (some ⟨b, off, none⟩) 0 0] w1 (GivesB [] w1) from FIN.out (some ⟨b, off, none⟩) 0 w1 ⟨Nat.le_refl _, Nat.zero_le _, (fun h => by cases h), fun h => absurd rfl h, fun x hx => by cases hx⟩))
            have N2 := Lib.hid (show Calls Try.prog 16 #[.slice (some ⟨b, off, none⟩) l.length l.length] w fun e w' => e = .returned (.tuple #[.int .i64 0, .int .i64 (l.length : Int), .int .i64 0]) ∧ Below w.heap.size w w' from N1.out)
            have hlm : (l.length : Int) ≤ 140737488355328 := by omega
            clear PT N1 FIN hck hkv hd2 hd3 h2 h3 hcap
            have hd2 : decide (most < 0) = false := hd
            go_enter Try.func19, Try.ntmps19
            go_wp2_with fail
            refine N2.out.mono ?_
            rintro e w1 ⟨rfl, b1⟩
            go_wp2_with fail
            refine (F0.out w1).mono ?_
            rintro e w2 ⟨v, rfl, hO, b2⟩
            have HO := Lib.hid (own_base hO b1.size)
            clear hO
            go_wp2
            go_ret3
            exact ⟨v, by first | rfl | simp, HO.out, below_on b1 b2⟩
          · go_enter Try.func19, Try.ntmps19
            go_wp2_with fail
            refine N1.out.mono ?_
            rintro e w1 ⟨rfl, b1⟩
            go_wp2_with fail
            refine (FIN.out _ _ w1 (PT.out w1 (H1.out.later b1))).mono ?_
            rintro e w2 ⟨v, rfl, hO, b2⟩
            have HO := Lib.hid (own_base hO b1.size)
            clear hO
            go_wp2
            go_ret3
            exact ⟨v, by first | rfl | simp, HO.out, below_on b1 b2⟩

theorem packSpec : PackSpec where
  len := dlen_any
  appn := dappn_any
  number := dnum_any
  appr := dappr_any
  appro := dappro_any
  row := drow_any

end Go.Proofs.Ytmcaehdhfpeadaa
