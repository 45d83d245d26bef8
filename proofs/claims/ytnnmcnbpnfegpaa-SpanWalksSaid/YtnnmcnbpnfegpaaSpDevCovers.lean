/-
  What span's Covers answers: each span of the one, as sets, lies in one of the other.
-/
import Derived.Test.YtnnmcnbpnfegpaaSpDevTwo
import Derived.WalkMore
import Derived.Deep.LoopGhost
namespace Go.Proofs.Ytnnmcnbpnfegpaa
open Go.RowKit Fb

namespace Sp
/-- Does a span of the one lie in one of the other? -/
def lies (L : List (Int × Int)) (s : Int × Int) : Prop := ∃ m, m < L.length ∧ (L.getD m (0, 0)).1 ≤ s.1 ∧ s.2 ≤ (L.getD m (0, 0)).2
theorem cov_yes (f g : Nat → Bool) (h : ∀ j, j < (ofL g).length → lies (ofL f) ((ofL g).getD j (0, 0))) : cov f g = true :=
  (cov_iff f g).2 fun o ho hg => by
    rw [← inL_ofL g o ho] at hg
    obtain ⟨j, hj, q1, q2⟩ := (inL_at _ _).1 hg
    obtain ⟨m, hm, r1, r2⟩ := h j hj
    rw [← inL_ofL f o ho]
    exact (inL_at _ _).2 ⟨m, hm, by omega, by omega⟩
theorem cov_no (f g : Nat → Bool) (j : Nat) (hj : j < (ofL g).length) (h : ∀ m, m < (ofL f).length → ¬ (((ofL f).getD m (0, 0)).1 ≤ ((ofL g).getD j (0, 0)).1 ∧ ((ofL g).getD j (0, 0)).2 ≤ ((ofL f).getD m (0, 0)).2)) : cov f g = false := by
  rcases two (cov f g) with hc | hc
  · have hf := (cov_iff f g).1 hc
    obtain ⟨q1, q2, q3, _⟩ := good_ofL g j hj
    have hin : ∀ p : Nat, ((ofL g).getD j (0, 0)).1 ≤ (p : Int) → (p : Int) ≤ ((ofL g).getD j (0, 0)).2 → inL (ofL f) p = true := fun p h1 h2 => by
      rw [inL_ofL f p (by omega)]
      exact hf p (by omega) (span_in g j hj p h1 h2)
    obtain ⟨k, hk, r1, r2⟩ := (inL_at _ _).1 (hin ((ofL g).getD j (0, 0)).1.toNat (by omega) (by omega))
    have hb := h k hk
    have hlt : ((ofL f).getD k (0, 0)).2 < ((ofL g).getD j (0, 0)).2 := by omega
    have gk := good_ofL f k hk
    obtain ⟨n, hn, t1, t2⟩ := (inL_at _ _).1 (hin (((ofL f).getD k (0, 0)).2 + 1).toNat (by omega) (by omega))
    rcases Nat.lt_trichotomy n k with h5 | h5 | h5
    · have := good_sorted (good_ofL f) n k h5 hk
      have := gk.2.1
      omega
    · subst h5
      omega
    · have := good_sorted (good_ofL f) k n h5 hn
      omega
  · exact hc
end Sp

set_option maxRecDepth 100000 in
set_option maxHeartbeats 3200000 in
theorem covers_any (A B : Option Addr) (c d : Nat) (l r : List (Int × Int)) (w : World) (h1 : OneL w A c l) (h2 : OneL w B d r) :
    Calls Try.prog 26 #[.slice A l.length c, .slice B r.length d] w (Says (.bool (Sp.cov (Sp.inL l) (Sp.inL r))) w) := by
  have n1 := fun t => join_one h1 t
  have n2 := fun wx (hx : OneL wx B d r) t => join_one hx t
  have hyes := Sp.cov_yes (Sp.inL l) (Sp.inL r)
  have hno := Sp.cov_no (Sp.inL l) (Sp.inL r)
  have lL := Sp.ofL_len (Sp.inL l)
  have lM := Sp.ofL_len (Sp.inL r)
  obtain ⟨cv, hcv⟩ : ∃ cv, Sp.cov (Sp.inL l) (Sp.inL r) = cv := ⟨_, rfl⟩
  obtain ⟨L, hL⟩ : ∃ L, Sp.ofL (Sp.inL l) = L := ⟨_, rfl⟩
  obtain ⟨M, hM⟩ : ∃ M, Sp.ofL (Sp.inL r) = M := ⟨_, rfl⟩
  rw [hcv] at hyes hno ⊢
  rw [hL] at n1 hyes hno lL
  rw [hM] at n2 hyes hno lM
  have N1 := Lib.hid n1
  have N2 := Lib.hid n2
  have HY := Lib.hid hyes
  have HN := Lib.hid hno
  have H2 := Lib.hid h2
  clear n1 n2 hyes hno h1 h2 hcv hL hM
  go_enter Try.func26, Try.ntmps26
  go_wp2_with fail
  go_step3
  go_wp2_with fail
  refine (N1.out _).mono ?_
  rintro e w1 ⟨v, rfl, ho, b1⟩
  obtain ⟨D, dc, rfl, hf⟩ := own_far ho
  have HF := Lib.hid hf
  have N3 := Lib.hid (N2.out w1 (H2.out.later b1))
  clear ho hf N1 N2 H2
  go_wp2_with fail
  go_step3
  go_wp2_with fail
  refine (N3.out _).mono ?_
  rintro e w2 ⟨v, rfl, ho, b2⟩
  obtain ⟨E, ec, rfl, hf⟩ := own_far ho
  have HG := Lib.hid hf
  have HF2 := Lib.hid (HF.out.later b2)
  have hb2 := below_on b1 b2
  clear ho hf N3 HF b2
  go_wp2_with fail
  go_loopw [17] (fun s17 wr => ∃ k : Nat, k ≤ M.length ∧ s17 = .int .i64 (k : Int) ∧ (∀ j, j < k → Sp.lies L (M.getD j (0, 0))) ∧ Below w2.heap.size w2 wr) (fun s17 _ => M.length - (intOf s17).toNat)
  case atStart => exact ⟨0, Nat.zero_le _, rfl, fun j hj => by omega, Below.refl _ _⟩
  case round =>
    obtain ⟨k, hk, rfl, hal, hbw⟩ := hrel
    by_cases hlt : k < M.length
    · have hne : M ≠ [] := fun e => by subst e; simp at hlt
      obtain ⟨g, off, hE, -, hcs⟩ := (HG.out.later hbw) hne
      have HG' := HG
      subst hE
      obtain ⟨e0, e1⟩ := hcs k hlt
      have hi0 : (0 : Int) ≤ (k : Int) := by omega
      have hi1 : (k : Int) < (M.length : Int) := by omega
      have hno := HN.out k hlt
      have hnx : Sp.lies L (M.getD k (0, 0)) → ∀ j, j < k + 1 → Sp.lies L (M.getD j (0, 0)) := fun h j hj => by
        by_cases e : j = k
        · rw [e]; exact h
        · exact hal j (by omega)
      obtain ⟨z, hz⟩ : ∃ z, M.getD k (0, 0) = z := ⟨_, rfl⟩
      rw [hz] at e0 e1 hno hnx
      obtain ⟨x, y⟩ := z
      have e0 : wr.cell? ⟨g, off + k * 2, none⟩ = some (.int .i64 x) := e0
      have e1 : wr.cell? ⟨g, off + k * 2 + 1, none⟩ = some (.int .i64 y) := e1
      have HNO := Lib.hid hno
      have HNX := Lib.hid hnx
      have hbn := below_new hbw (.cells #[.int .i64 x, .int .i64 y] 44)
      have B2 := Blk.new wr 44 #[.int .i64 x, .int .i64 y]
      obtain ⟨gs, hgs⟩ : ∃ gs, wr.heap.size = gs := ⟨_, rfl⟩
      obtain ⟨W1, hW1⟩ : ∃ W1, wr.alloc (.cells #[.int .i64 x, .int .i64 y] 44) = W1 := ⟨_, rfl⟩
      rw [hW1] at hbn B2
      rw [hgs] at B2
      have HW1 := Lib.hid hW1
      clear hno hnx hal hz hcs hW1
      go_wp2_with fail
      rw [HW1.out]
      go_loopw [23] (fun s23 wr => ∃ i : Nat, i ≤ L.length ∧ s23 = .int .i64 (i : Int) ∧ (∀ m, m < i → ¬ ((L.getD m (0, 0)).1 ≤ x ∧ y ≤ (L.getD m (0, 0)).2)) ∧ Blk wr gs 44 #[.int .i64 x, .int .i64 y] ∧ Below w2.heap.size w2 wr) (fun s23 _ => L.length - (intOf s23).toNat)
      case atStart => exact ⟨0, Nat.zero_le _, rfl, fun j hj => by omega, B2, hbn⟩
      case round =>
        obtain ⟨i, hi, rfl, hnot, hS, hbq⟩ := hrel
        clear B2 hbn e0 e1 HW1
        by_cases hlt2 : i < L.length
        · have hne2 : L ≠ [] := fun e => by subst e; simp at hlt2
          obtain ⟨g2, off2, hD, -, hcs2⟩ := (HF2.out.later hbq) hne2
          have HF3 := HF2
          subst hD
          obtain ⟨e0, e1⟩ := hcs2 i hlt2
          have hj0 : (0 : Int) ≤ (i : Int) := by omega
          have hj1 : (i : Int) < (L.length : Int) := by omega
          have hfound : (L.getD i (0, 0)).1 ≤ x → y ≤ (L.getD i (0, 0)).2 → Sp.lies L (x, y) := fun q1 q2 => ⟨i, hlt2, q1, q2⟩
          have hnext : ¬ ((L.getD i (0, 0)).1 ≤ x ∧ y ≤ (L.getD i (0, 0)).2) → ∀ m, m < i + 1 → ¬ ((L.getD m (0, 0)).1 ≤ x ∧ y ≤ (L.getD m (0, 0)).2) := fun h m hm => by
            by_cases e : m = i
            · rw [e]; exact h
            · exact hnot m (by omega)
          obtain ⟨z, hz⟩ : ∃ z, L.getD i (0, 0) = z := ⟨_, rfl⟩
          rw [hz] at e0 e1 hfound hnext
          obtain ⟨u, v⟩ := z
          have e0 : wr.cell? ⟨g2, off2 + i * 2, none⟩ = some (.int .i64 u) := e0
          have e1 : wr.cell? ⟨g2, off2 + i * 2 + 1, none⟩ = some (.int .i64 v) := e1
          have hfound : u ≤ x → y ≤ v → Sp.lies L (x, y) := hfound
          have hnext : ¬ (u ≤ x ∧ y ≤ v) → ∀ m, m < i + 1 → ¬ ((L.getD m (0, 0)).1 ≤ x ∧ y ≤ (L.getD m (0, 0)).2) := hnext
          have HFO := Lib.hid hfound
          have HNE := Lib.hid hnext
          have hS2 := hS.alloc (.cells #[.int .i64 u, .int .i64 v] 44)
          have hB2 := Blk.new wr 44 #[.int .i64 u, .int .i64 v]
          have hbz := below_new hbq (.cells #[.int .i64 u, .int .i64 v] 44)
          obtain ⟨gw, hgw⟩ : ∃ gw, wr.heap.size = gw := ⟨_, rfl⟩
          obtain ⟨W2, hW2⟩ : ∃ W2, wr.alloc (.cells #[.int .i64 u, .int .i64 v] 44) = W2 := ⟨_, rfl⟩
          rw [hW2] at hS2 hB2 hbz
          rw [hgw] at hB2
          have s0 := hS2.cell (i := 0) rfl
          have s1 := hS2.cell (i := 1) rfl
          have t0 := hB2.cell (i := 0) rfl
          have t1 := hB2.cell (i := 1) rfl
          have HS2 := Lib.hid hS2
          clear hfound hnext hnot hS hz hcs2 hS2 hB2
          by_cases c1 : u ≤ x
          · have d1 : decide (u ≤ x) = true := decide_eq_true c1
            by_cases c2 : y ≤ v
            · have d2 : decide (y ≤ v) = true := decide_eq_true c2
              have HL := Lib.hid (HNX.out (HFO.out c1 c2))
              go_wp2_with fail
              go_roundw
              case rel => exact ⟨k + 1, by omega, by go_num, HL.out, hbz⟩
              case measure => simp [intOf]; omega
            · have d2 : decide (y ≤ v) = false := decide_eq_false c2
              have HQ := Lib.hid (HNE.out (fun h => c2 h.2))
              go_wp2_with fail
              go_roundw
              case rel => exact ⟨i + 1, by omega, by go_num, HQ.out, HS2.out, hbz⟩
              case measure => simp [intOf]; omega
          · have d1 : decide (u ≤ x) = false := decide_eq_false c1
            have HQ := Lib.hid (HNE.out (fun h => c1 h.1))
            go_wp2_with fail
            go_roundw
            case rel => exact ⟨i + 1, by omega, by go_num, HQ.out, HS2.out, hbz⟩
            case measure => simp [intOf]; omega
        · have hil : i = L.length := by omega
          subst hil
          have HQ := Lib.hid (HNO.out hnot)
          have hbf := below_on hb2 hbq
          clear hnot
          go_wp2_with fail
          try rw [Exit.noGoto_ret]
          go_ret
          exact ⟨by rw [HQ.out]; rfl, hbf⟩
    · have hkl : k = M.length := by omega
      subst hkl
      have HQ := Lib.hid (HY.out hal)
      have hbf := below_on hb2 hbw
      clear hal
      go_wp2_with fail
      try rw [Exit.noGoto_ret]
      go_ret
      exact ⟨by rw [HQ.out]; rfl, hbf⟩

end Go.Proofs.Ytnnmcnbpnfegpaa
