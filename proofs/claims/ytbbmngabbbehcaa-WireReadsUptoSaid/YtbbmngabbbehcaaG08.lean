/-
  What telltaleref02's Same, Copy and Formed answer of any lists of stamps in memory.
  What telltaleref02's Formed answers of any list of stamps in memory.
  What telltaleref02's Join answers of any lists of stamps in memory.
  What telltaleref02's Two and With answer of any lists of stamps in memory.
-/
import Derived.Test.YtbbmngabbbehcaaG07
import Derived.Test.YtbbmngabbbehcaaG02
import Derived.Test.YtbbmngabbbehcaaG01
namespace Go.Proofs.Ytbbmngabbbehcaa
open Go.RowKit

set_option maxHeartbeats 1600000 in
theorem rsame_any (A B : Option Addr) (c1 c2 : Nat) (l r : List (Int × Int)) (w : World) (hl : l.length ≤ 9223372036854775807) (h1 : Stamps w A l) (h2 : Stamps w B r) :
    Calls Try.prog 18 #[.slice A l.length c1, .slice B r.length c2] w fun e w' => e = .returned (.bool (decide (l = r))) ∧ Below w.heap.size w w' := by
  have H1 := Lib.hid h1
  have H2 := Lib.hid h2
  clear h1 h2
  by_cases hlen : l.length = r.length
  · have hd0 : ((l.length : Int) != (r.length : Int)) = false := by rw [bne_eq_false_iff_eq]; omega
    have HLEN := Lib.hid hlen
    have hr1 : r.length ≤ l.length := by omega
    have hr2 : l.length ≤ r.length := by omega
    clear hlen
    go_enter Try.func18, Try.ntmps18
    go_wp2_with fail
    go_loopw [5] (fun s5 wr => ∃ k : Nat, k ≤ l.length ∧ s5 = .int .i64 (k : Int) ∧ (∀ j, j < k → l.getD j (0, 0) = r.getD j (0, 0)) ∧ Below w.heap.size w wr) (fun s5 _ => l.length - (intOf s5).toNat)
    case atStart => exact ⟨0, Nat.zero_le _, rfl, fun j hj => by omega, Below.refl _ _⟩
    case round =>
      obtain ⟨k, hk, rfl, heq, hbw⟩ := hrel
      have HEQ := Lib.hid heq
      clear heq
      by_cases hlt : k < l.length
      · have hne : l ≠ [] := fun e => by subst e; simp at hlt
        have hne2 : r ≠ [] := fun e => by have := HLEN.out; subst e; simp at this; exact hne this
        obtain ⟨b, off, hA, hcA⟩ := (H1.out.later hbw) hne
        obtain ⟨b', off', hB, hcB⟩ := (H2.out.later hbw) hne2
        obtain ⟨e0, e1⟩ := hcA k hlt
        obtain ⟨f0, f1⟩ := hcB k (by omega)
        have H1' := H1
        have H2' := H2
        subst hA hB
        clear hcA hcB
        have hi0 : (0 : Int) ≤ (k : Int) := by omega
        have hi1 : (k : Int) < (l.length : Int) := by omega
        have hi2 : (k : Int) < (r.length : Int) := by omega
        obtain ⟨x, hx⟩ : ∃ x, l.getD k (0, 0) = x := ⟨_, rfl⟩
        obtain ⟨y, hy⟩ : ∃ y, r.getD k (0, 0) = y := ⟨_, rfl⟩
        rw [hx] at e0 e1
        rw [hy] at f0 f1
        have HX := Lib.hid hx
        have HY := Lib.hid hy
        clear hx hy
        by_cases hxy : x = y
        · subst hxy
          go_wp2_with fail
          go_quiet (fail)
          go_wp2_with fail
          go_roundw
          case rel =>
            refine ⟨k + 1, by omega, by go_num, ?_, below_drewN hbw _⟩
            intro j hj
            by_cases e : j = k
            · subst e; rw [HX.out, HY.out]
            · exact HEQ.out j (by omega)
          case measure => simp [intOf]; omega
        · have hno : decide (l = r) = false := decide_eq_false (fun e => hxy (by rw [← HX.out, ← HY.out, e]))
          have HNO := Lib.hid hno
          clear hno
          obtain ⟨x1, x2⟩ := x
          obtain ⟨y1, y2⟩ := y
          by_cases h1 : x1 = y1
          · subst h1
            have h2 : (x2 == y2) = false := beq_eq_false_iff_ne.2 (fun e => hxy (by rw [e]))
            clear hxy
            go_wp2_with fail
            go_quiet (fail)
            go_wp2
            go_ret
            exact ⟨by rw [HNO.out]; rfl, below_drewN hbw _⟩
          · have h1b : (x1 == y1) = false := beq_eq_false_iff_ne.2 h1
            clear hxy h1
            go_wp2_with fail
            go_quiet (fail)
            go_wp2
            go_ret
            exact ⟨by rw [HNO.out]; rfl, below_drewN hbw _⟩
      · have hyes : decide (l = r) = true := decide_eq_true (take_ext HLEN.out (fun j hj => HEQ.out j (by omega)))
        have HY := Lib.hid hyes
        clear hyes
        go_wp2
        go_ret
        exact ⟨by rw [HY.out]; rfl, hbw⟩
  · have hd0 : ((l.length : Int) != (r.length : Int)) = true := by rw [bne_iff_ne]; omega
    have hno : decide (l = r) = false := decide_eq_false (fun e => hlen (by rw [e]))
    have HNO := Lib.hid hno
    clear hno
    go_enter Try.func18, Try.ntmps18
    go_wp2
    go_ret
    exact ⟨by rw [HNO.out]; rfl, Below.refl _ _⟩

end Go.Proofs.Ytbbmngabbbehcaa
namespace Go.Proofs.Ytbbmngabbbehcaa
open Go.RowKit

set_option maxHeartbeats 1600000 in
theorem rformed_any (A : Option Addr) (c1 : Nat) (l : List (Int × Int)) (w : World) (hl : l.length ≤ 9223372036854775807) (h1 : Stamps w A l) :
    Calls Try.prog 11 #[.slice A l.length c1] w fun e w' => e = .returned (.bool (Ve.fmd l)) ∧ Below w.heap.size w w' := by
  have H1 := Lib.hid h1
  clear h1
  go_enter Try.func11, Try.ntmps11
  go_wp2_with fail
  go_loopw [3] (fun s3 wr => ∃ k : Nat, k ≤ l.length ∧ s3 = .int .i64 (k : Int) ∧ Ve.fmTo l k ∧ Below w.heap.size w wr) (fun s3 _ => l.length - (intOf s3).toNat)
  case atStart => exact ⟨0, Nat.zero_le _, rfl, fun j hj => by omega, Below.refl _ _⟩
  case round =>
    obtain ⟨k, hk, rfl, heq, hbw⟩ := hrel
    have HEQ := Lib.hid heq
    clear heq
    by_cases hlt : k < l.length
    · have hne : l ≠ [] := fun e => by subst e; simp at hlt
      obtain ⟨b, off, hA, hcA⟩ := (H1.out.later hbw) hne
      subst hA
      obtain ⟨e0, e1⟩ := hcA k hlt
      have hi0 : (0 : Int) ≤ (k : Int) := by omega
      have hi1 : (k : Int) < (l.length : Int) := by omega
      obtain ⟨x, hx⟩ : ∃ x, l.getD k (0, 0) = x := ⟨_, rfl⟩
      rw [hx] at e0 e1
      have k0 : ∀ d os, (Sort.grow (redrawn wr d) os).cell? ⟨b, off + k * 2, none⟩ = some (.int .i64 x.1) := cell_regrown e0
      have k1 : ∀ d os, (Sort.grow (redrawn wr d) os).cell? ⟨b, off + k * 2 + 1, none⟩ = some (.int .i64 x.2) := cell_regrown e1
      have cR : ∀ d os, Calls Try.prog 46 #[.agg #[.int .i64 x.1, .int .i64 x.2]] (Sort.grow (redrawn wr d) os) fun e w'' => e = .returned (.bool (St.rgt x.1 x.2)) ∧ ∃ p : Regrown, w'' = Sort.grow (redrawn wr p.d) p.os := fun d os => Calls.regrown_of (rright_any x.1 x.2 _)
      clear e0 e1
      cases hr : St.rgt x.1 x.2
      · rw [hr] at cR
        have hno : Ve.fmd l = false := Ve.fmd_no k hlt (fun h => by rw [hx, hr] at h; exact absurd h.1 (by simp))
        have HNO := Lib.hid hno
        have CR := Lib.hid cR
        have HX := Lib.hid hx
        clear hno cR hx hcA hr
        go_wp2_with fail
        refine wp_region_quiet_below (by kernel_rfl) (by kernel_rfl) ?_
        repeat (first | go_big_quiet_step (exact CR.out _ _) | quiet_step (exact CR.out _ _))
        refine wpQuiet_nil ?_
        intro _ hw'
        obtain ⟨⟨dq, osq⟩, hw''⟩ := hw'
        subst hw''
        go_wp2
        go_ret
        exact ⟨by rw [HNO.out]; rfl, below_on hbw (below_regrown wr dq osq)⟩
      · rw [hr] at cR
        cases k with
        | zero =>
          simp only [Nat.zero_mul, Nat.add_zero] at k0 k1
          have HX := Lib.hid hx
          have HR := Lib.hid hr
          have CR := Lib.hid cR
          clear cR hx hcA hr
          go_wp2_with fail
          refine wp_region_quiet_below (by kernel_rfl) (by kernel_rfl) ?_
          repeat (first | go_big_quiet_step (exact CR.out _ _) | quiet_step (exact CR.out _ _))
          refine wpQuiet_nil ?_
          intro _ hw'
          obtain ⟨⟨dq, osq⟩, hw''⟩ := hw'
          subst hw''
          go_wp2_with fail
          go_roundw
          case rel =>
            refine ⟨1, by omega, by go_num, ?_, below_on hbw (below_regrown wr dq osq)⟩
            intro j hj
            have hj0 : j = 0 := by omega
            subst hj0
            exact ⟨by rw [HX.out]; exact HR.out, fun h => absurd h (by omega)⟩
          case measure => simp [intOf]; omega
        | succ m =>
          obtain ⟨_, f1⟩ := hcA m (by omega)
          obtain ⟨y, hy⟩ : ∃ y, l.getD m (0, 0) = y := ⟨_, rfl⟩
          rw [hy] at f1
          have k2 : ∀ d os, (Sort.grow (redrawn wr d) os).cell? ⟨b, off + m * 2 + 1, none⟩ = some (.int .i64 y.2) := cell_regrown f1
          clear f1
          have hm1 : ((m + 1 : Nat) : Int) - 1 = (m : Int) := by omega
          have hj0 : (0 : Int) ≤ (m : Int) := by omega
          have hj1 : (m : Int) < (l.length : Int) := by omega
          have hg : decide (((m + 1 : Nat) : Int) > 0) = true := decide_eq_true (by omega)
          by_cases hge : y.2 < x.2
          · have hd : decide (y.2 < x.2) = true := decide_eq_true hge
            have HX := Lib.hid hx
            have HY := Lib.hid hy
            have HR := Lib.hid hr
            have CR := Lib.hid cR
            clear cR hx hcA hr hy
            go_wp2_with fail
            refine wp_region_quiet_below (by kernel_rfl) (by kernel_rfl) ?_
            repeat (first | go_big_quiet_step (exact CR.out _ _) | quiet_step (exact CR.out _ _))
            refine wpQuiet_nil ?_
            intro _ hw'
            obtain ⟨⟨dq, osq⟩, hw''⟩ := hw'
            subst hw''
            go_wp2_with fail
            go_roundw
            case rel =>
              refine ⟨m + 1 + 1, by omega, by go_num, ?_, below_on hbw (below_regrown wr dq osq)⟩
              intro j hj
              by_cases e : j = m + 1
              · subst e
                exact ⟨by rw [HX.out]; exact HR.out, fun _ => by rw [show m + 1 - 1 = m from rfl, HX.out, HY.out]; exact hge⟩
              · exact HEQ.out j (by omega)
            case measure => simp [intOf]; omega
          · have hd : decide (y.2 < x.2) = false := decide_eq_false hge
            have hno : Ve.fmd l = false := Ve.fmd_no (m + 1) hlt (fun h => hge (by have := h.2 (by omega); rw [show m + 1 - 1 = m from rfl, hx, hy] at this; exact this))
            have HNO := Lib.hid hno
            have HX := Lib.hid hx
            have HY := Lib.hid hy
            have CR := Lib.hid cR
            clear hno cR hx hcA hr hy
            go_wp2_with fail
            refine wp_region_quiet_below (by kernel_rfl) (by kernel_rfl) ?_
            repeat (first | go_big_quiet_step (exact CR.out _ _) | quiet_step (exact CR.out _ _))
            refine wpQuiet_nil ?_
            intro _ hw'
            obtain ⟨⟨dq, osq⟩, hw''⟩ := hw'
            subst hw''
            go_wp2
            go_ret
            exact ⟨by rw [HNO.out]; rfl, below_on hbw (below_regrown wr dq osq)⟩
    · have hkl : k = l.length := by omega
      subst hkl
      have hyes : Ve.fmd l = true := (Ve.fmd_iff l).2 HEQ.out
      have HY := Lib.hid hyes
      clear hyes
      go_wp2
      go_ret
      exact ⟨by rw [HY.out]; rfl, hbw⟩

end Go.Proofs.Ytbbmngabbbehcaa
namespace Go.Proofs.Ytbbmngabbbehcaa
open Go.RowKit

end Go.Proofs.Ytbbmngabbbehcaa
namespace Go.Proofs.Ytbbmngabbbehcaa
open Go.RowKit

end Go.Proofs.Ytbbmngabbbehcaa
