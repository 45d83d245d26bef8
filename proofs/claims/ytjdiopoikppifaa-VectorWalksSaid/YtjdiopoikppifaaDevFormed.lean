/-
  What vector's Formed answers of any list.
-/
import Derived.Test.YtjdiopoikppifaaDevSmall
namespace Go.Proofs.Ytjdiopoikppifaa
open Go.RowKit

/-- The node of the last stamp of the first k; -1 if there is none. -/
def lastN (l : List (Int × Int)) : Nat → Int
  | 0 => -1
  | k + 1 => (l.getD k (0, 0)).2

set_option maxHeartbeats 1600000 in
theorem formed_any (A : Option Addr) (c1 : Nat) (l : List (Int × Int)) (w : World) (h1 : OneL w A c1 l) :
    Calls Try.prog 15 #[.slice A l.length c1] w (Says (.bool (Ve.fmd l)) w) := by
  have hl := h1.len
  have H1 := Lib.hid h1.stamps
  clear h1
  go_enter Try.func15, Try.ntmps15
  go_wp2_with fail
  go_loopw [3, 8] (fun s3 s8 wr => ∃ k : Nat, k ≤ l.length ∧ s8 = .int .i64 (k : Int) ∧ s3 = .int .i64 (lastN l k) ∧ Ve.fmTo l k ∧ Below w.heap.size w wr) (fun _ s8 _ => l.length - (intOf s8).toNat)
  case atStart => exact ⟨0, Nat.zero_le _, rfl, rfl, fun j hj => by omega, Below.refl _ _⟩
  case round =>
    obtain ⟨k, hk, rfl, rfl, heq, hbw⟩ := hrel
    have HEQ := Lib.hid heq
    clear heq
    by_cases hlt : k < l.length
    · have hne : l ≠ [] := fun e => by subst e; simp at hlt
      obtain ⟨b, off, hA, hcA⟩ := (H1.out.later hbw) hne
      subst hA
      obtain ⟨e0, e1⟩ := hcA k hlt
      have hi0 : (0 : Int) ≤ (k : Int) := by omega
      have hi1 : (k : Int) < (l.length : Int) := by omega
      obtain ⟨x, hx⟩ : ∃ x, l.getD k (0, 0) = x := ⟨_, rfl⟩
      rw [hx] at e0 e1
      obtain ⟨x1, x2⟩ := x
      have HB2 := Lib.hid (Blk.new wr 24 #[.int .i64 x1, .int .i64 x2])
      have hbn := below_new hbw (.cells #[.int .i64 x1, .int .i64 x2] 24)
      obtain ⟨ln, hln⟩ : ∃ ln, lastN l k = ln := ⟨_, rfl⟩
      rw [hln]
      have hprev : 0 < k → (l.getD (k - 1) (0, 0)).2 = ln := fun h => by
        cases k with
        | zero => omega
        | succ m => rw [← hln]; rfl
      have hz : k = 0 → ln = -1 := fun h => by subst h; rw [← hln]; rfl
      have hnext : lastN l (k + 1) = x2 := by show (l.getD k (0, 0)).2 = x2; rw [hx]
      have HX := Lib.hid hx
      have HP := Lib.hid hprev
      have HZ := Lib.hid hz
      have HN := Lib.hid hnext
      have HLN := Lib.hid hln
      clear hx hprev hz hnext hln hcA
      go_wp2_with fail
      refine (right_any _ _ _).mono ?_
      rintro e w1 ⟨rfl, hb1⟩
      have hbx := below_on hbn hb1
      have B2 := HB2.out.later hb1
      have g0 := B2.cell (i := 0) rfl
      have g1 := B2.cell (i := 1) rfl
      clear HB2 B2
      cases hr : St.rgt x1 x2
      · have hno : Ve.fmd l = false := Ve.fmd_no k hlt (fun h => by rw [HX.out, hr] at h; exact absurd h.1 (by simp))
        have HNO := Lib.hid hno
        clear hno hr
        go_wp2
        go_ret
        exact ⟨by rw [HNO.out]; rfl, hbx⟩
      · have hrr : 1 ≤ x1 ∧ 0 ≤ x2 ∧ x2 ≤ 63 := by unfold St.rgt at hr; exact of_decide_eq_true hr
        have HR := Lib.hid hr
        clear hr
        by_cases hle : x2 ≤ ln
        · have hd : decide (x2 ≤ ln) = true := decide_eq_true hle
          have hno : Ve.fmd l = false := Ve.fmd_no k hlt (fun h => by
            by_cases hk0 : k = 0
            · have := HZ.out hk0; omega
            · have h2 := h.2 (by omega)
              rw [HX.out, HP.out (by omega)] at h2
              have h3 : ln < x2 := h2
              omega)
          have HNO := Lib.hid hno
          clear hno
          go_wp2
          go_ret
          exact ⟨by rw [HNO.out]; rfl, hbx⟩
        · have hd : decide (x2 ≤ ln) = false := decide_eq_false hle
          have hall : Ve.fmTo l (k + 1) := by
            intro j hj
            by_cases e : j = k
            · subst e
              refine ⟨by rw [HX.out]; exact HR.out, fun h0 => ?_⟩
              rw [HX.out, HP.out h0]
              show ln < x2
              omega
            · exact HEQ.out j (by omega)
          have HALL := Lib.hid hall
          clear hall
          go_wp2_with fail
          go_roundw
          case rel => exact ⟨k + 1, by omega, by go_num, by rw [HN.out], HALL.out, hbx⟩
          case measure => simp [intOf]; omega
    · have hkl : k = l.length := by omega
      subst hkl
      have hyes : Ve.fmd l = true := (Ve.fmd_iff l).2 HEQ.out
      have HY := Lib.hid hyes
      clear hyes
      go_wp2
      go_ret
      exact ⟨by rw [HY.out]; rfl, hbw⟩

end Go.Proofs.Ytjdiopoikppifaa
