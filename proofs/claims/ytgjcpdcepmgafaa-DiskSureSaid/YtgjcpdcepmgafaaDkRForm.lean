/-
  What telltaleref08's Formed and place answer.
-/
import Derived.Test.YtgjcpdcepmgafaaDkForm
import Derived.WalkSmall
namespace Go.Proofs.Ytgjcpdcepmgafaa
open Go.RowKit

set_option maxRecDepth 100000 in
set_option maxHeartbeats 20000000 in
theorem rformed_any (room : Int) (A : Option Addr) (c : Nat) (L : List Fc) (w : World) (h : OneD w A c L) :
    Calls Try.prog 14 #[.agg #[.int .i64 room, .slice A L.length c]] w (Says (.bool (Dk.fmd room (L.map Fc.fi))) w) := by
  have hlen := h.len
  have HD := Lib.hid h
  clear h
  by_cases hr : Dk.win room 16777216 = true
  · obtain ⟨r0, r1⟩ := Dk.win_yes hr
    have hf : Dk.fmd room (L.map Fc.fi) = Dk.fmdF 0 room (L.map Fc.fi) := by
      unfold Dk.fmd
      rw [decide_eq_true (⟨r0, r1⟩ : 0 ≤ room ∧ room ≤ 16777216), Bool.true_and]
    rw [hf]
    obtain ⟨q, hq⟩ : ∃ q, Dk.fmdF 0 room (L.map Fc.fi) = q := ⟨_, rfl⟩
    rw [hq]
    have HQ := Lib.hid hq
    have d0 : decide (room < 0) = false := decide_eq_false (by omega)
    have d1 : decide (16777216 < room) = false := decide_eq_false (by omega)
    have bn := below_new (Below.refl w.heap.size w) (.cells #[.int .i64 room, .slice A L.length c] 24)
    have C1 := Lib.hid ((Blk.new w 24 #[.int .i64 room, .slice A L.length c]).cell (i := 1) rfl)
    clear hf hq hr
    go_enter Try.func14, Try.ntmps14
    go_wp2_with fail
    go_loopw [3, 4] (fun s3 s4 wr => ∃ (k : Nat) (least left : Int), k ≤ L.length ∧ s4 = .int .i64 (k : Int) ∧ s3 = .int .i64 left ∧ Dk.fmdF least left ((L.map Fc.fi).drop k) = q ∧ (0 ≤ least ∧ least ≤ 1048577) ∧ (0 ≤ left ∧ left ≤ 16777216) ∧ (k = 0 → least = 0) ∧ (∀ x, 0 < k → L[k - 1]? = some x → least = x.num + 1) ∧ Below w.heap.size w wr ∧ wr.cell? ⟨w.heap.size, 1, none⟩ = some (.slice A L.length c)) (fun _ s4 _ => L.length - (intOf s4).toNat)
    case atStart => exact ⟨0, 0, room, Nat.zero_le _, rfl, rfl, HQ.out, ⟨by omega, by omega⟩, ⟨r0, r1⟩, fun _ => rfl, fun _ h => absurd h (by omega), bn, C1.out⟩
    case round =>
      obtain ⟨k, least, left, hk, rfl, rfl, hq, ⟨hl0, hl1⟩, ⟨hf0, hf1⟩, hz, hp, hbw, hc1⟩ := hrel
      by_cases hlt : k < L.length
      · have hne : L ≠ [] := fun e => by subst e; simp at hlt
        obtain ⟨b, off, hA, hc⟩ := (HD.out.later hbw).at hne
        subst hA
        obtain ⟨x, hx⟩ : ∃ x, L[k]? = some x := ⟨L[k], List.getElem?_eq_getElem hlt⟩
        obtain ⟨y, hy⟩ : ∃ y, L[k - 1]? = some y := ⟨L[k - 1], List.getElem?_eq_getElem (by omega)⟩
        obtain ⟨e0, e1, e2⟩ := hc k x hx
        obtain ⟨f0, -, -⟩ := hc (k - 1) y hy
        have hpy := fun h => hp y h hy
        rw [drop_at L Fc.fi k x hx] at hq
        have hxl := (HD.out.one hx).len
        have hstep : (decide (least ≤ x.num ∧ x.num ≤ 1048576 ∧ 0 ≤ x.s ∧ x.s ≤ (x.l.length : Int) ∧ (x.l.length : Int) ≤ left) && Dk.fmdF (x.num + 1) (left - x.l.length) ((L.map Fc.fi).drop (k + 1))) = q := hq
        have hi0 : (0 : Int) ≤ (k : Int) := by omega
        have hi1 : (k : Int) < (L.length : Int) := by omega
        have HX := Lib.hid hx
        obtain ⟨num, X, cx, l, sr⟩ := x
        obtain ⟨yn, Y, cy, yl, ys⟩ := y
        dsimp only at e0 e1 e2 hstep hxl f0 hpy
        have HST := Lib.hid hstep
        have HC := Lib.hid hc1
        -- which test is the first that tells
        have hno : ¬ (least ≤ num ∧ num ≤ 1048576 ∧ 0 ≤ sr ∧ sr ≤ (l.length : Int) ∧ (l.length : Int) ≤ left) → q = false := fun h => by
          rw [← HST.out, decide_eq_false h, Bool.false_and]
        have hyes : (least ≤ num ∧ num ≤ 1048576 ∧ 0 ≤ sr ∧ sr ≤ (l.length : Int) ∧ (l.length : Int) ≤ left) → Dk.fmdF (num + 1) (left - l.length) ((L.map Fc.fi).drop (k + 1)) = q := fun h => by
          rw [← HST.out, decide_eq_true h, Bool.true_and]
        have HNO := Lib.hid hno
        have HYES := Lib.hid hyes
        obtain ⟨W1, hW1⟩ : ∃ W1, wr.alloc (.cells #[.int .i64 num, .slice X l.length cx, .int .i64 sr] 43) = W1 := ⟨_, rfl⟩
        have hb1 : Below wr.heap.size wr W1 := by rw [← hW1]; exact below_new (Below.refl _ _) _
        have hB1 : Blk W1 wr.heap.size 43 #[.int .i64 num, .slice X l.length cx, .int .i64 sr] := by rw [← hW1]; exact Blk.new wr _ _
        have g0 := hB1.cell (i := 0) rfl
        have g1 := hB1.cell (i := 1) rfl
        have g2 := hB1.cell (i := 2) rfl
        have f1 := cell_later hb1 f0
        have h1 := cell_later hb1 hc1
        have BN := Lib.hid (below_on hbw hb1)
        have HB1 := Lib.hid hb1
        have HW1 := Lib.hid hW1
        clear hb1 hB1 hW1 f0
        clear hq hstep hx hy hc hne hp HST hno hyes
        by_cases t1 : num < 0
        · have dt1 : decide (num < 0) = true := decide_eq_true t1
          have hqf := HNO.out (fun hh => by omega)
          subst hqf
          clear hz hpy
          go_wp2_with fail
          rw [HW1.out]
          go_quiet (fail)
          go_wp2
          go_ret
          exact ⟨rfl, below_drewN BN.out _⟩
        have dt1 : decide (num < 0) = false := decide_eq_false t1
        by_cases t2 : 1048576 < num
        · have dt2 : decide (1048576 < num) = true := decide_eq_true t2
          have hqf := HNO.out (fun hh => by omega)
          subst hqf
          clear hz hpy
          go_wp2_with fail
          rw [HW1.out]
          go_quiet (fail)
          go_wp2
          go_ret
          exact ⟨rfl, below_drewN BN.out _⟩
        have dt2 : decide (1048576 < num) = false := decide_eq_false t2
        by_cases tk : 0 < k
        · have dk : decide ((0 : Int) < (k : Int)) = true := decide_eq_true (by omega)
          have hle := hpy tk
          have k0 : (0 : Int) ≤ (k : Int) - 1 := by omega
          have k1 : (k : Int) - 1 < (L.length : Int) := by omega
          have kw : IntKind.i64.wrap ((k : Int) - 1) = (k : Int) - 1 := IntWalk.i64_in _ (by omega)
          have kt : ((k : Int) - 1).toNat = k - 1 := by omega
          by_cases tp : num ≤ yn
          · have dtp : decide (num ≤ yn) = true := decide_eq_true tp
            have hqf := HNO.out (fun hh => by omega)
            subst hqf
            clear hz hpy
            go_wp2_with fail
            rw [HW1.out]
            go_quiet (fail)
            go_wp2
            go_ret
            exact ⟨rfl, below_drewN BN.out _⟩
          have dtp : decide (num ≤ yn) = false := decide_eq_false tp
          by_cases t3 : sr < 0
          · have dt3 : decide (sr < 0) = true := decide_eq_true t3
            have hqf := HNO.out (fun hh => by omega)
            subst hqf
            clear hz hpy
            go_wp2_with fail
            rw [HW1.out]
            go_quiet (fail)
            go_wp2
            go_ret
            exact ⟨rfl, below_drewN BN.out _⟩
          have dt3 : decide (sr < 0) = false := decide_eq_false t3
          by_cases t4 : (l.length : Int) < sr
          · have dt4 : decide ((l.length : Int) < sr) = true := decide_eq_true t4
            have hqf := HNO.out (fun hh => by omega)
            subst hqf
            clear hz hpy
            go_wp2_with fail
            rw [HW1.out]
            go_quiet (fail)
            go_wp2
            go_ret
            exact ⟨rfl, below_drewN BN.out _⟩
          have dt4 : decide ((l.length : Int) < sr) = false := decide_eq_false t4
          by_cases t5 : left < (l.length : Int)
          · have dt5 : decide (left < (l.length : Int)) = true := decide_eq_true t5
            have hqf := HNO.out (fun hh => by omega)
            subst hqf
            clear hz hpy
            go_wp2_with fail
            rw [HW1.out]
            go_quiet (fail)
            go_wp2
            go_ret
            exact ⟨rfl, below_drewN BN.out _⟩
          have dt5 : decide (left < (l.length : Int)) = false := decide_eq_false t5
          have hnx := HYES.out ⟨by omega, by omega, by omega, by omega, by omega⟩
          have HNX := Lib.hid hnx
          clear hnx hz hpy
          go_wp2_with fail
          rw [HW1.out]
          go_quiet (fail)
          go_wp2_with fail
          go_roundw
          case rel => exact ⟨k + 1, num + 1, left - l.length, by omega, by first | rfl | go_num, by first | rfl | go_num, HNX.out, ⟨by omega, by omega⟩, ⟨by omega, by omega⟩, (fun h => by omega), (fun x _ hx2 => by rw [Nat.add_sub_cancel, HX.out] at hx2; cases hx2; rfl), below_drewN BN.out _, cell_later (below_drewN HB1.out _) HC.out⟩
          case measure => simp [intOf]; omega
        · have dk : decide ((0 : Int) < (k : Int)) = false := decide_eq_false (by omega)
          have hle := hz (by omega)
          by_cases t3 : sr < 0
          · have dt3 : decide (sr < 0) = true := decide_eq_true t3
            have hqf := HNO.out (fun hh => by omega)
            subst hqf
            clear hz hpy
            go_wp2_with fail
            rw [HW1.out]
            go_quiet (fail)
            go_wp2
            go_ret
            exact ⟨rfl, below_drewN BN.out _⟩
          have dt3 : decide (sr < 0) = false := decide_eq_false t3
          by_cases t4 : (l.length : Int) < sr
          · have dt4 : decide ((l.length : Int) < sr) = true := decide_eq_true t4
            have hqf := HNO.out (fun hh => by omega)
            subst hqf
            clear hz hpy
            go_wp2_with fail
            rw [HW1.out]
            go_quiet (fail)
            go_wp2
            go_ret
            exact ⟨rfl, below_drewN BN.out _⟩
          have dt4 : decide ((l.length : Int) < sr) = false := decide_eq_false t4
          by_cases t5 : left < (l.length : Int)
          · have dt5 : decide (left < (l.length : Int)) = true := decide_eq_true t5
            have hqf := HNO.out (fun hh => by omega)
            subst hqf
            clear hz hpy
            go_wp2_with fail
            rw [HW1.out]
            go_quiet (fail)
            go_wp2
            go_ret
            exact ⟨rfl, below_drewN BN.out _⟩
          have dt5 : decide (left < (l.length : Int)) = false := decide_eq_false t5
          have hnx := HYES.out ⟨by omega, by omega, by omega, by omega, by omega⟩
          have HNX := Lib.hid hnx
          clear hnx hz hpy
          go_wp2_with fail
          rw [HW1.out]
          go_quiet (fail)
          go_wp2_with fail
          go_roundw
          case rel => exact ⟨k + 1, num + 1, left - l.length, by omega, by first | rfl | go_num, by first | rfl | go_num, HNX.out, ⟨by omega, by omega⟩, ⟨by omega, by omega⟩, (fun h => by omega), (fun x _ hx2 => by rw [Nat.add_sub_cancel, HX.out] at hx2; cases hx2; rfl), below_drewN BN.out _, cell_later (below_drewN HB1.out _) HC.out⟩
          case measure => simp [intOf]; omega
      · have hkl : k = L.length := by omega
        have hqt : q = true := by
          rw [← hq, List.drop_of_length_le (by rw [List.length_map]; omega)]
          rfl
        subst hqt
        clear hq hz hp
        have hd : decide ((k : Int) < (L.length : Int)) = false := decide_eq_false (by omega)
        clear hkl
        go_wp2
        go_ret
        exact ⟨rfl, hbw⟩
  · have hr' : Dk.win room 16777216 = false := by simpa using hr
    have hn := Dk.win_no hr'
    have hf : Dk.fmd room (L.map Fc.fi) = false := by
      unfold Dk.fmd
      rw [decide_eq_false hn, Bool.false_and]
    rw [hf]
    clear hf hr hr'
    by_cases h0 : room < 0
    · have d0 : decide (room < 0) = true := decide_eq_true h0
      clear hn
      go_enter Try.func14, Try.ntmps14
      go_wp2
      go_ret
      exact ⟨rfl, below_new (Below.refl _ _) _⟩
    · have d0 : decide (room < 0) = false := decide_eq_false h0
      have d1 : decide (16777216 < room) = true := decide_eq_true (by omega)
      clear hn
      go_enter Try.func14, Try.ntmps14
      go_wp2
      go_ret
      exact ⟨rfl, below_new (Below.refl _ _) _⟩
end Go.Proofs.Ytgjcpdcepmgafaa
