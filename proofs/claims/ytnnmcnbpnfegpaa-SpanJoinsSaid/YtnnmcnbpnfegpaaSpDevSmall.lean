/-
  What span's isObject, Formed and Has answer.
-/
import Derived.Test.YtnnmcnbpnfegpaaSpSpec
namespace Go.Proofs.Ytnnmcnbpnfegpaa
open Go.RowKit Fb

set_option maxHeartbeats 800000 in
theorem isObject_any (o : Int) (w : World) : Calls Try.prog 32 #[.int .i64 o] w fun e w' => e = .returned (.bool (decide (0 ≤ o ∧ o ≤ 255))) ∧ Below w.heap.size w w' := by
  by_cases h0 : 0 ≤ o
  · have d0 : decide (0 ≤ o) = true := decide_eq_true h0
    by_cases h1 : o < 256
    · have d1 : decide (o < 256) = true := decide_eq_true h1
      rw [show decide (0 ≤ o ∧ o ≤ 255) = true from decide_eq_true (by omega)]
      go_enter Try.func32, Try.ntmps32
      go_wp2
      go_ret
      exact ⟨rfl, Below.refl _ _⟩
    · have d1 : decide (o < 256) = false := decide_eq_false h1
      rw [show decide (0 ≤ o ∧ o ≤ 255) = false from decide_eq_false (by omega)]
      go_enter Try.func32, Try.ntmps32
      go_wp2
      go_ret
      exact ⟨rfl, Below.refl _ _⟩
  · have d0 : decide (0 ≤ o) = false := decide_eq_false h0
    rw [show decide (0 ≤ o ∧ o ≤ 255) = false from decide_eq_false (by omega)]
    go_enter Try.func32, Try.ntmps32
    go_wp2
    go_ret
    exact ⟨rfl, Below.refl _ _⟩

/-- A span as it must be behind those ahead of it. -/
def Sp.apt (l : List (Int × Int)) (j : Nat) : Prop := 0 ≤ (l.getD j (0, 0)).1 ∧ (l.getD j (0, 0)).1 ≤ (l.getD j (0, 0)).2 ∧ (l.getD j (0, 0)).2 < 256 ∧ (0 < j → (l.getD (j - 1) (0, 0)).2 + 1 < (l.getD j (0, 0)).1)
theorem Sp.apt_good (l : List (Int × Int)) : Sp.good 256 l ↔ ∀ j, j < l.length → Sp.apt l j := Iff.rfl
theorem Sp.fmd_no (l : List (Int × Int)) (k : Nat) (hk : k < l.length) (h : ¬ Sp.apt l k) : Sp.fmd l = false := by
  rcases Sp.two (Sp.fmd l) with h1 | h1
  · exact absurd ((Sp.fmd_iff l).1 h1 k hk) h
  · exact h1

set_option maxHeartbeats 1600000 in
theorem formed_any (A : Option Addr) (c1 : Nat) (l : List (Int × Int)) (w : World) (h1 : OneL w A c1 l) :
    Calls Try.prog 11 #[.slice A l.length c1] w (Says (.bool (Sp.fmd l)) w) := by
  have hl := h1.len
  have HS := Lib.hid h1.stamps
  clear h1
  go_enter Try.func11, Try.ntmps11
  go_wp2_with fail
  go_loopw [3, 8] (fun s3 s8 wr => ∃ (k : Nat) (least : Int), k ≤ l.length ∧ s8 = .int .i64 (k : Int) ∧ s3 = .int .i64 least ∧ (∀ j, j < k → Sp.apt l j) ∧ ((k = 0 ∧ least = 0) ∨ (0 < k ∧ least = (l.getD (k - 1) (0, 0)).2 + 2)) ∧ Below w.heap.size w wr) (fun _ s8 _ => l.length - (intOf s8).toNat)
  case atStart => exact ⟨0, 0, Nat.zero_le _, rfl, rfl, fun j hj => by omega, .inl ⟨rfl, rfl⟩, Below.refl _ _⟩
  case round =>
    obtain ⟨k, least, hk, rfl, rfl, hap, hle, hbw⟩ := hrel
    by_cases hlt : k < l.length
    · have hne : l ≠ [] := fun e => by subst e; simp at hlt
      obtain ⟨b, off, hA, hc⟩ := (HS.out.later hbw) hne
      subst hA
      obtain ⟨e0, e1⟩ := hc k hlt
      have hi0 : (0 : Int) ≤ (k : Int) := by omega
      have hi1 : (k : Int) < (l.length : Int) := by omega
      have hno := Sp.fmd_no l k hlt
      have hyes : Sp.apt l k → ∀ j, j < k + 1 → Sp.apt l j := fun h j hj => by
        by_cases e : j = k
        · rw [e]; exact h
        · exact hap j (by omega)
      have hle2 : (l.getD k (0, 0)).1 < least → ¬ Sp.apt l k := fun h1 h2 => by
        obtain ⟨q1, q2, q3, q4⟩ := h2
        rcases hle with ⟨h3, h4⟩ | ⟨h3, h4⟩
        · omega
        · have := q4 h3
          omega
      have hle3 : ¬ (l.getD k (0, 0)).1 < least → 0 ≤ (l.getD k (0, 0)).1 ∧ (0 < k → (l.getD (k - 1) (0, 0)).2 + 1 < (l.getD k (0, 0)).1) := fun h1 => by
        rcases hle with ⟨h3, h4⟩ | ⟨h3, h4⟩
        · exact ⟨by omega, by omega⟩
        · obtain ⟨q1, q2, q3, q4⟩ := hap (k - 1) (by omega)
          exact ⟨by omega, by omega⟩
      have hapt : Sp.apt l k = (0 ≤ (l.getD k (0, 0)).1 ∧ (l.getD k (0, 0)).1 ≤ (l.getD k (0, 0)).2 ∧ (l.getD k (0, 0)).2 < 256 ∧ (0 < k → (l.getD (k - 1) (0, 0)).2 + 1 < (l.getD k (0, 0)).1)) := rfl
      have hnx : l.getD (k + 1 - 1) (0, 0) = l.getD k (0, 0) := by rw [Nat.add_sub_cancel]
      obtain ⟨z, hz⟩ : ∃ z, l.getD k (0, 0) = z := ⟨_, rfl⟩
      rw [hz] at e0 e1 hle2 hle3 hapt hnx
      obtain ⟨x, y⟩ := z
      have hle2 : x < least → ¬ Sp.apt l k := hle2
      have hle3 : ¬ x < least → 0 ≤ x ∧ (0 < k → (l.getD (k - 1) (0, 0)).2 + 1 < x) := hle3
      have hapt : Sp.apt l k = (0 ≤ x ∧ x ≤ y ∧ y < 256 ∧ (0 < k → (l.getD (k - 1) (0, 0)).2 + 1 < x)) := hapt
      have HNO := Lib.hid hno
      have HY := Lib.hid hyes
      have HNX := Lib.hid hnx
      have HLE3 := Lib.hid hle3
      have HLE2 := Lib.hid hle2
      have HAPT := Lib.hid hapt
      have hbn := below_new hbw (.cells #[.int .i64 x, .int .i64 y] 44)
      clear hno hyes hnx hle hap hz hle2 hle3 hapt hc
      by_cases c1 : x < least
      · have d1 : decide (x < least) = true := decide_eq_true c1
        have HQ := Lib.hid (HNO.out (HLE2.out c1))
        clear HNO HLE2 HLE3 HAPT
        go_wp2
        go_ret
        exact ⟨by rw [HQ.out]; rfl, hbn⟩
      · have d1 : decide (x < least) = false := decide_eq_false c1
        by_cases c2 : y < x
        · have d2 : decide (y < x) = true := decide_eq_true c2
          have HQ := Lib.hid (HNO.out (fun h => by rw [HAPT.out] at h; omega))
          clear HNO HLE2 HLE3 HAPT
          go_wp2
          go_ret
          exact ⟨by rw [HQ.out]; rfl, hbn⟩
        · have d2 : decide (y < x) = false := decide_eq_false c2
          have n1 := fun wx => isObject_any y wx
          obtain ⟨q1, q2⟩ := HLE3.out c1
          have HQ2 := Lib.hid q2
          clear q2
          by_cases c3 : y < 256
          · have d3 : decide (0 ≤ y ∧ y ≤ 255) = true := decide_eq_true (by omega)
            rw [d3] at n1
            have N1 := Lib.hid n1
            have HAP := Lib.hid (show Sp.apt l k from by rw [HAPT.out]; exact ⟨q1, by omega, c3, HQ2.out⟩)
            clear HNO HLE2 HLE3 HAPT d3 n1
            go_wp2_with fail
            refine (N1.out _).mono ?_
            rintro e w2 ⟨rfl, b2⟩
            have hb2 := below_on hbn b2
            have hB := (Blk.new wr 44 #[.int .i64 x, .int .i64 y]).later b2
            have g1 := hB.cell (i := 1) rfl
            go_wp2_with fail
            go_roundw
            case rel => exact ⟨k + 1, y + 2, by omega, by go_num, by go_num, HY.out HAP.out, .inr ⟨by omega, by rw [HNX.out]⟩, hb2⟩
            case measure => simp [intOf]; omega
          · have d3 : decide (0 ≤ y ∧ y ≤ 255) = false := decide_eq_false (by omega)
            rw [d3] at n1
            have N1 := Lib.hid n1
            have HQ := Lib.hid (HNO.out (fun h => by rw [HAPT.out] at h; omega))
            clear HNO HLE2 HLE3 HAPT d3 n1
            go_wp2_with fail
            refine (N1.out _).mono ?_
            rintro e w2 ⟨rfl, b2⟩
            have hb2 := below_on hbn b2
            go_wp2
            go_ret
            exact ⟨by rw [HQ.out]; rfl, hb2⟩
    · have HQ := Lib.hid (show Sp.fmd l = true from (Sp.fmd_iff l).2 (fun j hj => hap j (by omega)))
      clear hap hle
      go_wp2
      go_ret
      exact ⟨by rw [HQ.out]; rfl, hbw⟩

set_option maxHeartbeats 1600000 in
theorem has_any (A : Option Addr) (c1 : Nat) (l : List (Int × Int)) (o : Int) (w : World) (h1 : OneL w A c1 l) :
    Calls Try.prog 13 #[.slice A l.length c1, .int .i64 o] w (Says (.bool (inOf l o)) w) := by
  have hl := h1.len
  have n1 := isObject_any o
  by_cases h0 : 0 ≤ o ∧ o ≤ 255
  · obtain ⟨p, rfl⟩ : ∃ p : Nat, o = (p : Int) := ⟨o.toNat, by omega⟩
    have hi : inOf l (p : Int) = Sp.inL l p := by unfold inOf; rw [decide_eq_true h0]; rfl
    rw [decide_eq_true h0] at n1
    rw [hi]
    have N1 := Lib.hid n1
    have HS := Lib.hid h1.stamps
    clear n1 h1 hi h0
    go_enter Try.func13, Try.ntmps13
    go_wp2_with fail
    refine (N1.out _).mono ?_
    rintro e w1 ⟨rfl, b1⟩
    clear N1
    go_wp2_with fail
    go_loopw [12] (fun s12 wr => ∃ k : Nat, k ≤ l.length ∧ s12 = .int .i64 (k : Int) ∧ Sp.inL (l.take k) p = false ∧ Below w.heap.size w wr) (fun s12 _ => l.length - (intOf s12).toNat)
    case atStart => exact ⟨0, Nat.zero_le _, rfl, rfl, b1⟩
    case round =>
      obtain ⟨k, hk, rfl, hin, hbw⟩ := hrel
      by_cases hlt : k < l.length
      · have hne : l ≠ [] := fun e => by subst e; simp at hlt
        obtain ⟨b, off, hA, hc⟩ := (HS.out.later hbw) hne
        subst hA
        obtain ⟨e0, e1⟩ := hc k hlt
        rw [List.getD_eq_getElem?_getD, List.getElem?_eq_getElem hlt, Option.getD_some] at e0 e1
        have hi0 : (0 : Int) ≤ (k : Int) := by omega
        have hi1 : (k : Int) < (l.length : Int) := by omega
        have hit := Sp.inL_take l k hlt p
        have hmem : l[k].1 ≤ (p : Int) → (p : Int) ≤ l[k].2 → Sp.inL l p = true := fun q1 q2 => (Sp.inL_iff l p).2 ⟨l[k], List.getElem_mem hlt, q1, q2⟩
        rw [hin, Bool.false_or] at hit
        obtain ⟨z, hz⟩ : ∃ z, l[k] = z := ⟨_, rfl⟩
        rw [hz] at e0 e1 hit hmem
        obtain ⟨x, y⟩ := z
        have HIT := Lib.hid (show Sp.inL (l.take (k + 1)) p = decide (x ≤ (p : Int) ∧ (p : Int) ≤ y) from hit)
        have HM := Lib.hid (show x ≤ (p : Int) → (p : Int) ≤ y → Sp.inL l p = true from hmem)
        have hbn := below_new hbw (.cells #[.int .i64 x, .int .i64 y] 44)
        clear hit hmem hz hin hc b1
        by_cases c1 : x ≤ (p : Int)
        · have d1 : decide (x ≤ (p : Int)) = true := decide_eq_true c1
          by_cases c2 : (p : Int) ≤ y
          · have d2 : decide ((p : Int) ≤ y) = true := decide_eq_true c2
            have HQ := Lib.hid (HM.out c1 c2)
            clear HM HIT
            go_wp2
            go_ret
            exact ⟨by rw [HQ.out]; rfl, hbn⟩
          · have d2 : decide ((p : Int) ≤ y) = false := decide_eq_false c2
            have HQ := Lib.hid (show Sp.inL (l.take (k + 1)) p = false from by rw [HIT.out]; exact decide_eq_false (fun h => c2 h.2))
            clear HM HIT
            go_wp2_with fail
            go_roundw
            case rel => exact ⟨k + 1, by omega, by go_num, HQ.out, hbn⟩
            case measure => simp [intOf]; omega
        · have d1 : decide (x ≤ (p : Int)) = false := decide_eq_false c1
          have HQ := Lib.hid (show Sp.inL (l.take (k + 1)) p = false from by rw [HIT.out]; exact decide_eq_false (fun h => c1 h.1))
          clear HM HIT
          go_wp2_with fail
          go_roundw
          case rel => exact ⟨k + 1, by omega, by go_num, HQ.out, hbn⟩
          case measure => simp [intOf]; omega
      · have hkl : k = l.length := by omega
        subst hkl
        rw [List.take_length] at hin
        have HQ := Lib.hid hin
        clear hin b1
        go_wp2
        go_ret
        exact ⟨by rw [HQ.out]; rfl, hbw⟩
  · have hi : inOf l o = false := by unfold inOf; rw [decide_eq_false h0]; rfl
    rw [decide_eq_false h0] at n1
    rw [hi]
    have N1 := Lib.hid n1
    clear n1 h1 hi
    go_enter Try.func13, Try.ntmps13
    go_wp2_with fail
    refine (N1.out _).mono ?_
    rintro e w1 ⟨rfl, b1⟩
    go_wp2
    go_ret
    exact ⟨rfl, b1⟩

end Go.Proofs.Ytnnmcnbpnfegpaa
