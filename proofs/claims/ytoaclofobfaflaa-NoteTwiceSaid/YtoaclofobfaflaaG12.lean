/-
  What is asked of each of span's functions (its contract), as one structure. With it: the fixed fact 'alive'.
  What span's isObject, Formed and Has answer.
  A region that draws its order, whose operations may make memory and hand back what depends on the order: each operation is walked once, over what is known of those that it waits for; the last ones, in one forced order, behind them. Nothing of the program is imported.
  'append([]T{}, xs...)': onto an empty slice without room: what lay there is as it was. Nothing of the program is imported.
-/
import Derived.Test.YtoaclofobfaflaaG11
import Derived.Test.YtoaclofobfaflaaG02
import Derived.StillTail
import Derived.Below
import Derived.Test.YtoaclofobfaflaaG01
import Derived.Laws.CopyOwn
namespace Go.Proofs.Ytoaclofobfaflaa
open Go.RowKit

theorem GivesS.ans {l : List (Int × Int)} {w w' : World} {e : Ending} (h : GivesS l w e w') : Ans l w e w' := h.one

/-- A list of numbers by value. -/
def Nums (w : World) (A : Option Addr) (c : Nat) (xs : List Int) : Prop := xs.length ≤ c ∧ c ≤ maxLen ∧ (A = none → xs.length = 0 ∧ c = 0) ∧ Lies w A (xs.map (Value.int .i64))
theorem Nums.later {w w' : World} {A : Option Addr} {c : Nat} {xs : List Int} (h : Nums w A c xs) (hb : Below w.heap.size w w') : Nums w' A c xs := ⟨h.1, h.2.1, h.2.2.1, h.2.2.2.later hb⟩
theorem Nums.len {w : World} {A : Option Addr} {c : Nat} {xs : List Int} (h : Nums w A c xs) : xs.length ≤ 9223372036854775807 := by
  have h1 := h.1
  have h2 := h.2.1
  unfold maxLen at h2
  omega

theorem salive_of : Sp.ofL (Sp.someOf [3, 1, 2, 7, 300]) = [(1, 3), (7, 7)] := by
  refine Sp.good_uniq (Sp.good_ofL _) ?_ ?_
  · intro j hj
    have : j = 0 ∨ j = 1 := by simp at hj; omega
    rcases this with rfl | rfl <;> simp
  · intro o ho
    rw [Sp.inL_ofL _ o ho]
    unfold Sp.someOf Sp.inL
    rw [Bool.eq_iff_iff]
    simp
    omega
theorem salive_7 : inOf [(1, 3), (7, 7)] 7 = true := by decide
theorem salive_300 : inOf [(1, 3), (7, 7)] 300 = false := by decide
theorem salive_sz : Sp.sz (Sp.inL [(1, 3), (7, 7)]) = 4 := by kernel_rfl

end Go.Proofs.Ytoaclofobfaflaa
namespace Go.Proofs.Ytoaclofobfaflaa
open Go.RowKit Fb

set_option maxHeartbeats 800000 in
theorem isObject_any (o : Int) (w : World) : Calls Try.prog 70 #[.int .i64 o] w fun e w' => e = .returned (.bool (decide (0 ≤ o ∧ o ≤ 255))) ∧ Below w.heap.size w w' := by
  by_cases h0 : 0 ≤ o
  · have d0 : decide (0 ≤ o) = true := decide_eq_true h0
    by_cases h1 : o < 256
    · have d1 : decide (o < 256) = true := decide_eq_true h1
      rw [show decide (0 ≤ o ∧ o ≤ 255) = true from decide_eq_true (by omega)]
      go_enter Try.func70, Try.ntmps70
      go_wp2
      go_ret
      exact ⟨rfl, Below.refl _ _⟩
    · have d1 : decide (o < 256) = false := decide_eq_false h1
      rw [show decide (0 ≤ o ∧ o ≤ 255) = false from decide_eq_false (by omega)]
      go_enter Try.func70, Try.ntmps70
      go_wp2
      go_ret
      exact ⟨rfl, Below.refl _ _⟩
  · have d0 : decide (0 ≤ o) = false := decide_eq_false h0
    rw [show decide (0 ≤ o ∧ o ≤ 255) = false from decide_eq_false (by omega)]
    go_enter Try.func70, Try.ntmps70
    go_wp2
    go_ret
    exact ⟨rfl, Below.refl _ _⟩

/-- A span as it must be behind those ahead of it. -/
def Sp.apt (l : List (Int × Int)) (j : Nat) : Prop := 0 ≤ (l.getD j (0, 0)).1 ∧ (l.getD j (0, 0)).1 ≤ (l.getD j (0, 0)).2 ∧ (l.getD j (0, 0)).2 < 256 ∧ (0 < j → (l.getD (j - 1) (0, 0)).2 + 1 < (l.getD j (0, 0)).1)
theorem Sp.apt_good (l : List (Int × Int)) : Sp.good 256 l ↔ ∀ j, j < l.length → Sp.apt l j := Iff.rfl
theorem Sp.fmd_no (l : List (Int × Int)) (k : Nat) (hk : k < l.length) (h : ¬ Sp.apt l k) : Sp.fmd l = false := by
  rcases Sp.two (Sp.fmd l) with h1 | h1
  · exact absurd ((Sp.fmd_iff l).1 h1 k hk) h
  · exact h1

set_option maxHeartbeats 1600000 in
theorem spformed_any (A : Option Addr) (c1 : Nat) (l : List (Int × Int)) (w : World) (h1 : OneL w A c1 l) :
    Calls Try.prog 35 #[.slice A l.length c1] w (Says (.bool (Sp.fmd l)) w) := by
  have hl := h1.len
  have HS := Lib.hid h1.stamps
  clear h1
  go_enter Try.func35, Try.ntmps35
  go_wp2_with fail
  go_loopw [3, 8] (fun s3 s8 wr => ∃ (k : Nat) (least : Int), k ≤ l.length ∧ s8 = .int .i64 (k : Int) ∧ s3 = .int .i64 least ∧ (∀ j, j < k → Sp.apt l j) ∧ ((k = 0 ∧ least = 0) ∨ (0 < k ∧ least = (l.getD (k - 1) (0, 0)).2 + 2)) ∧ Below w.heap.size w wr) (fun _ s8 _ => l.length - (intOf s8).toNat)
  case atStart => exact ⟨0, 0, Nat.zero_le _, rfl, rfl, fun j hj => by omega, .inl ⟨rfl, rfl⟩, Below.refl _ _⟩
  case round =>
    obtain ⟨k, least, hk, rfl, rfl, hap, hle, hbw⟩ := hrel
    by_cases hlt : k < l.length
    · have hne : l ≠ [] := fun e => by subst e; simp at hlt
      obtain ⟨b, off, hA, hc⟩ := (HS.out.later hbw) hne
      subst hA
      obtain ⟨e0, e1⟩ := hc k hlt
      have hi0 : (0 : Int) ≤ (k : Int) := by omega
      have hi1 : (k : Int) < (l.length : Int) := by omega
      have hno := Sp.fmd_no l k hlt
      have hyes : Sp.apt l k → ∀ j, j < k + 1 → Sp.apt l j := fun h j hj => by
        by_cases e : j = k
        · rw [e]; exact h
        · exact hap j (by omega)
      have hle2 : (l.getD k (0, 0)).1 < least → ¬ Sp.apt l k := fun h1 h2 => by
        obtain ⟨q1, q2, q3, q4⟩ := h2
        rcases hle with ⟨h3, h4⟩ | ⟨h3, h4⟩
        · omega
        · have := q4 h3
          omega
      have hle3 : ¬ (l.getD k (0, 0)).1 < least → 0 ≤ (l.getD k (0, 0)).1 ∧ (0 < k → (l.getD (k - 1) (0, 0)).2 + 1 < (l.getD k (0, 0)).1) := fun h1 => by
        rcases hle with ⟨h3, h4⟩ | ⟨h3, h4⟩
        · exact ⟨by omega, by omega⟩
        · obtain ⟨q1, q2, q3, q4⟩ := hap (k - 1) (by omega)
          exact ⟨by omega, by omega⟩
      have hapt : Sp.apt l k = (0 ≤ (l.getD k (0, 0)).1 ∧ (l.getD k (0, 0)).1 ≤ (l.getD k (0, 0)).2 ∧ (l.getD k (0, 0)).2 < 256 ∧ (0 < k → (l.getD (k - 1) (0, 0)).2 + 1 < (l.getD k (0, 0)).1)) := rfl
      have hnx : l.getD (k + 1 - 1) (0, 0) = l.getD k (0, 0) := by rw [Nat.add_sub_cancel]
      obtain ⟨z, hz⟩ : ∃ z, l.getD k (0, 0) = z := ⟨_, rfl⟩
      rw [hz] at e0 e1 hle2 hle3 hapt hnx
      obtain ⟨x, y⟩ := z
      have hle2 : x < least → ¬ Sp.apt l k := hle2
      have hle3 : ¬ x < least → 0 ≤ x ∧ (0 < k → (l.getD (k - 1) (0, 0)).2 + 1 < x) := hle3
      have hapt : Sp.apt l k = (0 ≤ x ∧ x ≤ y ∧ y < 256 ∧ (0 < k → (l.getD (k - 1) (0, 0)).2 + 1 < x)) := hapt
      have HNO := Lib.hid hno
      have HY := Lib.hid hyes
      have HNX := Lib.hid hnx
      have HLE3 := Lib.hid hle3
      have HLE2 := Lib.hid hle2
      have HAPT := Lib.hid hapt
      have hbn := below_new hbw (.cells #[.int .i64 x, .int .i64 y] 50)
      clear hno hyes hnx hle hap hz hle2 hle3 hapt hc
      by_cases c1 : x < least
      · have d1 : decide (x < least) = true := decide_eq_true c1
        have HQ := Lib.hid (HNO.out (HLE2.out c1))
        clear HNO HLE2 HLE3 HAPT
        go_wp2
        go_ret
        exact ⟨by rw [HQ.out]; rfl, hbn⟩
      · have d1 : decide (x < least) = false := decide_eq_false c1
        by_cases c2 : y < x
        · have d2 : decide (y < x) = true := decide_eq_true c2
          have HQ := Lib.hid (HNO.out (fun h => by rw [HAPT.out] at h; omega))
          clear HNO HLE2 HLE3 HAPT
          go_wp2
          go_ret
          exact ⟨by rw [HQ.out]; rfl, hbn⟩
        · have d2 : decide (y < x) = false := decide_eq_false c2
          have n1 := fun wx => isObject_any y wx
          obtain ⟨q1, q2⟩ := HLE3.out c1
          have HQ2 := Lib.hid q2
          clear q2
          by_cases c3 : y < 256
          · have d3 : decide (0 ≤ y ∧ y ≤ 255) = true := decide_eq_true (by omega)
            rw [d3] at n1
            have N1 := Lib.hid n1
            have HAP := Lib.hid (show Sp.apt l k from by rw [HAPT.out]; exact ⟨q1, by omega, c3, HQ2.out⟩)
            clear HNO HLE2 HLE3 HAPT d3 n1
            go_wp2_with fail
            refine (N1.out _).mono ?_
            rintro e w2 ⟨rfl, b2⟩
            have hb2 := below_on hbn b2
            have hB := (Blk.new wr 50 #[.int .i64 x, .int .i64 y]).later b2
            have g1 := hB.cell (i := 1) rfl
            go_wp2_with fail
            go_roundw
            case rel => exact ⟨k + 1, y + 2, by omega, by go_num, by go_num, HY.out HAP.out, .inr ⟨by omega, by rw [HNX.out]⟩, hb2⟩
            case measure => simp [intOf]; omega
          · have d3 : decide (0 ≤ y ∧ y ≤ 255) = false := decide_eq_false (by omega)
            rw [d3] at n1
            have N1 := Lib.hid n1
            have HQ := Lib.hid (HNO.out (fun h => by rw [HAPT.out] at h; omega))
            clear HNO HLE2 HLE3 HAPT d3 n1
            go_wp2_with fail
            refine (N1.out _).mono ?_
            rintro e w2 ⟨rfl, b2⟩
            have hb2 := below_on hbn b2
            go_wp2
            go_ret
            exact ⟨by rw [HQ.out]; rfl, hb2⟩
    · have HQ := Lib.hid (show Sp.fmd l = true from (Sp.fmd_iff l).2 (fun j hj => hap j (by omega)))
      clear hap hle
      go_wp2
      go_ret
      exact ⟨by rw [HQ.out]; rfl, hbw⟩

set_option maxHeartbeats 1600000 in
theorem sphas_any (A : Option Addr) (c1 : Nat) (l : List (Int × Int)) (o : Int) (w : World) (h1 : OneL w A c1 l) :
    Calls Try.prog 51 #[.slice A l.length c1, .int .i64 o] w (Says (.bool (inOf l o)) w) := by
  have hl := h1.len
  have n1 := isObject_any o
  by_cases h0 : 0 ≤ o ∧ o ≤ 255
  · obtain ⟨p, rfl⟩ : ∃ p : Nat, o = (p : Int) := ⟨o.toNat, by omega⟩
    have hi : inOf l (p : Int) = Sp.inL l p := by unfold inOf; rw [decide_eq_true h0]; rfl
    rw [decide_eq_true h0] at n1
    rw [hi]
    have N1 := Lib.hid n1
    have HS := Lib.hid h1.stamps
    clear n1 h1 hi h0
    go_enter Try.func51, Try.ntmps51
    go_wp2_with fail
    refine (N1.out _).mono ?_
    rintro e w1 ⟨rfl, b1⟩
    clear N1
    go_wp2_with fail
    go_loopw [12] (fun s12 wr => ∃ k : Nat, k ≤ l.length ∧ s12 = .int .i64 (k : Int) ∧ Sp.inL (l.take k) p = false ∧ Below w.heap.size w wr) (fun s12 _ => l.length - (intOf s12).toNat)
    case atStart => exact ⟨0, Nat.zero_le _, rfl, rfl, b1⟩
    case round =>
      obtain ⟨k, hk, rfl, hin, hbw⟩ := hrel
      by_cases hlt : k < l.length
      · have hne : l ≠ [] := fun e => by subst e; simp at hlt
        obtain ⟨b, off, hA, hc⟩ := (HS.out.later hbw) hne
        subst hA
        obtain ⟨e0, e1⟩ := hc k hlt
        rw [List.getD_eq_getElem?_getD, List.getElem?_eq_getElem hlt, Option.getD_some] at e0 e1
        have hi0 : (0 : Int) ≤ (k : Int) := by omega
        have hi1 : (k : Int) < (l.length : Int) := by omega
        have hit := Sp.inL_take l k hlt p
        have hmem : l[k].1 ≤ (p : Int) → (p : Int) ≤ l[k].2 → Sp.inL l p = true := fun q1 q2 => (Sp.inL_iff l p).2 ⟨l[k], List.getElem_mem hlt, q1, q2⟩
        rw [hin, Bool.false_or] at hit
        obtain ⟨z, hz⟩ : ∃ z, l[k] = z := ⟨_, rfl⟩
        rw [hz] at e0 e1 hit hmem
        obtain ⟨x, y⟩ := z
        have HIT := Lib.hid (show Sp.inL (l.take (k + 1)) p = decide (x ≤ (p : Int) ∧ (p : Int) ≤ y) from hit)
        have HM := Lib.hid (show x ≤ (p : Int) → (p : Int) ≤ y → Sp.inL l p = true from hmem)
        have hbn := below_new hbw (.cells #[.int .i64 x, .int .i64 y] 50)
        clear hit hmem hz hin hc b1
        by_cases c1 : x ≤ (p : Int)
        · have d1 : decide (x ≤ (p : Int)) = true := decide_eq_true c1
          by_cases c2 : (p : Int) ≤ y
          · have d2 : decide ((p : Int) ≤ y) = true := decide_eq_true c2
            have HQ := Lib.hid (HM.out c1 c2)
            clear HM HIT
            go_wp2
            go_ret
            exact ⟨by rw [HQ.out]; rfl, hbn⟩
          · have d2 : decide ((p : Int) ≤ y) = false := decide_eq_false c2
            have HQ := Lib.hid (show Sp.inL (l.take (k + 1)) p = false from by rw [HIT.out]; exact decide_eq_false (fun h => c2 h.2))
            clear HM HIT
            go_wp2_with fail
            go_roundw
            case rel => exact ⟨k + 1, by omega, by go_num, HQ.out, hbn⟩
            case measure => simp [intOf]; omega
        · have d1 : decide (x ≤ (p : Int)) = false := decide_eq_false c1
          have HQ := Lib.hid (show Sp.inL (l.take (k + 1)) p = false from by rw [HIT.out]; exact decide_eq_false (fun h => c1 h.1))
          clear HM HIT
          go_wp2_with fail
          go_roundw
          case rel => exact ⟨k + 1, by omega, by go_num, HQ.out, hbn⟩
          case measure => simp [intOf]; omega
      · have hkl : k = l.length := by omega
        subst hkl
        rw [List.take_length] at hin
        have HQ := Lib.hid hin
        clear hin b1
        go_wp2
        go_ret
        exact ⟨by rw [HQ.out]; rfl, hbw⟩
  · have hi : inOf l o = false := by unfold inOf; rw [decide_eq_false h0]; rfl
    rw [decide_eq_false h0] at n1
    rw [hi]
    have N1 := Lib.hid n1
    clear n1 h1 hi
    go_enter Try.func51, Try.ntmps51
    go_wp2_with fail
    refine (N1.out _).mono ?_
    rintro e w1 ⟨rfl, b1⟩
    go_wp2
    go_ret
    exact ⟨rfl, b1⟩

end Go.Proofs.Ytoaclofobfaflaa
namespace Go.Proofs.Ytoaclofobfaflaa
open Go.RowKit

/-- What operation i has yielded, written into the row of what has been yielded. -/
def upd (v : Nat → Value) (i : Nat) (x : Value) : Nat → Value := fun j => if j = i then x else v j
theorem upd_same (v : Nat → Value) (i : Nat) (x : Value) : upd v i x i = x := if_pos rfl
theorem upd_other (v : Nat → Value) (i : Nat) (x : Value) {j : Nat} (h : j ≠ i) : upd v i x j = v j := if_neg h

/-- The operations that one waits for. -/
def deps (md : Region.Mode) (ops : Array Oper) (i : Nat) : List Nat := ((ops[i]?).map fun o => (o.after.toList.filter fun e => Region.binds md e).map (·.on)).getD []
def headListed (size n : Nat) : Array Bool := ((List.range size).map fun i => decide (i < n)).toArray
/-- All of it asked at once of the region's text: every one waits for earlier ones; the tail waits for all, and for itself in its order. -/
def factsB (md : Region.Mode) (ops : Array Oper) (n : Nat) : Bool :=
  decide (n < ops.size) && Region.sinkB md ops n && Region.chainB md ops n && ((List.range ops.size).all fun i => (deps md ops i).all fun j => decide (j < i)) && Region.seqB md ops (ops.size - n) n (headListed ops.size n)

def cntTo (listed : Array Bool) : Nat → Nat
  | 0 => 0
  | k + 1 => cntTo listed k + (if listed.getD k true = false then 1 else 0)
theorem cntTo_set_ge (listed : Array Bool) (j : Nat) : ∀ k, k ≤ j → cntTo (listed.setIfInBounds j true) k = cntTo listed k
  | 0, _ => rfl
  | k + 1, h => by
    rw [cntTo, cntTo, cntTo_set_ge listed j k (by omega), getD_set_ne true (by omega)]
theorem cntTo_set (listed : Array Bool) (j : Nat) (hj : listed.getD j true = false) : ∀ k, j < k → cntTo (listed.setIfInBounds j true) k + 1 = cntTo listed k
  | 0, h => by omega
  | k + 1, h => by
    by_cases e : j = k
    · subst e
      have hs : (listed.setIfInBounds j true).getD j true = true := by
        rcases Nat.lt_or_ge j listed.size with h' | h'
        · simp [h']
        · simp [Array.getElem?_eq_none h'] at hj
      rw [cntTo, cntTo, cntTo_set_ge listed j j (Nat.le_refl _), hs, hj]
      simp
    · have := cntTo_set listed j hj k (by omega)
      rw [cntTo, cntTo, getD_set_ne true e]
      omega
theorem cntTo_zero (listed : Array Bool) : ∀ k, cntTo listed k = 0 → ∀ i, i < k → listed.getD i true = true
  | 0, _, i, hi => by omega
  | k + 1, h, i, hi => by
    rw [cntTo] at h
    by_cases e : i = k
    · subst e
      cases hl : listed.getD i true with
      | true => rfl
      | false => rw [hl] at h; simp at h
    · exact cntTo_zero listed k (by omega) i (by omega)
theorem cntTo_pos (listed : Array Bool) : ∀ k, 0 < cntTo listed k → ∃ i, i < k ∧ listed.getD i true = false ∧ ∀ j, j < i → listed.getD j true = true
  | 0, h => by simp [cntTo] at h
  | k + 1, h => by
    by_cases h0 : 0 < cntTo listed k
    · obtain ⟨i, h1, h2, h3⟩ := cntTo_pos listed k h0
      exact ⟨i, by omega, h2, h3⟩
    · rw [cntTo] at h
      refine ⟨k, by omega, ?_, cntTo_zero listed k (by omega)⟩
      cases hl : listed.getD k true with
      | false => rfl
      | true => rw [hl] at h; simp at h; omega
theorem cntTo_none (size : Nat) : ∀ k, k ≤ size → cntTo (Array.replicate size false) k = k
  | 0, _ => rfl
  | k + 1, h => by
    rw [cntTo, cntTo_none size k (by omega)]
    have : (Array.replicate size false).getD k true = false := by simp [show k < size from h]
    rw [this]
    simp

section
variable {P : Program} {ops : Array Oper} {md : Region.Mode} {Q : Exit → Act → World → Prop}

theorem wpAny_facts {n : Nat} (hB : factsB md ops n = true) (T : (Nat → Value) → Act) (Ψ : Nat → Value → World → Prop) (R : Nat → Nat → Value → Value → Prop) (Rel : World → World → Prop) (trans : ∀ {w1 w2 w3}, Rel w1 w2 → Rel w2 w3 → Rel w1 w3) (W0 : World)
    (stab : ∀ i x w w', Ψ i x w → Rel w w' → Ψ i x w')
    (step : ∀ i, i < n → ∀ v w, Rel W0 w → (∀ j ∈ deps md ops i, Ψ j (v j) w) → wpOp P ops Q i (fun a' w' => ∃ x, a' = T (upd v i x) ∧ Rel w w' ∧ Ψ i x w' ∧ ∀ j y, j ≠ i → Ψ j y w → R i j x y ∧ R j i y x) (T v) w)
    (done : ∀ v w, Rel W0 w → (∀ i, i < n → Ψ i (v i) w) → (∀ i j, i < n → j < n → i ≠ j → R i j (v i) (v j)) → wpList P ops Q (ops.toList.drop n) (T v) w) :
    ∀ (f : Nat) (listed : Array Bool) (v : Nat → Value) (w : World), HeadInv md ops n listed → cntTo listed n = f → Rel W0 w → (∀ i, i < n → listed.getD i true = true → Ψ i (v i) w) → (∀ i j, i < n → j < n → i ≠ j → listed.getD i true = true → listed.getD j true = true → R i j (v i) (v j)) → wpAny P md ops Q (f + (ops.size - n)) listed (T v) w := by
  simp only [factsB, Bool.and_eq_true, decide_eq_true_eq] at hB
  obtain ⟨⟨⟨⟨hn, hs⟩, hc⟩, hd⟩, hq⟩ := hB
  intro f
  induction f with
  | zero =>
    intro listed v w inv hcnt hb hfacts hrel
    have hall := cntTo_zero listed n hcnt
    have he : listed = headListed ops.size n := by
      apply Array.ext
      · rw [inv.size]; simp [headListed]
      · intro i h1 h2
        have hi : i < ops.size := by rw [← inv.size]; exact h1
        have e2 : (headListed ops.size n)[i] = decide (i < n) := by simp [headListed]
        rw [e2]
        by_cases hin : i < n
        · have := hall i hin
          simp [h1] at this
          rw [this, decide_eq_true hin]
        · have := inv.tail i (by omega) hi
          simp [h1] at this
          rw [this, decide_eq_false hin]
    rw [Nat.zero_add]
    have hl : (ops.toList.drop n).length = ops.size - n := by simp
    rw [← hl]
    refine wpAny_of_seq (ops.toList.drop n) n listed _ w (fun j => by simp) ?_ (done v w hb (fun i hi => hfacts i hi (hall i hi)) (fun i j hi hj hne => hrel i j hi hj hne (hall i hi) (hall j hj)))
    rw [hl, he]
    exact hq
  | succ f ih =>
    intro listed v w inv hcnt hb hfacts hrel
    obtain ⟨m, hm1, hm2, hm3⟩ := cntTo_pos listed n (by omega)
    have hmr : m ∈ Region.ready md ops listed := by
      have hms : m < ops.size := by omega
      refine mem_ready.2 ⟨hm2, ops[m], Array.getElem?_eq_getElem hms, fun e he hbind => ?_⟩
      have h1 := List.all_eq_true.1 hd m (List.mem_range.2 hms)
      have h2 : e.on ∈ deps md ops m := by
        unfold deps
        rw [Array.getElem?_eq_getElem hms]
        exact List.mem_map.2 ⟨e, List.mem_filter.2 ⟨Array.mem_toList_iff.2 he, hbind⟩, rfl⟩
      have h3 := of_decide_eq_true (List.all_eq_true.1 h1 _ h2)
      have h4 := hm3 e.on h3
      have h5 : e.on < listed.size := by rw [inv.size]; omega
      simp [h5] at h4 ⊢
      exact h4
    rw [show f + 1 + (ops.size - n) = (f + (ops.size - n)) + 1 from by omega]
    refine ⟨fun h0 => (by rw [h0] at hmr; cases hmr), fun i hi => ?_⟩
    have hin : i < n := by
      rcases Nat.lt_or_ge i n with h | h
      · exact h
      · exact absurd hi (tail_waits hs hc hn inv _ m rfl hm1 hm2 i h)
    obtain ⟨hun, oi, hoi, hafter⟩ := mem_ready.1 hi
    refine wpOp_mono ?_ (step i hin v w hb ?_)
    · rintro a' w' ⟨x, rfl, hb', hx, hrx⟩
      refine ih _ (upd v i x) w' (inv.set hi hin) (by have := cntTo_set listed i hun n hin; omega) (trans hb hb') (fun j hj hl => ?_) (fun p q hp hq hpq hlp hlq => ?_)
      · by_cases e : j = i
        · subst e
          rw [upd_same]
          exact hx
        · rw [upd_other v i x e]
          rw [getD_set_ne true (fun h => e h.symm)] at hl
          exact stab j _ w w' (hfacts j hj hl) hb'
      · by_cases ep : p = i
        · subst ep
          rw [upd_same, upd_other v p x (fun h => hpq h.symm)]
          rw [getD_set_ne true hpq] at hlq
          exact (hrx q _ (fun h => hpq h.symm) (hfacts q hq hlq)).1
        · rw [getD_set_ne true (fun h => ep h.symm)] at hlp
          by_cases eq : q = i
          · subst eq
            rw [upd_same, upd_other v q x ep]
            exact (hrx p _ ep (hfacts p hp hlp)).2
          · rw [getD_set_ne true (fun h => eq h.symm)] at hlq
            rw [upd_other v i x ep, upd_other v i x eq]
            exact hrel p q hp hq hpq hlp hlq
    · intro j hj
      unfold deps at hj
      rw [hoi] at hj
      obtain ⟨e, he, rfl⟩ := List.mem_map.1 hj
      obtain ⟨he1, he2⟩ := List.mem_filter.1 he
      have h1 := hafter e (Array.mem_toList_iff.1 he1) he2
      have h2 : e.on < listed.size := by
        rcases Nat.lt_or_ge e.on listed.size with h' | h'
        · exact h'
        · simp [Array.getElem?_eq_none h'] at h1
      have h3 : listed.getD e.on true = true := by simp [h2] at h1 ⊢; exact h1
      have h4 : e.on < n := by
        rcases Nat.lt_or_ge e.on n with h' | h'
        · exact h'
        · have := inv.tail e.on h' (by rw [← inv.size]; exact h2)
          rw [h3] at this
          cases this
      exact hfacts e.on h4 h3

/-- **A region that draws its order, whose operations make memory.** R: what two of them are to one another (two new blocks are not one). -/
theorem wp_region_facts2 {id : Nat} {l : List Oper} {w : World} (n : Nat) (hm : P.follows .mixedOrders = true) (hB : factsB .any l.toArray n = true) (T : (Nat → Value) → Act) (v0 : Nat → Value) (Ψ : Nat → Value → World → Prop) (R : Nat → Nat → Value → Value → Prop) (Rel : World → World → Prop) (trans : ∀ {w1 w2 w3}, Rel w1 w2 → Rel w2 w3 → Rel w1 w3) (hself : ∀ w, Rel w w) (hdrew : Rel w w.drew)
    (stab : ∀ i x w w', Ψ i x w → Rel w w' → Ψ i x w')
    (step : ∀ i, i < n → ∀ v w', Rel w w' → (∀ j ∈ deps .any l.toArray i, Ψ j (v j) w') → wpOp P l.toArray Q i (fun a' w'' => ∃ x, a' = T (upd v i x) ∧ Rel w' w'' ∧ Ψ i x w'' ∧ ∀ j y, j ≠ i → Ψ j y w' → R i j x y ∧ R j i y x) (T v) w')
    (done : ∀ v w', Rel w w' → (∀ i, i < n → Ψ i (v i) w') → (∀ i j, i < n → j < n → i ≠ j → R i j (v i) (v j)) → wpList P l.toArray Q (l.drop n) (T v) w') :
    (Code.region id l.toArray true).wp P Q (T v0) w := by
  refine wp_region_any hm ?_
  have hn : n < l.toArray.size := by
    simp only [factsB, Bool.and_eq_true, decide_eq_true_eq] at hB
    exact hB.1.1.1.1
  have hw : ∀ w', Rel { w with drawn := w.drawn + 1 } w' → Rel w w' := fun w' h => trans hdrew h
  have h := wpAny_facts hB T Ψ R Rel trans { w with drawn := w.drawn + 1 } stab (fun i hi v w' hb hd => step i hi v w' (hw w' hb) hd) (fun v w' hb hf hr => done v w' (hw w' hb) hf hr)
    n (Array.replicate l.toArray.size false) v0 { w with drawn := w.drawn + 1 }
    ⟨by simp, fun j oj hj hl => (by rw [getD_replicate_false] at hl; cases hl), fun t ht ht' => (by rw [Array.getD_eq_getD_getElem?, Array.getElem?_replicate, if_pos ht']; rfl)⟩ (cntTo_none _ n (by omega)) (hself _) (fun i hi hl => by
      rw [Array.getD_eq_getD_getElem?, Array.getElem?_replicate, if_pos (by omega)] at hl
      cases hl) (fun i j hi hj _ hl _ => by
      rw [Array.getD_eq_getD_getElem?, Array.getElem?_replicate, if_pos (by omega)] at hl
      cases hl)
  rw [show n + (l.toArray.size - n) = l.toArray.size from by omega] at h
  exact h
/-- **A region that draws its order, whose operations make memory.** -/
theorem wp_region_facts {id : Nat} {l : List Oper} {w : World} (n : Nat) (hm : P.follows .mixedOrders = true) (hB : factsB .any l.toArray n = true) (T : (Nat → Value) → Act) (v0 : Nat → Value) (Ψ : Nat → Value → World → Prop) (Rel : World → World → Prop) (trans : ∀ {w1 w2 w3}, Rel w1 w2 → Rel w2 w3 → Rel w1 w3) (hself : ∀ w, Rel w w) (hdrew : Rel w w.drew)
    (stab : ∀ i x w w', Ψ i x w → Rel w w' → Ψ i x w')
    (step : ∀ i, i < n → ∀ v w', Rel w w' → (∀ j ∈ deps .any l.toArray i, Ψ j (v j) w') → wpOp P l.toArray Q i (fun a' w'' => ∃ x, a' = T (upd v i x) ∧ Rel w' w'' ∧ Ψ i x w'') (T v) w')
    (done : ∀ v w', Rel w w' → (∀ i, i < n → Ψ i (v i) w') → wpList P l.toArray Q (l.drop n) (T v) w') :
    (Code.region id l.toArray true).wp P Q (T v0) w :=
  wp_region_facts2 n hm hB T v0 Ψ (fun _ _ _ _ => True) Rel trans hself hdrew stab
    (fun i hi v w' hb hd => wpOp_mono (fun _ _ ⟨x, h1, h2, h3⟩ => ⟨x, h1, h2, h3, fun _ _ _ _ => ⟨trivial, trivial⟩⟩) (step i hi v w' hb hd))
    (fun v w' hb hf _ => done v w' hb hf)
/-- One operation, walked as a list of one. -/
theorem wpOp_one {i : Nat} {o : Oper} {K : Act → World → Prop} {a : Act} {w : World} (ho : ops[i]? = some o) (h : wpList P ops (Exit.then K Q) [o] a w) : wpOp P ops Q i K a w := by
  unfold wpOp
  rw [ho]
  unfold wpList at h
  simp only
  split
  · rename_i hw
    rw [if_pos hw] at h
    rcases h with h | ⟨h1, h2⟩
    · left
      unfold Oper.wp at *
      generalize (execOp a.eval o).run P w = r at *
      cases r with
      | ok nx w' => cases nx <;> simp only [Oper.upon] at h ⊢ <;> first | exact h | (refine h.mono ?_; intro e w'' hq; cases e <;> exact hq)
      | halt x w' => cases x <;> simp only [Oper.upon] at h ⊢ <;> exact h
    · exact .inr ⟨h1, h2⟩
  · rename_i hw
    rw [if_neg hw] at h
    exact h
end

end Go.Proofs.Ytoaclofobfaflaa
namespace Go.Proofs.Ytoaclofobfaflaa
open Go.RowKit

theorem run_append_fresh {P : Program} (w : World) (base g : Nat) (t ty e : TypeId) (i : TypeInfo) (z : Value) (size bytes : Nat) (ht : P.underlying t = some (.slice e)) (hi : P.info? e = some i) (hz : i.zero = some z)
    (hsize : i.size = size) (hby : i.bytes = bytes) (hzs : z.cells.size = size) (hsz : 0 < size) (hg : Blk w g e #[]) (hbg : base ≤ g)
    (A : Option Addr) (m c : Nat) (hA : A = none → m = 0 ∧ c = 0) (news : List Value) (hl : news.length = m * size) (hr : Lies w A news) (h1 : ∀ u ∈ news, u.oneCell' = true)
    (h63 : m ≤ maxLen) (hbytes : m * bytes ≤ 140737488355328) :
    ∃ v' w', (Builtin.append_ #[t, t] ty #[.slice (some ⟨g, 0, none⟩) 0 0, .slice A m c]).run P w = .ok v' w' ∧ w'.ownsRow base e size v' m news ∧ Below w.heap.size w w' := by
  have hown : w.ownsRow base e size (.slice (some ⟨g, 0, none⟩) 0 0) 0 [] := ⟨by simp, .inr ⟨g, 0, #[], rfl, hbg, hg, Nat.le_refl _, Nat.zero_le _, by simp, by simp⟩⟩
  have hglt := hg.lt
  cases A with
  | none =>
    obtain ⟨rfl, rfl⟩ := hA rfl
    have hn : news = [] := List.eq_nil_of_length_eq_zero (by simpa using hl)
    subst hn
    exact ⟨_, w, run_append_owned_none (P := P) (w := w) base t ty e i size ht hi _ 0 [] hown, hown, Below.refl _ _⟩
  | some ad =>
    have hcells : ∀ j u, news[j]? = some u → w.cell? (ad.add j) = some u := by
      intro j u hu
      obtain ⟨b, off, hab, hc⟩ := hr (fun h => by subst h; simp at hu)
      injection hab with hab
      subst hab
      rw [Go.WideShapes.add_plain]
      exact hc j u hu
    subst hsize
    subst hby
    by_cases hm : m = 0
    · subst hm
      have hn : news = [] := List.eq_nil_of_length_eq_zero (by simpa using hl)
      subst hn
      have hrun := run_append_room (P := P) w t ty e i ht hi g 0 0 #[] hg ad 0 c [] (by simp) hcells h1 (Nat.le_refl _) (by simp)
      refine ⟨_, _, hrun, ⟨by simp, .inr ⟨g, 0, _, rfl, hbg, setRow_heap w g #[] _ e _ hg, Nat.le_refl _, Nat.zero_le _, by simp, by simp⟩⟩, ?_⟩
      refine ⟨rfl, rfl, rfl, by simp, fun k hk => ?_⟩
      by_cases hkg : k = g
      · subst hkg
        rw [setRow_heap w k #[] _ e _ hg, hg]
        simp
      · exact setRow_other w g k _ hkg
    · have hge := grownCap_ge w (0 + m) 0 e
      have hcm : grownCap w (0 + m) 0 e ≤ maxLen := grownCap_le_maxLen w (0 + m) 0 e (by omega)
      have hrun := run_append_grow (P := P) w t ty e i z ht hi hz ⟨g, 0, none⟩ 0 0 [] (by simp) (fun j u hu => by simp at hu) ad m c news hl hcells (by omega) (by unfold maxLen at h63; omega) (growslice_fits (by omega) (by rw [Nat.zero_add]; exact hbytes))
      refine ⟨_, _, hrun, ⟨hl, .inr ⟨w.heap.size, _, _, by rw [Nat.zero_add], by omega, heap_alloc_new w.drew _, by rw [Nat.zero_add] at hge ⊢; exact hge, hcm, ?_, ?_⟩⟩, ?_⟩
      · simp only [Array.size_append, List.size_toArray, size_zeroCells, hzs, hl, ← Nat.add_mul, List.length_nil, Nat.zero_add]
        congr 1
        rw [Nat.zero_add] at hge
        omega
      · simp only [Array.toList_append, List.nil_append]
        rw [← hl]
        exact List.take_left
      · exact (Below.drew (Below.refl _ _)).alloc (Nat.le_refl _) _

theorem wpList_append_fresh {P : Program} (w : World) {ops : Array Oper} {rest : List Oper} {o : Oper} {a : Act} {Q : Exit → Act → World → Prop} (hgd : o.guard = none) (s x : Operand) (t : TypeId)
    (ho : o.op = .call { callee := .builtin .append, args := #[s, x], argTypes := #[t, t] })
    (base g : Nat) (e : TypeId) (i : TypeInfo) (z : Value) (size bytes : Nat) (ht : P.underlying t = some (.slice e)) (hi : P.info? e = some i) (hz : i.zero = some z)
    (hsize : i.size = size) (hby : i.bytes = bytes) (hzs : z.cells.size = size) (hsz : 0 < size) (hs : a.eval s = .slice (some ⟨g, 0, none⟩) 0 0) (hg : Blk w g e #[]) (hbg : base ≤ g)
    (A : Option Addr) (m c : Nat) (hA : A = none → m = 0 ∧ c = 0) (news : List Value) (hx : a.eval x = .slice A m c) (hl : news.length = m * size) (hr : Lies w A news) (h1 : ∀ u ∈ news, u.oneCell' = true)
    (h63 : m ≤ maxLen) (hbytes : m * bytes ≤ 140737488355328)
    (h : ∀ v' w', w'.ownsRow base e size v' m news → Below w.heap.size w w' → wpList P ops Q rest (a.put o.dst v') w') :
    wpList P ops Q (o :: rest) a w := by
  refine wpList_plain hgd fun K hK => ?_
  obtain ⟨v', w', hrun, h2, h3⟩ := run_append_fresh (P := P) w base g t o.type e i z size bytes ht hi hz hsize hby hzs hsz hg hbg A m c hA news hl hr h1 h63 hbytes
  unfold Oper.wp execOp
  simp only [ho, resolve, invoke, builtin, Sem.run_bind, Sem.run_pure, Result.andThen_ok, List.map_toArray, List.map_cons, List.map_nil, hs, hx, hrun]
  exact hK _ _ (h v' w' h2 h3)

end Go.Proofs.Ytoaclofobfaflaa
