/-
  Plain mathematics of decimal numbers and of the texts of stamps. Nothing of the program is imported.
-/
import Derived.Lib.ItoaNum
import Derived.Lib.AtoiAll
import Derived.Lib.Bytealg
import Derived.Test.YtebnmbckkelkpaaDoorStampPlain
namespace Go.Proofs.YtebnmbckkelkpaaDoor
namespace Num
open Go.Lib

def dig (c : UInt8) : Bool := decide (48 ≤ c.toNat ∧ c.toNat ≤ 57)
def val (l : List UInt8) : Nat := l.foldl (fun n c => 10 * n + (c.toNat - 48)) 0
/-- Decimal digits, at least one, without noughts ahead. -/
def canon (l : List UInt8) : Prop := l ≠ [] ∧ (∀ c ∈ l, dig c = true) ∧ (l.length ≠ 1 → l.head? ≠ some 48)

theorem val_snoc (l : List UInt8) (c : UInt8) : val (l ++ [c]) = 10 * val l + (c.toNat - 48) := by unfold val; rw [List.foldl_append]; rfl
theorem val_nil : val [] = 0 := rfl

theorem dig_iff {c : UInt8} : dig c = true ↔ 48 ≤ c.toNat ∧ c.toNat ≤ 57 := by unfold dig; simp
theorem of48 (c : UInt8) (h : dig c = true) : UInt8.ofNat (48 + (c.toNat - 48)) = c := by
  have := dig_iff.1 h
  apply UInt8.toNat_inj.1
  rw [show 48 + (c.toNat - 48) = c.toNat from by omega]
  simp
theorem dig_of48 (d : Nat) (h : d < 10) : dig (UInt8.ofNat (48 + d)) = true ∧ (UInt8.ofNat (48 + d)).toNat = 48 + d := by
  have : (UInt8.ofNat (48 + d)).toNat = 48 + d := by simp; omega
  exact ⟨dig_iff.2 (by omega), this⟩

theorem snoc_cases {α : Type} (l : List α) : l = [] ∨ ∃ r c, l = r ++ [c] := by
  cases h : l.reverse with
  | nil => left; simpa using h
  | cons c r => right; exact ⟨r.reverse, c, by rw [← List.reverse_reverse l, h]; simp⟩

theorem canon_pos : ∀ (n : Nat) (l : List UInt8), l.length = n → canon l → l.length ≠ 1 → 0 < val l
  | 0, l, hn, h, _ => absurd (List.eq_nil_of_length_eq_zero hn) h.1
  | n + 1, l, hn, h, h1 => by
    rcases snoc_cases l with h0 | ⟨r, c, rfl⟩
    · exact absurd h0 h.1
    · rw [val_snoc]
      have hr : r ≠ [] := by rintro rfl; simp at h1
      obtain ⟨x, r', rfl⟩ := List.exists_cons_of_ne_nil hr
      have hx : x ≠ 48 := by have := h.2.2 h1; simpa using this
      have hd : dig x = true := h.2.1 x (by simp)
      by_cases hl : (x :: r').length = 1
      · have : r' = [] := by simpa using hl
        subst this
        have := dig_iff.1 hd
        have hx2 : x.toNat ≠ 48 := fun e => hx (UInt8.toNat_inj.1 (by simpa using e))
        have hv : val [x] = x.toNat - 48 := by simp [val]
        rw [hv]; omega
      · have := canon_pos n (x :: r') (by simp at hn ⊢; omega) ⟨by simp, fun c hc => h.2.1 c (by simp at hc ⊢; rcases hc with h | h <;> simp [h]), fun _ => by simpa using hx⟩ hl
        omega

/-- What is canonical is the digits of its value. -/
theorem digits_val : ∀ (n : Nat) (l : List UInt8), l.length = n → canon l → decDigits (val l) = l
  | 0, l, hn, h => absurd (List.eq_nil_of_length_eq_zero hn) h.1
  | n + 1, l, hn, h => by
    rcases snoc_cases l with h0 | ⟨r, c, rfl⟩
    · exact absurd h0 h.1
    · have hc : dig c = true := h.2.1 c (by simp)
      have hcb := dig_iff.1 hc
      rw [val_snoc]
      cases r with
      | nil =>
        rw [val_nil, decDigits, dif_pos (by omega)]
        rw [show 48 + (10 * 0 + (c.toNat - 48)) = 48 + (c.toNat - 48) from by omega, of48 c hc]; rfl
      | cons x r' =>
        have h1 : ((x :: r') ++ [c]).length ≠ 1 := by simp
        have hx : x ≠ 48 := by have := h.2.2 h1; simpa using this
        have hcan : canon (x :: r') := ⟨by simp, fun c hc => h.2.1 c (by simp at hc ⊢; rcases hc with h | h <;> simp [h]), fun _ => by simpa using hx⟩
        have ih := digits_val n (x :: r') (by simp at hn ⊢; omega) hcan
        have hpos : 0 < val (x :: r') := by
          by_cases hl : (x :: r').length = 1
          · have : r' = [] := by simpa using hl
            subst this
            have := dig_iff.1 (hcan.2.1 x (by simp))
            have hx2 : x.toNat ≠ 48 := fun e => hx (UInt8.toNat_inj.1 (by simpa using e))
            have hv : val [x] = x.toNat - 48 := by simp [val]
            rw [hv]; omega
          · exact canon_pos _ _ rfl hcan hl
        rw [decDigits, dif_neg (by omega)]
        rw [show (10 * val (x :: r') + (c.toNat - 48)) / 10 = val (x :: r') from by omega, show (10 * val (x :: r') + (c.toNat - 48)) % 10 = c.toNat - 48 from by omega, ih, of48 c hc]

theorem digits_canon (u : Nat) : canon (decDigits u) ∧ val (decDigits u) = u ∧ (0 < u → (decDigits u).head? ≠ some 48) := by
  induction u using Nat.strongRecOn with
  | ind u ih =>
    by_cases h : u < 10
    · rw [decDigits, dif_pos h]
      obtain ⟨h1, h2⟩ := dig_of48 u h
      refine ⟨⟨by simp, fun c hc => by rw [List.mem_singleton] at hc; subst hc; exact h1, by simp⟩, ?_, fun hp => ?_⟩
      · show 10 * 0 + ((UInt8.ofNat (48 + u)).toNat - 48) = u
        rw [h2]; omega
      · intro e
        have e2 : UInt8.ofNat (48 + u) = 48 := Option.some.inj e
        have e3 := congrArg UInt8.toNat e2
        rw [h2] at e3
        have : (48 : UInt8).toNat = 48 := rfl
        omega
    · obtain ⟨⟨a1, a2, _⟩, b, c⟩ := ih (u / 10) (by omega)
      have hc := c (by omega)
      obtain ⟨h1, h2⟩ := dig_of48 (u % 10) (by omega)
      rw [decDigits, dif_neg h]
      have hh : (decDigits (u / 10) ++ [UInt8.ofNat (48 + u % 10)]).head? ≠ some 48 := by
        obtain ⟨x, r, hx⟩ := List.exists_cons_of_ne_nil a1
        rw [hx] at hc ⊢
        simpa using hc
      refine ⟨⟨by simp, ?_, fun _ => hh⟩, ?_, fun _ => hh⟩
      · intro x hx
        rcases List.mem_append.1 hx with hx | hx
        · exact a2 x hx
        · rw [List.mem_singleton] at hx; subst hx; exact h1
      · rw [val_snoc, b, h2]; omega

theorem digits_len (k : Nat) : ∀ u : Nat, u < 10 ^ (k + 1) → (decDigits u).length ≤ k + 1 := by
  induction k with
  | zero => intro u h; rw [decDigits, dif_pos (by omega)]; simp
  | succ k ih =>
    intro u h
    by_cases hu : u < 10
    · rw [decDigits, dif_pos hu]; simp
    · rw [decDigits, dif_neg hu]
      have := ih (u / 10) (by rw [Nat.pow_succ] at h; omega)
      simp; omega

/-- The number of a text: decimal digits without noughts ahead, at most the greatest int. -/
def num (l : List UInt8) : Option Nat := if l ≠ [] ∧ (∀ c ∈ l, dig c = true) ∧ (l.length ≠ 1 → l.head? ≠ some 48) ∧ val l ≤ 9223372036854775807 then some (val l) else none

theorem num_some {l : List UInt8} {u : Nat} : num l = some u ↔ l = decDigits u ∧ u ≤ 9223372036854775807 := by
  unfold num
  constructor
  · intro h
    split at h
    · rename_i hc
      injection h with h
      subst h
      exact ⟨(digits_val _ l rfl ⟨hc.1, hc.2.1, hc.2.2.1⟩).symm, hc.2.2.2⟩
    · cases h
  · rintro ⟨rfl, hu⟩
    obtain ⟨⟨a, b, c⟩, d, _⟩ := digits_canon u
    rw [if_pos ⟨a, b, c, by rw [d]; exact hu⟩, d]

theorem val_take (l : List UInt8) (k : Nat) (h : k < l.length) : val (l.take (k + 1)) = 10 * val (l.take k) + (l[k].toNat - 48) := by
  rw [List.take_succ_eq_append_getElem h, val_snoc]
theorem val_lt (l : List UInt8) : ∀ k, (∀ c ∈ l.take k, dig c = true) → val (l.take k) < 10 ^ k := by
  intro k
  induction k with
  | zero => intro _; simp [val]
  | succ k ih =>
    intro h
    by_cases hk : k < l.length
    · rw [List.take_succ_eq_append_getElem hk] at h ⊢
      rw [val_snoc]
      have := ih (fun c hc => h c (List.mem_append_left _ hc))
      have hd := dig_iff.1 (h l[k] (List.mem_append_right _ (List.mem_singleton.2 rfl)))
      rw [Nat.pow_succ]
      omega
    · rw [List.take_of_length_le (by omega)] at h ⊢
      have := ih (by rw [List.take_of_length_le (by omega)]; exact h)
      rw [List.take_of_length_le (by omega)] at this
      rw [Nat.pow_succ]
      omega
theorem num_bad {l : List UInt8} (k : Nat) (hk : k < l.length) (h : dig l[k] = false) : num l = none := by
  unfold num
  rw [if_neg]
  intro hc
  have := hc.2.1 l[k] (List.getElem_mem hk)
  rw [h] at this
  cases this
theorem num_empty : num [] = none := by unfold num; rw [if_neg (by intro h; exact h.1 rfl)]
theorem num_long {l : List UInt8} (h : 19 < l.length) : num l = none := by
  cases hn : num l with
  | none => rfl
  | some u =>
    obtain ⟨rfl, hu⟩ := num_some.1 hn
    have := digits_len 18 u (by omega)
    omega
theorem num_nought {l : List UInt8} (h : 1 < l.length) (hz : l.head? = some 48) : num l = none := by
  unfold num
  rw [if_neg]
  intro hc
  exact hc.2.2.1 (by omega) hz
theorem num_good {l : List UInt8} (hne : l ≠ []) (hd : ∀ c ∈ l, dig c = true) (hz : l.length ≠ 1 → l.head? ≠ some 48) : num l = if val l ≤ 9223372036854775807 then some (val l) else none := by
  unfold num
  by_cases hv : val l ≤ 9223372036854775807
  · rw [if_pos ⟨hne, hd, hz, hv⟩, if_pos hv]
  · rw [if_neg (fun h => hv h.2.2.2), if_neg hv]

/-- What the library's parser makes of digits. -/
theorem parse_digits : ∀ (l : List UInt8) (acc : Nat), (∀ c ∈ l, dig c = true) → l.foldl (fun n c => 10 * n + (c.toNat - 48)) acc ≤ 9223372036854775807 → parseUint10 acc l = .ok (l.foldl (fun n c => 10 * n + (c.toNat - 48)) acc)
  | [], acc, _, _ => rfl
  | c :: r, acc, h, hv => by
    have hd := dig_iff.1 (h c (by simp))
    have hmono : ∀ (l : List UInt8) (a : Nat), a ≤ l.foldl (fun n c => 10 * n + (c.toNat - 48)) a := by
      intro l
      induction l with
      | nil => intro a; exact Nat.le_refl _
      | cons x l ih => intro a; exact Nat.le_trans (by omega) (ih (10 * a + (x.toNat - 48)))
    simp only [List.foldl_cons] at hv ⊢
    have h1 := hmono r (10 * acc + (c.toNat - 48))
    unfold parseUint10
    rw [if_pos hd, if_neg (by omega), if_neg (by omega), show acc * 10 + (c.toNat - 48) = 10 * acc + (c.toNat - 48) from by omega]
    exact parse_digits r _ (fun x hx => h x (by simp [hx])) hv

theorem atoi_digits (u : Nat) (hu : u ≤ 9223372036854775807) : atoiAll (decDigits u) = .ok (u : Int) := by
  obtain ⟨⟨a, b, _⟩, d, _⟩ := digits_canon u
  obtain ⟨x, r, hx⟩ := List.exists_cons_of_ne_nil a
  have hd := dig_iff.1 (b x (by rw [hx]; simp))
  have hp : parseMag (decDigits u) = .ok u := by
    unfold parseMag
    rw [if_neg a]
    have := parse_digits (decDigits u) 0 b (by show val _ ≤ _; rw [d]; exact hu)
    rw [this]
    show NumEnd.ok (val _) = _
    rw [d]
  unfold atoiAll
  rw [hx] at hp ⊢
  simp only
  rw [if_neg (by omega), hp]
  simp only
  rw [if_neg (by omega), if_neg (by omega), if_neg (by omega)]

/-- What stands ahead of the first '@', and behind it. -/
def cutAt : List UInt8 → Option (List UInt8 × List UInt8)
  | [] => none
  | c :: r => if c = 64 then some ([], r) else match cutAt r with
    | some (a, b) => some (c :: a, b)
    | none => none
theorem cutAt_none : ∀ {l : List UInt8}, (∀ c ∈ l, c ≠ 64) → cutAt l = none
  | [], _ => rfl
  | c :: r, h => by
    unfold cutAt
    rw [if_neg (h c (by simp)), cutAt_none (fun x hx => h x (by simp [hx]))]
theorem cutAt_at : ∀ {l : List UInt8} (k : Nat), (∀ c ∈ l.take k, c ≠ 64) → l[k]? = some 64 → cutAt l = some (l.take k, l.drop (k + 1))
  | [], k, _, h => by simp at h
  | c :: r, 0, _, h => by
    have : c = 64 := by simpa using h
    subst this
    unfold cutAt
    rw [if_pos rfl]; rfl
  | c :: r, k + 1, h, hk => by
    unfold cutAt
    rw [if_neg (h c (by simp)), cutAt_at (l := r) k (fun x hx => h x (by simp [hx])) (by simpa using hk)]
    rfl
theorem cutAt_some : ∀ {l a b : List UInt8}, cutAt l = some (a, b) → l = a ++ 64 :: b ∧ ∀ c ∈ a, c ≠ 64
  | [], a, b, h => by cases h
  | c :: r, a, b, h => by
    unfold cutAt at h
    by_cases hc : c = 64
    · rw [if_pos hc] at h
      injection h with h
      injection h with h1 h2
      subst h1 h2 hc
      exact ⟨rfl, by simp⟩
    · rw [if_neg hc] at h
      cases hr : cutAt r with
      | none => rw [hr] at h; cases h
      | some p =>
        obtain ⟨x, y⟩ := p
        rw [hr] at h
        injection h with h
        injection h with h1 h2
        subst h1 h2
        obtain ⟨e, ha⟩ := cutAt_some hr
        exact ⟨by rw [e]; rfl, fun z hz => by
          rcases List.mem_cons.1 hz with hz | hz
          · subst hz; exact hc
          · exact ha z hz⟩
theorem cutAt_no {l : List UInt8} (h : cutAt l = none) : ∀ c ∈ l, c ≠ 64 := by
  induction l with
  | nil => intro c hc; cases hc
  | cons c r ih =>
    unfold cutAt at h
    by_cases hc : c = 64
    · rw [if_pos hc] at h; cases h
    · rw [if_neg hc] at h
      cases hr : cutAt r with
      | none =>
        intro x hx
        rcases List.mem_cons.1 hx with hx | hx
        · subst hx; exact hc
        · exact ih hr x hx
      | some p => rw [hr] at h; cases h

/-- The right stamp of a text. -/
def parseOf (l : List UInt8) : Option (Int × Int) := match cutAt l with
  | some (a, b) => match num a, num b with
    | some c, some n => if St.rgt (c : Int) (n : Int) = true then some ((c : Int), (n : Int)) else none
    | _, _ => none
  | none => none
theorem parse_cut {l a b : List UInt8} (h : cutAt l = some (a, b)) : parseOf l = match num a, num b with
    | some c, some n => if St.rgt (c : Int) (n : Int) = true then some ((c : Int), (n : Int)) else none
    | _, _ => none := by unfold parseOf; rw [h]
theorem parse_none {l : List UInt8} (h : cutAt l = none) : parseOf l = none := by unfold parseOf; rw [h]

theorem digits_no64 (u : Nat) : ∀ c ∈ decDigits u, c ≠ 64 := by
  intro c hc
  have := dig_iff.1 ((digits_canon u).1.2.1 c hc)
  intro e
  subst e
  have : (64 : UInt8).toNat = 64 := rfl
  omega
theorem split_one : ∀ {a a' b b' : List UInt8}, (∀ c ∈ a, c ≠ 64) → (∀ c ∈ a', c ≠ 64) → a ++ 64 :: b = a' ++ 64 :: b' → a = a' ∧ b = b'
  | [], [], b, b', _, _, h => by simpa using h
  | [], x :: a', b, b', _, h2, h => by
    injection h with h1 h3
    exact absurd h1.symm (h2 x (by simp))
  | x :: a, [], b, b', h1, _, h => by
    injection h with h2 h3
    exact absurd h2 (h1 x (by simp))
  | x :: a, y :: a', b, b', h1, h2, h => by
    injection h with h3 h4
    subst h3
    obtain ⟨rfl, rfl⟩ := split_one (fun c hc => h1 c (by simp [hc])) (fun c hc => h2 c (by simp [hc])) h4
    exact ⟨rfl, rfl⟩
/-- Which texts are those of right stamps. -/
theorem parse_iff {l a b : List UInt8} (h : cutAt l = some (a, b)) {c n : Int} :
    parseOf l = some (c, n) ↔ St.rgt c n = true ∧ c ≤ 9223372036854775807 ∧ a = decDigits c.toNat ∧ b = decDigits n.toNat := by
  rw [parse_cut h]
  constructor
  · intro hp
    cases ha : num a with
    | none => rw [ha] at hp; cases hp
    | some u =>
      cases hb : num b with
      | none => rw [ha, hb] at hp; cases hp
      | some v =>
        rw [ha, hb] at hp
        simp only at hp
        obtain ⟨rfl, hu⟩ := num_some.1 ha
        obtain ⟨rfl, hv⟩ := num_some.1 hb
        by_cases hr : St.rgt (u : Int) (v : Int) = true
        · rw [if_pos hr] at hp
          injection hp with hp
          injection hp with h1 h2
          subst h1 h2
          exact ⟨hr, by omega, by simp, by simp⟩
        · rw [if_neg hr] at hp; cases hp
  · rintro ⟨hr, hc, rfl, rfl⟩
    have hrr : 1 ≤ c ∧ 0 ≤ n ∧ n ≤ 63 := by unfold St.rgt at hr; exact of_decide_eq_true hr
    have ha : num (decDigits c.toNat) = some c.toNat := num_some.2 ⟨rfl, by omega⟩
    have hb : num (decDigits n.toNat) = some n.toNat := num_some.2 ⟨rfl, by omega⟩
    rw [ha, hb]
    simp only
    rw [Int.toNat_of_nonneg (by omega), Int.toNat_of_nonneg (by omega), if_pos hr]
theorem parse_atoi {l a b : List UInt8} (h : cutAt l = some (a, b)) {c n : Int} (hp : parseOf l = some (c, n)) : atoiAll a = .ok c ∧ atoiAll b = .ok n := by
  obtain ⟨hr, hc, rfl, rfl⟩ := (parse_iff h).1 hp
  have hrr : 1 ≤ c ∧ 0 ≤ n ∧ n ≤ 63 := by unfold St.rgt at hr; exact of_decide_eq_true hr
  have h1 := atoi_digits c.toNat (by omega)
  have h2 := atoi_digits n.toNat (by omega)
  rw [Int.toNat_of_nonneg (by omega)] at h1 h2
  exact ⟨h1, h2⟩
/-- The text of a right stamp is that of the two numbers that are read. -/
theorem parse_shown {l a b : List UInt8} (h : cutAt l = some (a, b)) {c n : Int} (hr : St.rgt c n = true) (hc : c ≤ 9223372036854775807) (hs : decDigits c.toNat ++ 64 :: decDigits n.toNat = l) : parseOf l = some (c, n) := by
  obtain ⟨e, hno⟩ := cutAt_some h
  rw [e] at hs
  obtain ⟨h1, h2⟩ := split_one (digits_no64 _) hno hs
  exact (parse_iff h).2 ⟨hr, hc, h1.symm, h2.symm⟩
theorem parse_text {l : List UInt8} {c n : Int} (hp : parseOf l = some (c, n)) : St.rgt c n = true ∧ c ≤ 9223372036854775807 ∧ decDigits c.toNat ++ 64 :: decDigits n.toNat = l := by
  cases h : cutAt l with
  | none => rw [parse_none h] at hp; cases hp
  | some p =>
    obtain ⟨a, b⟩ := p
    obtain ⟨hr, hc, rfl, rfl⟩ := (parse_iff h).1 hp
    exact ⟨hr, hc, (cutAt_some h).1.symm⟩
theorem cut_shown (c n : Int) : cutAt (decDigits c.toNat ++ 64 :: decDigits n.toNat) = some (decDigits c.toNat, decDigits n.toNat) := by
  cases h : cutAt (decDigits c.toNat ++ 64 :: decDigits n.toNat) with
  | none => exact absurd rfl (cutAt_no h 64 (by simp))
  | some p =>
    obtain ⟨a, b⟩ := p
    obtain ⟨e, hno⟩ := cutAt_some h
    obtain ⟨rfl, rfl⟩ := split_one (digits_no64 _) hno e
    rfl
/-- What is shown is read again. -/
theorem parse_show {c n : Int} (hr : St.rgt c n = true) (hc : c ≤ 9223372036854775807) : parseOf (decDigits c.toNat ++ 64 :: decDigits n.toNat) = some (c, n) :=
  parse_shown (cut_shown c n) hr hc rfl

theorem ten_text : decDigits 10 ++ 64 :: decDigits 0 = [49, 48, 64, 48] := by
  rw [Lib.decDigits_two (by decide) (by decide), Lib.decDigits_one (by decide)]
  decide
theorem ten_parse : parseOf [49, 48, 64, 48] = some (10, 0) := by
  have h := parse_show (c := 10) (n := 0) (by decide) (by decide)
  rw [show (10 : Int).toNat = 10 from rfl, show (0 : Int).toNat = 0 from rfl, ten_text] at h
  exact h

/-- The library's search for the first '@'. -/
theorem index_cut : ∀ l : List UInt8, indexByte l 64 = match cutAt l with
    | some (a, _) => (a.length : Int)
    | none => -1
  | [] => rfl
  | c :: r => by
    have ih := index_cut r
    unfold indexByte cutAt
    by_cases hc : c = 64
    · subst hc; simp
    · rw [if_neg hc, if_neg (by simpa using hc), ih]
      cases hr : cutAt r with
      | none => simp
      | some p =>
        obtain ⟨a, b⟩ := p
        simp only
        rw [if_neg (by first | (simp; done) | (simp; omega))]
        simp

end Num
end Go.Proofs.YtebnmbckkelkpaaDoor
