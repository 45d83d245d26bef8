/-
  Plain mathematics of sets of objects: a list as it must be is known by its objects; how many there are; what two sets have together. Nothing of the program is imported.
-/
import Derived.Test.YtmccednfaemiaaaSpPlain
namespace Go.Proofs.Ytmccednfaemiaaa
namespace Sp

/-- The same, from the front: all places from b on. -/
def gf : Int → List (Int × Int) → Prop
  | _, [] => True
  | b, s :: r => b ≤ s.1 ∧ s.1 ≤ s.2 ∧ s.2 ≤ 255 ∧ gf (s.2 + 2) r
theorem inL_cons (s : Int × Int) (r : List (Int × Int)) (o : Nat) : inL (s :: r) o = (decide (s.1 ≤ (o : Int) ∧ (o : Int) ≤ s.2) || inL r o) := rfl
theorem good_gf : ∀ (l : List (Int × Int)) (b : Int), good 256 l → (0 < l.length → b ≤ (l.getD 0 (0, 0)).1) → gf b l
  | [], _, _, _ => trivial
  | s :: r, b, h, hb => by
    obtain ⟨_, h2, h3, _⟩ := h 0 (by simp)
    have h2' : s.1 ≤ s.2 := h2
    have h3' : s.2 < 256 := h3
    refine ⟨hb (by simp), h2', by omega, good_gf r _ (fun j hj => ?_) (fun h0 => ?_)⟩
    · obtain ⟨q1, q2, q3, q4⟩ := h (j + 1) (by simp; omega)
      refine ⟨q1, q2, q3, fun hp => ?_⟩
      have q5 := q4 (by omega)
      cases j with
      | zero => omega
      | succ m => exact q5
    · obtain ⟨_, _, _, q4⟩ := h 1 (by simp; omega)
      have q5 : s.2 + 1 < (r.getD 0 (0, 0)).1 := q4 (by omega)
      omega
theorem gf_from : ∀ (l : List (Int × Int)) (b : Int), gf b l → ∀ o : Nat, inL l o = true → b ≤ (o : Int)
  | [], _, _, o, h => by simp [inL] at h
  | s :: r, b, h, o, ho => by
    obtain ⟨h1, h2, h3, h4⟩ := h
    rw [inL_cons, Bool.or_eq_true, decide_eq_true_eq] at ho
    rcases ho with ho | ho
    · omega
    · have := gf_from r _ h4 o ho
      omega
theorem gf_uniq : ∀ (l r : List (Int × Int)) (b : Int), 0 ≤ b → gf b l → gf b r → (∀ o : Nat, o < 256 → inL l o = inL r o) → l = r
  | [], [], _, _, _, _, _ => rfl
  | [], t :: r, b, hb, _, h, he => by
    obtain ⟨h1, h2, h3, _⟩ := h
    have := he t.1.toNat (by omega)
    rw [inL_cons, decide_eq_true (by omega)] at this
    simp [inL] at this
  | s :: l, [], b, hb, h, _, he => by
    obtain ⟨h1, h2, h3, _⟩ := h
    have := he s.1.toNat (by omega)
    rw [inL_cons, decide_eq_true (by omega)] at this
    simp [inL] at this
  | s :: l, t :: r, b, hb, hl, hr, he => by
    obtain ⟨a1, a2, a3, a4⟩ := hl
    obtain ⟨c1, c2, c3, c4⟩ := hr
    have e1 : s.1 ≤ t.1 := by
      have h := he t.1.toNat (by omega)
      rw [inL_cons t, decide_eq_true (p := t.1 ≤ ((t.1.toNat : Nat) : Int) ∧ ((t.1.toNat : Nat) : Int) ≤ t.2) (by omega), Bool.true_or] at h
      have := gf_from (s :: l) s.1 ⟨Int.le_refl _, a2, a3, a4⟩ _ h
      omega
    have e2 : t.1 ≤ s.1 := by
      have h := he s.1.toNat (by omega)
      rw [inL_cons s, decide_eq_true (p := s.1 ≤ ((s.1.toNat : Nat) : Int) ∧ ((s.1.toNat : Nat) : Int) ≤ s.2) (by omega), Bool.true_or] at h
      have := gf_from (t :: r) t.1 ⟨Int.le_refl _, c2, c3, c4⟩ _ h.symm
      omega
    have e3 : ¬ s.2 < t.2 := fun hlt => by
      have h := he (s.2 + 1).toNat (by omega)
      rw [inL_cons t, decide_eq_true (p := t.1 ≤ (((s.2 + 1).toNat : Nat) : Int) ∧ (((s.2 + 1).toNat : Nat) : Int) ≤ t.2) (by omega), Bool.true_or, inL_cons, Bool.or_eq_true, decide_eq_true_eq] at h
      rcases h with h | h
      · omega
      · have := gf_from l _ a4 _ h
        omega
    have e4 : ¬ t.2 < s.2 := fun hlt => by
      have h := he (t.2 + 1).toNat (by omega)
      rw [inL_cons s, decide_eq_true (p := s.1 ≤ (((t.2 + 1).toNat : Nat) : Int) ∧ (((t.2 + 1).toNat : Nat) : Int) ≤ s.2) (by omega), Bool.true_or] at h
      have h := h.symm
      rw [inL_cons, Bool.or_eq_true, decide_eq_true_eq] at h
      rcases h with h | h
      · omega
      · have := gf_from r _ c4 _ h
        omega
    have e5 : s = t := Prod.ext (by omega) (by omega)
    subst e5
    have e6 := gf_uniq l r (s.2 + 2) (by omega) a4 c4 (fun o ho => by
      have h := he o ho
      rw [inL_cons, inL_cons] at h
      cases hd : decide (s.1 ≤ (o : Int) ∧ (o : Int) ≤ s.2) with
      | false => rw [hd, Bool.false_or, Bool.false_or] at h; exact h
      | true =>
        have hd := of_decide_eq_true hd
        have n1 : inL l o = false := by
          cases hq : inL l o with
          | false => rfl
          | true => have := gf_from l _ a4 _ hq; omega
        have n2 : inL r o = false := by
          cases hq : inL r o with
          | false => rfl
          | true => have := gf_from r _ c4 _ hq; omega
        rw [n1, n2])
    rw [e6]
theorem good_uniq {l r : List (Int × Int)} (hl : good 256 l) (hr : good 256 r) (h : ∀ o : Nat, o < 256 → inL l o = inL r o) : l = r :=
  gf_uniq l r 0 (Int.le_refl _) (good_gf l 0 hl (fun h0 => (hl 0 h0).1)) (good_gf r 0 hr (fun h0 => (hr 0 h0).1)) h
theorem good_lo {b : Int} {l : List (Int × Int)} (h : good b l) : ∀ j, j < l.length → 2 * (j : Int) ≤ (l.getD j (0, 0)).1
  | 0, hj => (h 0 hj).1
  | j + 1, hj => by
    have h1 := good_lo h j (by omega)
    have h2 := (h j (by omega)).2.1
    have h3 : (l.getD j (0, 0)).2 + 1 < (l.getD (j + 1) (0, 0)).1 := (h (j + 1) hj).2.2.2 (by omega)
    omega
theorem good_len {l : List (Int × Int)} (h : good 256 l) : l.length ≤ 128 := by
  rcases Nat.lt_or_ge 128 l.length with hlt | hge
  · have h1 := good_lo h 128 hlt
    obtain ⟨_, h2, h3, _⟩ := h 128 hlt
    omega
  · exact hge
theorem ofL_len (f : Nat → Bool) : (ofL f).length ≤ 128 := good_len (good_ofL f)
theorem ofL_self {l : List (Int × Int)} (h : good 256 l) : ofL (inL l) = l := good_uniq (good_ofL _) h fun o ho => inL_ofL _ o ho

/-- Is it a set as it must be? -/
def fmd (l : List (Int × Int)) : Bool := decide (l.length ≤ 128 ∧ l = ofL (inL l))
theorem fmd_iff (l : List (Int × Int)) : fmd l = true ↔ good 256 l := by
  unfold fmd
  rw [decide_eq_true_eq]
  constructor
  · rintro ⟨_, h⟩
    rw [h]
    exact good_ofL _
  · intro h
    exact ⟨good_len h, (ofL_self h).symm⟩
theorem fmd_ofL (f : Nat → Bool) : fmd (ofL f) = true := (fmd_iff _).2 (good_ofL f)

theorem two (b : Bool) : b = true ∨ b = false := by cases b <;> simp
/-- How many objects, up to k. -/
def szTo (f : Nat → Bool) : Nat → Nat
  | 0 => 0
  | k + 1 => if f k = true then szTo f k + 1 else szTo f k
def sz (f : Nat → Bool) : Nat := szTo f 256
theorem szTo_le (f : Nat → Bool) : ∀ k, szTo f k ≤ k
  | 0 => Nat.le_refl _
  | k + 1 => by
    have := szTo_le f k
    unfold szTo
    split <;> omega
theorem sz_le2 (f : Nat → Bool) : sz f ≤ 256 := szTo_le f 256
theorem szTo_ext {f g : Nat → Bool} : ∀ k, (∀ i, i < k → f i = g i) → szTo f k = szTo g k
  | 0, _ => rfl
  | k + 1, h => by rw [szTo, szTo, szTo_ext k (fun i hi => h i (by omega)), h k (by omega)]
theorem sz_ext {f g : Nat → Bool} (h : ∀ i, i < 256 → f i = g i) : sz f = sz g := szTo_ext 256 h
theorem szTo_split (a b : Nat → Bool) : ∀ k, szTo (fun o => a o && b o) k + szTo (fun o => a o && !b o) k = szTo a k
  | 0 => rfl
  | k + 1 => by
    have := szTo_split a b k
    simp only [szTo]
    rcases two (a k) with ha | ha <;> rcases two (b k) with hb | hb <;> simp [ha, hb] <;> omega
theorem sz_split (a b : Nat → Bool) : sz (fun o => a o && b o) + sz (fun o => a o && !b o) = sz a := szTo_split a b 256
theorem szTo_all {f : Nat → Bool} : ∀ k, (∀ i, i < k → f i = true) → szTo f k = k
  | 0, _ => rfl
  | k + 1, h => by rw [szTo, if_pos (h k (by omega)), szTo_all k (fun i hi => h i (by omega))]
theorem sz_all {f : Nat → Bool} (h : ∀ i, i < 256 → f i = true) : sz f = 256 := szTo_all 256 h
theorem szTo_sub (a b : Nat → Bool) : ∀ k, szTo (fun o => a o && b o) k ≤ szTo b k ∧ (szTo (fun o => a o && b o) k = szTo b k ↔ ∀ i, i < k → b i = true → a i = true)
  | 0 => ⟨Nat.le_refl _, fun _ i hi => by omega, fun _ => rfl⟩
  | k + 1 => by
    obtain ⟨h1, h2⟩ := szTo_sub a b k
    have step : (∀ i, i < k + 1 → b i = true → a i = true) ↔ (∀ i, i < k → b i = true → a i = true) ∧ (b k = true → a k = true) := by
      constructor
      · intro h
        exact ⟨fun i hi => h i (by omega), h k (by omega)⟩
      · rintro ⟨p, q⟩ i hi
        by_cases e : i = k
        · subst e; exact q
        · exact p i (by omega)
    rw [step, ← h2]
    simp only [szTo]
    rcases two (a k) with ha | ha <;> rcases two (b k) with hb | hb <;> simp [ha, hb] <;> omega

/-- How many spans many lists hold together. -/
def tot (ls : List (List (Int × Int))) : Nat := (ls.map List.length).sum
theorem tot_one (l : List (Int × Int)) : tot [l] = l.length := by simp [tot]
theorem tot_two (l r : List (Int × Int)) : tot [l, r] = l.length + r.length := by simp [tot]
theorem tot_le (n : Nat) : ∀ (ls : List (List (Int × Int))), (∀ k, k < ls.length → (ls.getD k []).length ≤ n) → tot ls ≤ ls.length * n
  | [], _ => by simp [tot]
  | l :: r, h => by
    have h0 : l.length ≤ n := h 0 (by simp)
    have h1 := tot_le n r (fun k hk => h (k + 1) (by simp; omega))
    have e : tot (l :: r) = l.length + tot r := by simp [tot]
    rw [e, List.length_cons, Nat.succ_mul]
    omega

/-- Is all of g in f? Is one in both? -/
def cov (f g : Nat → Bool) : Bool := decide (∀ o : Fin 256, g o.val = true → f o.val = true)
def touch (f g : Nat → Bool) : Bool := decide (∃ o : Fin 256, f o.val = true ∧ g o.val = true)
theorem cov_iff (f g : Nat → Bool) : cov f g = true ↔ ∀ o, o < 256 → g o = true → f o = true := by
  unfold cov
  rw [decide_eq_true_iff]
  exact ⟨fun h o ho => h ⟨o, ho⟩, fun h o => h o.val o.isLt⟩
theorem touch_iff (f g : Nat → Bool) : touch f g = true ↔ ∃ o, o < 256 ∧ f o = true ∧ g o = true := by
  unfold touch
  rw [decide_eq_true_iff]
  exact ⟨fun ⟨o, h⟩ => ⟨o.val, o.isLt, h⟩, fun ⟨o, ho, h⟩ => ⟨⟨o, ho⟩, h⟩⟩
theorem cov_sz (a b : Nat → Bool) : cov a b = (sz (fun o => a o && b o) == sz b) := by
  rw [Bool.eq_iff_iff, cov_iff, beq_iff_eq]
  exact (szTo_sub a b 256).2.symm
theorem ofL_nil (f : Nat → Bool) : (ofL f).length = 0 ↔ ∀ o, o < 256 → f o = false := by
  constructor
  · intro h o ho
    rw [← inL_ofL f o ho, List.eq_nil_of_length_eq_zero h]
    rfl
  · intro h
    have : ofL f = [] := good_uniq (good_ofL f) (good_nil _) fun o ho => by rw [inL_ofL f o ho, h o ho]; rfl
    rw [this]
    rfl
theorem cov_ref (f g : Nat → Bool) : cov f g = ((ofL fun o => g o && !f o).length == 0) := by
  rw [Bool.eq_iff_iff, cov_iff, beq_iff_eq, ofL_nil]
  constructor
  · intro h o ho
    have := h o ho
    cases hg : g o <;> cases hf : f o <;> simp_all
  · intro h o ho hg
    have := h o ho
    cases hf : f o <;> simp_all
theorem touch_ref (f g : Nat → Bool) : touch f g = decide (0 < (ofL fun o => f o && g o).length) := by
  rw [Bool.eq_iff_iff, touch_iff, decide_eq_true_eq, Nat.pos_iff_ne_zero, Ne, ofL_nil]
  constructor
  · rintro ⟨o, ho, h1, h2⟩ h
    have := h o ho
    simp_all
  · intro h
    refine Classical.byContradiction fun hn => h fun o ho => ?_
    cases hf : f o <;> cases hg : g o <;> simp
    exact hn ⟨o, ho, hf, hg⟩

end Sp
end Go.Proofs.Ytmccednfaemiaaa
