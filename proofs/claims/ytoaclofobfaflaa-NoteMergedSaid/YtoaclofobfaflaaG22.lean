/-
  What slices.swapRangeCmpFunc does to a row of marked writes.
  What slices.rotateCmpFunc does to a row of marked writes.
  Plain mathematics of the merge of two sorted runs in place: a binary search that pairs places, a rotation, two halves. Nothing of the program is imported.
  What slices.insertionSortCmpFunc does to a row of marked writes whose marks rise: it sorts, and keeps equals in their order.
-/
import Derived.Test.YtoaclofobfaflaaG21
import Derived.Shelf.RegionOpenPlain
import Derived.Lib.QuietBelow
namespace Go.Proofs.Ytoaclofobfaflaa
open Go.RowKit Fb

namespace So
/-- k elements from a on change places with those from c on. -/
def swR (T : List Tw) (a c : Nat) : Nat → List Tw
  | 0 => T
  | k + 1 => sw (swR T a c k) (a + k) (c + k)
theorem swR_len (T : List Tw) (a c : Nat) : ∀ k, (swR T a c k).length = T.length
  | 0 => rfl
  | k + 1 => by rw [swR, sw_len, swR_len T a c k]
end So

set_option maxRecDepth 100000 in
set_option maxHeartbeats 6400000 in
theorem swapRange_any (fv : Value) (wb : World) (b off cap : Nat) (T : List Tw) (w : World) (a c k : Nat) (hR : RowIs wb b off T w) (_hcap : T.length ≤ cap) (hmax : T.length ≤ 9223372036854775807) (ha : a + k ≤ T.length) (hc : c + k ≤ T.length) :
    Calls Try.prog 104 #[.slice (some ⟨b, off, none⟩) T.length cap, .int .i64 a, .int .i64 c, .int .i64 k, fv] w fun e w' => e = .returned (.tuple #[]) ∧ RowIs wb b off (So.swR T a c k) w' := by
  have HR := Lib.hid hR
  clear hR
  go_enter Try.func104, Try.ntmps104
  go_wp2_with fail
  go_loopw [10] (fun s10 wr => ∃ i : Nat, i ≤ k ∧ s10 = .int .i64 (i : Int) ∧ RowIs wb b off (So.swR T a c i) wr) (fun s10 _ => k - (intOf s10).toNat)
  case atStart => exact ⟨0, Nat.zero_le _, rfl, HR.out⟩
  case round =>
    obtain ⟨i, hi, rfl, hrow⟩ := hrel
    by_cases hlt : i < k
    · have hz : (i : Int) < (k : Int) := by omega
      have hl := So.swR_len T a c i
      obtain ⟨Tk, hTk⟩ : ∃ Tk, So.swR T a c i = Tk := ⟨_, rfl⟩
      rw [hTk] at hrow hl
      have HT := Lib.hid hTk
      clear hTk
      have hia : a + i < Tk.length := by omega
      have hic : c + i < Tk.length := by omega
      obtain ⟨⟨e0, e1, e2, e3⟩, f0, f1, f2, f3⟩ := hrow.cells hia
      obtain ⟨⟨d0, d1, d2, d3⟩, r0, r1, r2, r3⟩ := hrow.cells hic
      obtain ⟨x, hx⟩ : ∃ x, (So.g Tk (a + i)).1 = x := ⟨_, rfl⟩
      obtain ⟨y, hy⟩ : ∃ y, (So.g Tk (c + i)).1 = y := ⟨_, rfl⟩
      rw [hx] at e0 e1 e2 e3
      rw [hy] at d0 d1 d2 d3
      have hsw := (hrow.swap hia hic hy hx).drew
      obtain ⟨⟨o0, o1, o2, o3⟩, -⟩ := (hrow.put hia (y, 0)).cells (i := c + i) (by simpa using hic)
      generalize So.g (Tk.set (a + i) (y, 0)) (c + i) = z at o0 o1 o2 o3
      obtain ⟨x1, x2, x3, x4⟩ := x
      obtain ⟨y1, y2, y3, y4⟩ := y
      have HSW := Lib.hid hsw
      have n0 : (0 : Int) ≤ (a : Int) + (i : Int) := by omega
      have n1 : (a : Int) + (i : Int) < (T.length : Int) := by omega
      have n2 : (0 : Int) ≤ (c : Int) + (i : Int) := by omega
      have n3 : (c : Int) + (i : Int) < (T.length : Int) := by omega
      have t1 : ((a : Int) + (i : Int)).toNat = a + i := by omega
      have t2 : ((c : Int) + (i : Int)).toNat = c + i := by omega
      clear hsw hx hy hrow
      go_wp2_with fail
      have mixed : Try.prog.follows .mixedOrders = true := by kernel_rfl
      go_big_region_o
      all_goals go_wp2_with fail
      go_roundw
      case rel => exact ⟨i + 1, by omega, by go_num, by rw [So.swR, HT.out]; exact HSW.out⟩
      case measure => simp [intOf]; omega
    · have hik : i = k := by omega
      subst hik
      have HR2 := Lib.hid hrow
      clear hrow
      go_wp2
      go_end0
      exact ⟨rfl, HR2.out⟩

end Go.Proofs.Ytoaclofobfaflaa
namespace Go.Proofs.Ytoaclofobfaflaa
open Go.RowKit Fb

namespace So
theorem swR_g {T : List Tw} {a c : Nat} : ∀ k, a + k ≤ c → c + k ≤ T.length → ∀ p, g (swR T a c k) p = if a ≤ p ∧ p < a + k then g T (p - a + c) else if c ≤ p ∧ p < c + k then g T (p - c + a) else g T p
  | 0, _, _, p => by rw [swR, if_neg (by omega), if_neg (by omega)]
  | k + 1, h1, h2, p => by
    have hl := swR_len T a c k
    rw [swR, sw_g (by omega) (by omega)]
    have ih := fun q => swR_g (T := T) (a := a) (c := c) k (by omega) (by omega) q
    rw [ih, ih, ih]
    (repeat' split) <;> first | (exfalso; omega) | rfl | (congr 1; omega)
/-- What lay from m on, below b, lies ahead of what lay from a on, below m. -/
structure Rot (a m b : Nat) (T T' : List Tw) : Prop where
  len : T'.length = T.length
  at_ : ∀ p, g T' p = if a ≤ p ∧ p < a + (b - m) then g T (p - a + m) else if a + (b - m) ≤ p ∧ p < b then g T (p - (b - m)) else g T p
theorem Rot.same {m i : Nat} {T : List Tw} (hi : i ≤ m) (hb : m + i ≤ T.length) : Rot (m - i) m (m + i) T (swR T (m - i) m i) where
  len := swR_len _ _ _ _
  at_ := fun p => by
    rw [swR_g i (by omega) (by omega)]
    (repeat' split) <;> first | (exfalso; omega) | rfl | (congr 1; omega)
theorem Rot.left {m i j : Nat} {T T' : List Tw} (hi : i ≤ m) (hj : j < i) (hb : m + j ≤ T.length) (h : Rot (m - (i - j)) m (m + j) (swR T (m - i) m j) T') : Rot (m - i) m (m + j) T T' where
  len := h.len.trans (swR_len _ _ _ _)
  at_ := fun p => by
    rw [h.at_ p, swR_g (T := T) (a := m - i) (c := m) j (by omega) hb, swR_g (T := T) (a := m - i) (c := m) j (by omega) hb, swR_g (T := T) (a := m - i) (c := m) j (by omega) hb]
    (repeat' split) <;> first | (exfalso; omega) | rfl | (congr 1; omega)
theorem Rot.right {m i j : Nat} {T T' : List Tw} (hi : i ≤ m) (hj : i < j) (hb : m + j ≤ T.length) (h : Rot (m - i) m (m + (j - i)) (swR T (m - i) (m + j - i) i) T') : Rot (m - i) m (m + j) T T' where
  len := h.len.trans (swR_len _ _ _ _)
  at_ := fun p => by
    rw [h.at_ p, swR_g (T := T) (a := m - i) (c := m + j - i) i (by omega) (by omega), swR_g (T := T) (a := m - i) (c := m + j - i) i (by omega) (by omega), swR_g (T := T) (a := m - i) (c := m + j - i) i (by omega) (by omega)]
    (repeat' split) <;> first | (exfalso; omega) | rfl | (congr 1; omega)
theorem Rot.seg {a m b : Nat} {T T' : List Tw} (h : Rot a m b T T') (h1 : a ≤ m) (h2 : m ≤ b) : Seg a b T T' where
  len := h.len
  out := fun p hp => by rw [h.at_ p, if_neg (by omega), if_neg (by omega)]
  fwd := fun p p1 p2 => by
    rw [h.at_ p]
    by_cases e : p < a + (b - m)
    · rw [if_pos ⟨p1, e⟩]; exact ⟨_, by omega, by omega, rfl⟩
    · rw [if_neg (by omega), if_pos (by omega)]; exact ⟨_, by omega, by omega, rfl⟩
  bwd := fun p p1 p2 => by
    by_cases e : p < m
    · exact ⟨p + (b - m), by omega, by omega, by rw [h.at_, if_neg (by omega), if_pos (by omega)]; congr 1; omega⟩
    · exact ⟨p - m + a, by omega, by omega, by rw [h.at_, if_pos (by omega)]; congr 1; omega⟩
end So

set_option maxRecDepth 100000 in
set_option maxHeartbeats 6400000 in
theorem rotate_any (fv : Value) (wb : World) (b off cap : Nat) (T : List Tw) (w : World) (a m e : Nat) (hR : RowIs wb b off T w) (hcap : T.length ≤ cap) (hmax : T.length ≤ 4611686018427387904) (ha : a < m) (hm : m < e) (he : e ≤ T.length) :
    Calls Try.prog 103 #[.slice (some ⟨b, off, none⟩) T.length cap, .int .i64 a, .int .i64 m, .int .i64 e, fv] w fun en w' => en = .returned (.tuple #[]) ∧ ∃ T', RowIs wb b off T' w' ∧ So.Rot a m e T T' := by
  have HR := Lib.hid hR
  clear hR
  have s1 : (m : Int) - (a : Int) = ((m - a : Nat) : Int) := by omega
  have s2 : (e : Int) - (m : Int) = ((e - m : Nat) : Int) := by omega
  go_enter Try.func103, Try.ntmps103
  go_wp2_with fail
  go_loopw [10, 11] (fun s10 s11 wr => ∃ (i j : Nat) (Tk : List Tw), s10 = .int .i64 (i : Int) ∧ s11 = .int .i64 (j : Int) ∧ 1 ≤ i ∧ 1 ≤ j ∧ i ≤ m ∧ m + j ≤ T.length ∧ Tk.length = T.length ∧ RowIs wb b off Tk wr ∧ (∀ T', So.Rot (m - i) m (m + j) Tk T' → So.Rot a m e T T')) (fun s10 s11 _ => (intOf s10).toNat + (intOf s11).toNat)
  case atStart => exact ⟨m - a, e - m, T, by first | rfl | go_num, by first | rfl | go_num, by omega, by omega, by omega, by omega, rfl, HR.out, fun T' h => by rw [show m - (m - a) = a from by omega, show m + (e - m) = e from by omega] at h; exact h⟩
  case round =>
    obtain ⟨i, j, Tk, rfl, rfl, hi, hj, him, hjl, hlen, hrow, hrot⟩ := hrel
    have HROT := Lib.hid hrot
    clear hrot
    have q1 : (m : Int) - (i : Int) = ((m - i : Nat) : Int) := by omega
    by_cases heq : i = j
    · subst heq
      have d0 : ((i : Int) != (i : Int)) = false := by simp
      have N := swapRange_any fv wb b off cap Tk wr (m - i) m i hrow (by omega) (by omega) (by omega) (by omega)
      rw [hlen] at N
      have N1 := Lib.hid N
      have HF := Lib.hid (HROT.out _ (So.Rot.same him (by omega)))
      clear N hrow
      go_wp2_with fail
      refine N1.out.mono ?_
      rintro en w1 ⟨rfl, hr1⟩
      have HR1 := Lib.hid hr1
      clear hr1
      go_wp2
      go_end0
      exact ⟨rfl, _, HR1.out, HF.out⟩
    · have d0 : ((i : Int) != (j : Int)) = true := by rw [bne_iff_ne]; omega
      have d00 : ((i : Int) == (j : Int)) = false := beq_eq_false_iff_ne.2 (by omega)
      by_cases hgt : j < i
      · have d1 : decide ((j : Int) < (i : Int)) = true := decide_eq_true (by omega)
        have d11 : (j : Int) < (i : Int) := by omega
        have q2 : (i : Int) - (j : Int) = ((i - j : Nat) : Int) := by omega
        have N := swapRange_any fv wb b off cap Tk wr (m - i) m j hrow (by omega) (by omega) (by omega) (by omega)
        rw [hlen] at N
        have N1 := Lib.hid N
        have HF := Lib.hid (fun T' h => HROT.out T' (So.Rot.left (T := Tk) him hgt (by omega) h))
        clear N hrow
        go_wp2_with fail
        refine N1.out.mono ?_
        rintro en w1 ⟨rfl, hr1⟩
        have HR1 := Lib.hid hr1
        clear hr1
        go_wp2_with fail
        go_roundw
        case rel => exact ⟨i - j, j, _, by first | rfl | go_num, rfl, by omega, by omega, by omega, by omega, (So.swR_len _ _ _ _).trans hlen, HR1.out, fun T' h => HF.out T' h⟩
        case measure => simp [intOf]; omega
      · have d1 : decide ((j : Int) < (i : Int)) = false := decide_eq_false (by omega)
        have d11 : ¬ (j : Int) < (i : Int) := by omega
        have q2 : (j : Int) - (i : Int) = ((j - i : Nat) : Int) := by omega
        have q3 : (m : Int) + (j : Int) - (i : Int) = ((m + j - i : Nat) : Int) := by omega
        have N := swapRange_any fv wb b off cap Tk wr (m - i) (m + j - i) i hrow (by omega) (by omega) (by omega) (by omega)
        rw [hlen] at N
        have N1 := Lib.hid N
        have HF := Lib.hid (fun T' h => HROT.out T' (So.Rot.right (T := Tk) him (by omega) (by omega) h))
        clear N hrow
        go_wp2_with fail
        refine N1.out.mono ?_
        rintro en w1 ⟨rfl, hr1⟩
        have HR1 := Lib.hid hr1
        clear hr1
        go_wp2_with fail
        go_roundw
        case rel => exact ⟨i, j - i, _, rfl, by first | rfl | go_num, by omega, by omega, by omega, by omega, (So.swR_len _ _ _ _).trans hlen, HR1.out, fun T' h => HF.out T' h⟩
        case measure => simp [intOf]; omega

end Go.Proofs.Ytoaclofobfaflaa
namespace Go.Proofs.Ytoaclofobfaflaa
open Go.RowKit

namespace So
/-- Two sorted runs, the marks of the first below those of the second. -/
structure Two (a m b : Nat) (T : List Tw) : Prop where
  fst : Srt T a m
  snd : Srt T m b
  marks : ∀ p q, a ≤ p → p < m → m ≤ q → q < b → (g T p).2 < (g T q).2
theorem Two.yes {a m b p q : Nat} {T : List Tw} (_h : Two a m b T) (_hp : a ≤ p) (hc : cf (g T q).1 (g T p).1 < 0) : TL (g T q) (g T p) := tl_of_neg hc
theorem Two.no {a m b p q : Nat} {T : List Tw} (h : Two a m b T) (hp : a ≤ p) (hp2 : p < m) (hq : m ≤ q) (hq2 : q < b) (hc : ¬ cf (g T q).1 (g T p).1 < 0) : TL (g T p) (g T q) := tl_of_not hc (h.marks p q hp hp2 hq hq2)
theorem Srt.le {a b p q : Nat} {T : List Tw} (h : Srt T a b) (hp : a ≤ p) (hpq : p ≤ q) (hq : q < b) {z : Tw} (hz : TL (g T q) z) : TL (g T p) z := by
  by_cases e : p = q
  · rw [e]; exact hz
  · exact (h p q hp (by omega) hq).trans hz
theorem Srt.ge {a b p q : Nat} {T : List Tw} (h : Srt T a b) (hp : a ≤ p) (hpq : p ≤ q) (hq : q < b) {z : Tw} (hz : TL z (g T p)) : TL z (g T q) := by
  by_cases e : p = q
  · rw [← e]; exact hz
  · exact hz.trans (h p q hp (by omega) hq)

/-! ### One element in the first run -/
/-- The element at place a has gone to place k. -/
structure ShL (a k : Nat) (T T' : List Tw) : Prop where
  len : T'.length = T.length
  at_ : ∀ p, g T' p = if a ≤ p ∧ p < k then g T (p + 1) else if p = k then g T a else g T p
theorem ShL.start (a : Nat) (T : List Tw) : ShL a a T T := ⟨rfl, fun p => by (repeat' split) <;> first | (exfalso; omega) | rfl | (congr 1)⟩
theorem ShL.step {a k : Nat} {T T' : List Tw} (h : ShL a k T T') (hk : a ≤ k) (hl : k + 1 < T.length) : ShL a (k + 1) T (sw T' k (k + 1)) := by
  have hl' := h.len
  refine ⟨(sw_len _ _ _).trans h.len, fun p => ?_⟩
  rw [sw_g (by omega) (by omega), h.at_, h.at_, h.at_]
  (repeat' split) <;> first | (exfalso; omega) | rfl | (congr 1; omega)
theorem ShL.seg {a k b : Nat} {T T' : List Tw} (h : ShL a k T T') (hk : a ≤ k) (hb : k < b) : Seg a b T T' where
  len := h.len
  out := fun p hp => by rw [h.at_, if_neg (by omega), if_neg (by omega)]
  fwd := fun p p1 p2 => by
    rw [h.at_]
    split
    · exact ⟨p + 1, by omega, by omega, rfl⟩
    · split
      · exact ⟨a, by omega, by omega, rfl⟩
      · exact ⟨p, p1, p2, rfl⟩
  bwd := fun p p1 p2 => by
    by_cases e : p = a
    · exact ⟨k, hk, hb, by rw [h.at_, if_neg (by omega), if_pos rfl, e]⟩
    · by_cases e2 : p ≤ k
      · exact ⟨p - 1, by omega, by omega, by rw [h.at_, if_pos (by omega)]; congr 1; omega⟩
      · exact ⟨p, p1, p2, by rw [h.at_, if_neg (by omega), if_neg (by omega)]⟩
theorem ShL.sorted {a i b : Nat} {T T' : List Tw} (h : Two a (a + 1) b T) (hs : ShL a (i - 1) T T') (hi : a + 1 ≤ i) (hib : i ≤ b) (hlo : ∀ q, a + 1 ≤ q → q < i → TL (g T q) (g T a)) (hhi : ∀ q, i ≤ q → q < b → TL (g T a) (g T q)) : Srt T' a b := by
  intro p q h1 h2 h3
  rw [hs.at_, hs.at_]
  by_cases p1 : a ≤ p ∧ p < i - 1
  · rw [if_pos p1]
    by_cases q1 : a ≤ q ∧ q < i - 1
    · rw [if_pos q1]; exact h.snd _ _ (by omega) (by omega) (by omega)
    · rw [if_neg q1]
      by_cases q2 : q = i - 1
      · rw [if_pos q2]; exact hlo _ (by omega) (by omega)
      · rw [if_neg q2]; exact (hlo _ (by omega) (by omega)).trans (hhi _ (by omega) h3)
  · rw [if_neg p1]
    by_cases p2 : p = i - 1
    · rw [if_pos p2, if_neg (by omega), if_neg (by omega)]; exact hhi _ (by omega) h3
    · rw [if_neg p2, if_neg (by omega), if_neg (by omega)]; exact h.snd _ _ (by omega) h2 h3

/-! ### One element in the second run -/
/-- The element at place m has gone to place k. -/
structure ShR (m k : Nat) (T T' : List Tw) : Prop where
  len : T'.length = T.length
  at_ : ∀ p, g T' p = if k < p ∧ p ≤ m then g T (p - 1) else if p = k then g T m else g T p
theorem ShR.start (m : Nat) (T : List Tw) : ShR m m T T := ⟨rfl, fun p => by (repeat' split) <;> first | (exfalso; omega) | rfl | (congr 1)⟩
theorem ShR.step {m k : Nat} {T T' : List Tw} (h : ShR m (k + 1) T T') (hk : k + 1 ≤ m) (hl : m < T.length) : ShR m k T (sw T' (k + 1) k) := by
  have hl' := h.len
  refine ⟨(sw_len _ _ _).trans h.len, fun p => ?_⟩
  rw [sw_g (by omega) (by omega), h.at_, h.at_, h.at_]
  (repeat' split) <;> first | (exfalso; omega) | rfl | (congr 1; omega)
theorem ShR.seg {a m k : Nat} {T T' : List Tw} (h : ShR m k T T') (ha : a ≤ k) (hk : k ≤ m) : Seg a (m + 1) T T' where
  len := h.len
  out := fun p hp => by rw [h.at_, if_neg (by omega), if_neg (by omega)]
  fwd := fun p p1 p2 => by
    rw [h.at_]
    split
    · exact ⟨p - 1, by omega, by omega, rfl⟩
    · split
      · exact ⟨m, by omega, by omega, rfl⟩
      · exact ⟨p, p1, p2, rfl⟩
  bwd := fun p p1 p2 => by
    by_cases e : p = m
    · exact ⟨k, ha, by omega, by rw [h.at_, if_neg (by omega), if_pos rfl, e]⟩
    · by_cases e2 : k ≤ p
      · exact ⟨p + 1, by omega, by omega, by rw [h.at_, if_pos (by omega)]; congr 1⟩
      · exact ⟨p, p1, p2, by rw [h.at_, if_neg (by omega), if_neg (by omega)]⟩
theorem ShR.sorted {a i m : Nat} {T T' : List Tw} (h : Two a m (m + 1) T) (hs : ShR m i T T') (hi : a ≤ i) (him : i ≤ m) (hlo : ∀ q, a ≤ q → q < i → TL (g T q) (g T m)) (hhi : ∀ q, i ≤ q → q < m → TL (g T m) (g T q)) : Srt T' a (m + 1) := by
  intro p q h1 h2 h3
  rw [hs.at_, hs.at_]
  by_cases p1 : i < p ∧ p ≤ m
  · rw [if_pos p1, if_pos (by omega)]; exact h.fst _ _ (by omega) (by omega) (by omega)
  · rw [if_neg p1]
    by_cases p2 : p = i
    · rw [if_pos p2, if_pos (by omega)]; exact hhi _ (by omega) (by omega)
    · rw [if_neg p2]
      by_cases q1 : i < q ∧ q ≤ m
      · rw [if_pos q1]; exact (hlo _ h1 (by omega)).trans (hhi _ (by omega) (by omega))
      · rw [if_neg q1]
        by_cases q2 : q = i
        · rw [if_pos q2]; exact hlo _ h1 (by omega)
        · rw [if_neg q2]; exact h.fst _ _ h1 h2 (by omega)

/-! ### Two long runs -/
/-- Where the search begins and ends. -/
def lo (a m b : Nat) : Nat := if (a + b) / 2 < m then (a + b) / 2 + m - b else a
def hi (a m b : Nat) : Nat := if (a + b) / 2 < m then (a + b) / 2 else m
theorem lohi {a m b : Nat} (h1 : a ≤ m) (h2 : m ≤ b) : a ≤ lo a m b ∧ lo a m b ≤ hi a m b ∧ hi a m b ≤ m ∧ hi a m b ≤ (a + b) / 2 ∧ (a + b) / 2 + m ≤ b + lo a m b ∧ m + hi a m b ≤ (a + b) / 2 + m := by
  unfold lo hi
  split <;> omega
/-- What the search knows. -/
structure Sea (a m b st r : Nat) (T : List Tw) : Prop where
  le : st ≤ r
  lo_ : lo a m b ≤ st
  hi_ : r ≤ hi a m b
  below : ∀ c, lo a m b ≤ c → c < st → TL (g T c) (g T ((a + b) / 2 + m - 1 - c))
  above : ∀ c, r ≤ c → c < hi a m b → TL (g T ((a + b) / 2 + m - 1 - c)) (g T c)
theorem Sea.start {a m b : Nat} {T : List Tw} (h1 : a ≤ m) (h2 : m ≤ b) : Sea a m b (lo a m b) (hi a m b) T := ⟨(lohi h1 h2).2.1, Nat.le_refl _, Nat.le_refl _, fun c h1 h2 => by omega, fun c h1 h2 => by omega⟩
/-- The place that is compared lies in the second run. -/
theorem Sea.mid {a m b st r : Nat} {T : List Tw} (h : Sea a m b st r T) (h1 : a ≤ m) (h2 : m ≤ b) {c : Nat} (hc : st ≤ c) (hc2 : c < r) : a ≤ c ∧ c < m ∧ c + 1 ≤ (a + b) / 2 + m ∧ m ≤ (a + b) / 2 + m - 1 - c ∧ (a + b) / 2 + m - 1 - c < b := by
  have := lohi h1 h2
  have := h.lo_
  have := h.hi_
  omega
theorem Sea.right {a m b st r c : Nat} {T : List Tw} (h : Sea a m b st r T) (hT : Two a m b T) (h1 : a ≤ m) (h2 : m ≤ b) (hc : st ≤ c) (hc2 : c < r) (ht : TL (g T c) (g T ((a + b) / 2 + m - 1 - c))) : Sea a m b (c + 1) r T where
  le := hc2
  lo_ := by have := h.lo_; omega
  hi_ := h.hi_
  below := fun d d1 d2 => by
    obtain ⟨m1, m2, m3, m4, m5⟩ := h.mid h1 h2 hc hc2
    have := lohi h1 h2
    have := h.lo_
    have := h.hi_
    by_cases e : d = c
    · rw [e]; exact ht
    · exact (hT.fst d c (by omega) (by omega) m2).trans (hT.snd.ge (p := (a + b) / 2 + m - 1 - c) (by omega) (by omega) (by omega) ht)
  above := h.above
theorem Sea.left {a m b st r c : Nat} {T : List Tw} (h : Sea a m b st r T) (hT : Two a m b T) (h1 : a ≤ m) (h2 : m ≤ b) (hc : st ≤ c) (hc2 : c < r) (ht : TL (g T ((a + b) / 2 + m - 1 - c)) (g T c)) : Sea a m b st c T where
  le := hc
  lo_ := h.lo_
  hi_ := by have := h.hi_; omega
  below := h.below
  above := fun d d1 d2 => by
    obtain ⟨m1, m2, m3, m4, m5⟩ := h.mid h1 h2 hc hc2
    have := lohi h1 h2
    have := h.lo_
    have := h.hi_
    by_cases e : d = c
    · rw [e]; exact ht
    · exact hT.snd.le (p := (a + b) / 2 + m - 1 - d) (q := (a + b) / 2 + m - 1 - c) (by omega) (by omega) (by omega) (ht.trans (hT.fst c d (by omega) (by omega) (by omega)))
/-- At the search's end: how both runs are cut. -/
structure Cut (a m b s : Nat) (T : List Tw) : Prop where
  fa : a ≤ s
  sm : s ≤ m
  smid : s ≤ (a + b) / 2
  me : m + s ≤ (a + b) / 2 + m
  eb : (a + b) / 2 + m ≤ b + s
  f1 : ∀ u v, a ≤ u → u < s → (a + b) / 2 + m - s ≤ v → v < b → TL (g T u) (g T v)
  f2 : ∀ v u, m ≤ v → v < (a + b) / 2 + m - s → s ≤ u → u < m → TL (g T v) (g T u)
theorem Sea.cut {a m b s : Nat} {T : List Tw} (h : Sea a m b s s T) (hT : Two a m b T) (h1 : a ≤ m) (h2 : m ≤ b) : Cut a m b s T := by
  have hl := lohi h1 h2
  have q1 := h.lo_
  have q2 := h.hi_
  refine ⟨by omega, by omega, by omega, by omega, by omega, fun u v u1 u2 v1 v2 => ?_, fun v u v1 v2 u1 u2 => ?_⟩
  · by_cases e : lo a m b < s
    · have := h.below (s - 1) (by omega) (by omega)
      exact hT.fst.le (p := u) (q := s - 1) u1 (by omega) (by omega) (hT.snd.ge (p := (a + b) / 2 + m - 1 - (s - 1)) (by omega) (by omega) v2 this)
    · have e2 : s = lo a m b := by omega
      unfold lo at e2
      split at e2 <;> omega
  · by_cases e : s < hi a m b
    · have := h.above s (Nat.le_refl _) e
      exact hT.snd.le (p := v) (q := (a + b) / 2 + m - 1 - s) v1 (by omega) (by omega) (hT.fst.ge (p := s) (by omega) u1 u2 this)
    · have e2 : s = hi a m b := by omega
      unfold hi at e2
      split at e2 <;> omega
theorem Rot.none (s m e : Nat) (T : List Tw) (h : s = m ∨ m = e) (h2 : s ≤ m) (h3 : m ≤ e) : Rot s m e T T := ⟨rfl, fun p => by (repeat' split) <;> first | (exfalso; omega) | rfl | (congr 1; omega)⟩
/-- The two halves behind the rotation. -/
structure Halves (a m b s : Nat) (T1 : List Tw) : Prop where
  one : Two a s ((a + b) / 2) T1
  two : Two ((a + b) / 2) ((a + b) / 2 + m - s) b T1
  apart : ∀ p q, a ≤ p → p < (a + b) / 2 → (a + b) / 2 ≤ q → q < b → TL (g T1 p) (g T1 q)
theorem Cut.halves {a m b s : Nat} {T T1 : List Tw} (h : Cut a m b s T) (hT : Two a m b T) (hr : Rot s m ((a + b) / 2 + m - s) T T1) : Halves a m b s T1 := by
  obtain ⟨c1, c2, c3, c4, c5, f1, f2⟩ := h
  have g1 : ∀ p, a ≤ p → p < s → g T1 p = g T p := fun p p1 p2 => by rw [hr.at_, if_neg (by omega), if_neg (by omega)]
  have g2 : ∀ p, s ≤ p → p < (a + b) / 2 → g T1 p = g T (p - s + m) := fun p p1 p2 => by rw [hr.at_, if_pos (by omega)]
  have g3 : ∀ p, (a + b) / 2 ≤ p → p < (a + b) / 2 + m - s → g T1 p = g T (p - ((a + b) / 2 - s)) := fun p p1 p2 => by rw [hr.at_, if_neg (by omega), if_pos (by omega)]; congr 1; omega
  have g4 : ∀ p, (a + b) / 2 + m - s ≤ p → g T1 p = g T p := fun p p1 => by rw [hr.at_, if_neg (by omega), if_neg (by omega)]
  refine ⟨⟨?_, ?_, ?_⟩, ⟨?_, ?_, ?_⟩, ?_⟩
  · intro p q p1 pq q2
    rw [g1 p p1 (by omega), g1 q (by omega) q2]
    exact hT.fst p q p1 pq (by omega)
  · intro p q p1 pq q2
    rw [g2 p p1 (by omega), g2 q (by omega) q2]
    exact hT.snd _ _ (by omega) (by omega) (by omega)
  · intro p q p1 p2 q1 q2
    rw [g1 p p1 p2, g2 q q1 q2]
    exact hT.marks _ _ p1 (by omega) (by omega) (by omega)
  · intro p q p1 pq q2
    rw [g3 p p1 (by omega), g3 q (by omega) q2]
    exact hT.fst _ _ (by omega) (by omega) (by omega)
  · intro p q p1 pq q2
    rw [g4 p p1, g4 q (by omega)]
    exact hT.snd _ _ (by omega) pq q2
  · intro p q p1 p2 q1 q2
    rw [g3 p p1 p2, g4 q q1]
    exact hT.marks _ _ (by omega) (by omega) (by omega) q2
  · intro p q p1 p2 q1 q2
    by_cases e1 : p < s
    · rw [g1 p p1 e1]
      by_cases e2 : q < (a + b) / 2 + m - s
      · rw [g3 q q1 e2]; exact hT.fst _ _ p1 (by omega) (by omega)
      · rw [g4 q (by omega)]; exact f1 _ _ p1 e1 (by omega) q2
    · rw [g2 p (by omega) p2]
      by_cases e2 : q < (a + b) / 2 + m - s
      · rw [g3 q q1 e2]; exact f2 _ _ (by omega) (by omega) (by omega) (by omega)
      · rw [g4 q (by omega)]; exact hT.snd _ _ (by omega) (by omega) q2
theorem Two.fst_only {a m b : Nat} {T : List Tw} (h : Two a m b T) (e : b ≤ m ∨ m ≤ a) : Srt T a b := fun p q p1 pq q2 => by
  rcases e with e | e
  · exact h.fst p q p1 pq (by omega)
  · exact h.snd p q (by omega) pq q2
/-- Both halves sorted: all is. -/
theorem Halves.done {a m b s : Nat} {T1 T2 T3 : List Tw} (h : Halves a m b s T1) (h1 : Seg a ((a + b) / 2) T1 T2) (s1 : Srt T2 a ((a + b) / 2)) (h2 : Seg ((a + b) / 2) b T2 T3) (s2 : Srt T3 ((a + b) / 2) b) : Srt T3 a b := by
  refine Srt.glue (m := (a + b) / 2) (s1.far h2 (.inl (Nat.le_refl _))) s2 fun p q p1 p2 q1 q2 => ?_
  rw [h2.out p (.inl p2)]
  obtain ⟨p', pa, pb, pe⟩ := h1.fwd p p1 p2
  obtain ⟨q', qa, qb, qe⟩ := h2.fwd q q1 q2
  rw [pe, qe, h1.out q' (.inr qa)]
  exact h.apart p' q' pa pb qa qb
theorem Two.far {a b c m d : Nat} {T T' : List Tw} (h : Two c m d T) (hs : Seg a b T T') (hd : d ≤ a ∨ b ≤ c) (hm : c ≤ m) (hm2 : m ≤ d) : Two c m d T' :=
  ⟨h.fst.far hs (by omega), h.snd.far hs (by omega), fun p q p1 p2 q1 q2 => by rw [hs.out p (by omega), hs.out q (by omega)]; exact h.marks p q p1 p2 q1 q2⟩
end So

end Go.Proofs.Ytoaclofobfaflaa
namespace Go.Proofs.Ytoaclofobfaflaa
open Go.RowKit Fb

set_option maxRecDepth 100000 in
set_option maxHeartbeats 12800000 in
theorem insertion_any (wb : World) (b off cap : Nat) (T : List Tw) (w : World) (a e : Nat) (hR : RowIs wb b off T w) (_hcap : T.length ≤ cap) (hmax : T.length ≤ 4611686018427387904) (hae : a ≤ e) (he : e ≤ T.length) (hup : So.Up T a e) :
    Calls Try.prog 101 #[.slice (some ⟨b, off, none⟩) T.length cap, .int .i64 a, .int .i64 e, .func (.func 86) #[] #[]] w fun en w' => en = .returned (.tuple #[]) ∧ ∃ T', RowIs wb b off T' w' ∧ So.Seg a e T T' ∧ So.Srt T' a e := by
  have HR := Lib.hid hR
  have HUP := Lib.hid hup
  clear hR hup
  go_enter Try.func101, Try.ntmps101
  go_wp2_with fail
  go_loopw [8, 9] (fun s8 _ wr => ∃ (i : Nat) (Tk : List Tw), s8 = .int .i64 (i : Int) ∧ a + 1 ≤ i ∧ (i ≤ e ∨ i = a + 1) ∧ RowIs wb b off Tk wr ∧ So.Seg a (min i e) T Tk ∧ So.Srt Tk a (min i e)) (fun s8 _ _ => e + 1 - (intOf s8).toNat)
  case atStart => exact ⟨a + 1, T, by go_num, Nat.le_refl _, .inr rfl, HR.out, So.Seg.refl _ _ _, fun p q h1 h2 h3 => by omega⟩
  case round =>
    obtain ⟨i, Tk, rfl, hai, hie, hrow, hseg, hsrt⟩ := hrel
    by_cases hlt : i < e
    · rw [show min i e = i from by omega] at hseg hsrt
      have hins := So.Ins.start hsrt (fun p h1 h2 => by
        obtain ⟨q, q1, q2, eq⟩ := hseg.fwd p h1 h2
        rw [eq, hseg.out i (by omega)]
        exact HUP.out q i q1 q2 hlt)
      have HROW := Lib.hid hrow
      have HSEG := Lib.hid (hseg.mono (Nat.le_refl a) (show i ≤ i + 1 by omega))
      have HINS := Lib.hid hins
      clear hrow hseg hsrt hins
      have hz : (i : Int) < (e : Int) := by omega
      go_wp2_with fail
      go_loopw [9] (fun s9 wr => ∃ (j : Nat) (Tj : List Tw), s9 = .int .i64 (j : Int) ∧ a ≤ j ∧ j ≤ i ∧ RowIs wb b off Tj wr ∧ So.Seg a (i + 1) T Tj ∧ So.Ins a i j Tj) (fun s9 _ => (intOf s9).toNat)
      case atStart => exact ⟨i, Tk, rfl, by omega, Nat.le_refl _, HROW.out, HSEG.out, HINS.out⟩
      case round =>
        obtain ⟨j, Tj, rfl, haj, hji, hrow, hseg, hins⟩ := hrel
        have hlen := hseg.len
        have HS2 := Lib.hid hseg
        have HI2 := Lib.hid hins
        have HR2 := Lib.hid hrow
        clear hseg hins
        by_cases hja : a < j
        · obtain ⟨m, rfl⟩ : ∃ m, j = m + 1 := ⟨j - 1, by omega⟩
          have hless := HI2.out.less (by omega : a ≤ m)
          have HL := Lib.hid hless
          clear hless
          have hg0 : decide ((a : Int) < (m : Int) + 1) = true := decide_eq_true (by omega)
          have hg1 : (a : Int) < (m : Int) + 1 := by omega
          have n0 : (0 : Int) ≤ (m : Int) := by omega
          have n1 : (m : Int) < (T.length : Int) := by omega
          have n2 : (0 : Int) ≤ (m : Int) + 1 := by omega
          have n3 : (m : Int) + 1 < (T.length : Int) := by omega
          have t1 : ((m : Int) + 1).toNat = m + 1 := by omega
          obtain ⟨⟨e0, e1, e2, e3⟩, -⟩ := hrow.cells (i := m + 1) (by omega)
          obtain ⟨⟨d0, d1, d2, d3⟩, -⟩ := hrow.cells (i := m) (by omega)
          obtain ⟨x, hx⟩ : ∃ x, (So.g Tj (m + 1)).1 = x := ⟨_, rfl⟩
          obtain ⟨y, hy⟩ : ∃ y, (So.g Tj (m)).1 = y := ⟨_, rfl⟩
          rw [hx] at e0 e1 e2 e3
          rw [hy] at d0 d1 d2 d3
          obtain ⟨r, hr⟩ : ∃ r, So.cf x y = r := ⟨_, rfl⟩
          obtain ⟨x1, x2, x3, x4⟩ := x
          obtain ⟨y1, y2, y3, y4⟩ := y
          have k0 := fun dd os => cell_regrown e0 dd os
          have k1 := fun dd os => cell_regrown e1 dd os
          have k2 := fun dd os => cell_regrown e2 dd os
          have k3 := fun dd os => cell_regrown e3 dd os
          have m0 := fun dd os => cell_regrown d0 dd os
          have m1 := fun dd os => cell_regrown d1 dd os
          have m2 := fun dd os => cell_regrown d2 dd os
          have m3 := fun dd os => cell_regrown d3 dd os
          have cl : ∀ dd os, Calls Try.prog 86 #[.agg #[.int .i64 x1, .int .i64 x2, .int .i64 x3, .bool x4], .agg #[.int .i64 y1, .int .i64 y2, .int .i64 y3, .bool y4]] (Sort.grow (redrawn wr dd) os) fun e w'' => e = .returned (.int .i64 r) ∧ ∃ p : Regrown, w'' = Sort.grow (redrawn wr p.d) p.os := fun dd os => Calls.regrown_of (by have q := newest1_any (x1, x2, x3, x4) (y1, y2, y3, y4) (Sort.grow (redrawn wr dd) os); rw [hr] at q; exact q)
          have CL := Lib.hid cl
          have HCF := Lib.hid (show So.cf (So.g Tj (m + 1)).1 (So.g Tj (m)).1 = r from by rw [hx, hy]; exact hr)
          clear cl hr hx hy e0 e1 e2 e3 d0 d1 d2 d3
          clear hrow
          by_cases hneg : r < 0
          · have hd : decide (r < 0) = true := decide_eq_true hneg
            go_wp2_with fail
            refine wp_region_quiet_below (by kernel_rfl) (by kernel_rfl) ?_
            repeat (first | go_big_quiet_step (exact CL.out _ _) | quiet_step (exact CL.out _ _))
            refine wpQuiet_nil ?_
            intro _ hw'
            obtain ⟨⟨dq, osq⟩, hw''⟩ := hw'
            subst hw''
            have hbq := below_regrown wr dq osq
            clear k0 k1 k2 k3 m0 m1 m2 m3
            have hrow2 := HR2.out.later hbq
            obtain ⟨wq, hwq⟩ : ∃ wq, Sort.grow (redrawn wr dq) osq = wq := ⟨_, rfl⟩
            rw [hwq] at hrow2 ⊢
            have ht := HL.out.1 (by rw [HCF.out]; exact hneg)
            have HT := Lib.hid ht
            clear ht hwq hbq
            obtain ⟨⟨e0, e1, e2, e3⟩, f0, f1, f2, f3⟩ := hrow2.cells (i := m + 1) (by omega)
            obtain ⟨⟨d0, d1, d2, d3⟩, r0, r1, r2, r3⟩ := hrow2.cells (i := m) (by omega)
            obtain ⟨x, hx⟩ : ∃ x, (So.g Tj (m + 1)).1 = x := ⟨_, rfl⟩
            obtain ⟨y, hy⟩ : ∃ y, (So.g Tj (m)).1 = y := ⟨_, rfl⟩
            rw [hx] at e0 e1 e2 e3
            rw [hy] at d0 d1 d2 d3
            have hsw := (hrow2.swap (i := m + 1) (j := m) (by omega) (by omega) hy hx).drew
            obtain ⟨⟨o0, o1, o2, o3⟩, -⟩ := (hrow2.put (i := m + 1) (by omega) (y, 0)).cells (i := m) (by rw [List.length_set]; omega)
            generalize So.g (Tj.set (m + 1) (y, 0)) (m) = z at o0 o1 o2 o3
            obtain ⟨x1, x2, x3, x4⟩ := x
            obtain ⟨y1, y2, y3, y4⟩ := y
            have HSW := Lib.hid hsw
            have mixed : Try.prog.follows .mixedOrders = true := by kernel_rfl
            clear hsw hx hy
            clear hrow2
            go_wp2_with fail
            go_big_region_o
            all_goals go_wp2_with fail
            go_roundw
            case rel => exact ⟨m, So.sw Tj (m + 1) m, by go_num, by omega, by omega, HSW.out, HS2.out.trans (So.Seg.swap (by omega) (by omega) (by omega) (by omega) (by omega)), HI2.out.step (by omega) (by omega) (by omega) HT.out⟩
            case measure => simp [intOf]
          · have hd : decide (r < 0) = false := decide_eq_false hneg
            go_wp2_with fail
            refine wp_region_quiet_below (by kernel_rfl) (by kernel_rfl) ?_
            repeat (first | go_big_quiet_step (exact CL.out _ _) | quiet_step (exact CL.out _ _))
            refine wpQuiet_nil ?_
            intro _ hw'
            obtain ⟨⟨dq, osq⟩, hw''⟩ := hw'
            subst hw''
            have hbq := below_regrown wr dq osq
            clear k0 k1 k2 k3 m0 m1 m2 m3
            have hrow2 := HR2.out.later hbq
            have ht := HL.out.2 (by rw [HCF.out]; exact hneg)
            have HQ := Lib.hid (show So.Seg a (min (i + 1) e) T Tj ∧ So.Srt Tj a (min (i + 1) e) from by rw [show min (i + 1) e = i + 1 from by omega]; exact ⟨HS2.out, HI2.out.stop (by omega) (by omega) (.inr ht)⟩)
            have HR3 := Lib.hid hrow2
            clear hrow2 ht
            go_wp2_with fail
            go_roundw
            case rel => exact ⟨i + 1, Tj, by go_num, by omega, .inl (by omega), HR3.out, HQ.out.1, HQ.out.2⟩
            case measure => simp [intOf]; omega
        · have hja2 : j = a := by omega
          subst hja2
          have hg0 : decide ((j : Int) < (j : Int)) = false := decide_eq_false (by omega)
          have HQ := Lib.hid (show So.Seg j (min (i + 1) e) T Tj ∧ So.Srt Tj j (min (i + 1) e) from by rw [show min (i + 1) e = i + 1 from by omega]; exact ⟨HS2.out, HI2.out.stop (by omega) (by omega) (.inl rfl)⟩)
          clear hrow
          go_wp2_with fail
          refine wp_region_quiet_below (by kernel_rfl) (by kernel_rfl) ?_
          repeat (first | go_big_quiet_step (fail) | quiet_step (fail))
          refine wpQuiet_nil ?_
          intro _ hw'
          obtain ⟨⟨dq, osq⟩, hw''⟩ := hw'
          subst hw''
          have HR3 := Lib.hid (HR2.out.later (below_regrown wr dq osq))
          go_wp2_with fail
          go_roundw
          case rel => exact ⟨i + 1, Tj, by go_num, by omega, .inl (by omega), HR3.out, HQ.out.1, HQ.out.2⟩
          case measure => simp [intOf]; omega
    · rw [show min i e = e from by omega] at hseg hsrt
      have HROW := Lib.hid hrow
      have HSEG := Lib.hid hseg
      have HSRT := Lib.hid hsrt
      clear hrow hseg hsrt
      have hz : ¬ (i : Int) < (e : Int) := by omega
      go_wp2
      go_end0
      exact ⟨rfl, Tk, HROW.out, HSEG.out, HSRT.out⟩

end Go.Proofs.Ytoaclofobfaflaa
