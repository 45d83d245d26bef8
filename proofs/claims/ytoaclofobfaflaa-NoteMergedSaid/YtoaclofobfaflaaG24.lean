/-
  slices.symMergeCmpFunc merges two sorted runs of marked writes, however long.
  slices.SortStableFunc sorts a row of marked writes, and keeps equals in their order.
  What slices.Grow answers of no slice at writes, and slices.Concat of two lists of writes.
  slices.CompactFunc keeps of writes that stand in a row, of one object, the first one.
-/
import Derived.Test.YtoaclofobfaflaaG23
import Derived.Test.YtoaclofobfaflaaG20
import Derived.Lib.AppendZerosOnto
import Derived.Lib.Walk
import Derived.Test.YtoaclofobfaflaaG21
import Derived.Lib.QuietBelow
namespace Go.Proofs.Ytoaclofobfaflaa
open Go.RowKit Fb

theorem symMerge_less (wb : World) (b off cap : Nat) : ∀ n, SymLess wb b off cap n
  | 0 => fun _ _ _ _ _ h => absurd h (Nat.not_lt_zero _)
  | n + 1 => by
    have ih := symMerge_less wb b off cap n
    intro T w a m e hn hR hcap hmax ham hme he hT
    have IH : SymLess wb b off cap (e - a) := fun T w a' m' e' h => ih T w a' m' e' (by omega)
    by_cases h1 : m = a + 1
    · exact symOne_any wb b off cap T w a m e hR hcap (by omega) h1 hme he hT
    · by_cases h2 : e = m + 1
      · exact symOneR_any wb b off cap T w a m e hR hcap (by omega) h2 (by omega) he hT
      · by_cases h3 : (a + e) / 2 < m
        · exact symLongA_any wb b off cap T w a m e IH hR hcap hmax (by omega) (by omega) he hT h3
        · exact symLongB_any wb b off cap T w a m e IH hR hcap hmax (by omega) (by omega) he hT (by omega)
theorem symMerge_any (wb : World) (b off cap : Nat) (T : List Tw) (w : World) (a m e : Nat) (hR : RowIs wb b off T w) (hcap : T.length ≤ cap) (hmax : T.length ≤ 2305843009213693951) (ham : a < m) (hme : m < e) (he : e ≤ T.length) (hT : So.Two a m e T) :
    Calls Try.prog 102 #[.slice (some ⟨b, off, none⟩) T.length cap, .int .i64 a, .int .i64 m, .int .i64 e, .func (.func 86) #[] #[]] w fun en w' => en = .returned (.tuple #[]) ∧ ∃ T', RowIs wb b off T' w' ∧ So.Seg a e T T' ∧ So.Srt T' a e :=
  symMerge_less wb b off cap (e - a + 1) T w a m e (by omega) hR hcap hmax ham hme he hT

namespace So
/-- Blocks of s elements: each sorted; the marks of each below those of the later ones. -/
structure Bls (s : Nat) (T : List Tw) : Prop where
  srt : ∀ i j, i < j → j < T.length → i / s = j / s → TL (g T i) (g T j)
  marks : ∀ i j, i < j → j < T.length → i / s < j / s → (g T i).2 < (g T j).2
/-- The first a elements stand in blocks of 2 s, the others in blocks of s. -/
structure Mix (s a : Nat) (T : List Tw) : Prop where
  new : ∀ i j, i < j → j < a → j < T.length → i / (2 * s) = j / (2 * s) → TL (g T i) (g T j)
  old : ∀ i j, a ≤ i → i < j → j < T.length → i / s = j / s → TL (g T i) (g T j)
  marks : ∀ i j, i < j → j < T.length → (if j < a then i / (2 * s) < j / (2 * s) else i / s < j / s) → (g T i).2 < (g T j).2
/-- The first a elements stand in blocks of s, each sorted, the others as they stood at first. -/
structure Beg (s a : Nat) (T : List Tw) : Prop where
  srt : ∀ i j, i < j → j < a → j < T.length → i / s = j / s → TL (g T i) (g T j)
  marks : ∀ i j, i < j → j < T.length → (j < a → i / s < j / s) → (g T i).2 < (g T j).2
theorem Beg.start {s : Nat} {T : List Tw} (h : Up T 0 T.length) : Beg s 0 T := ⟨fun i j _ h2 => by omega, fun i j h1 h2 _ => h i j (Nat.zero_le _) h1 h2⟩
theorem blk_of {k s i : Nat} (hs : 0 < s) : (k * s ≤ i ∧ i < k * s + s) ↔ i / s = k := by
  constructor
  · rintro ⟨h1, h2⟩
    exact Nat.div_eq_of_lt_le h1 (by rw [Nat.add_mul, Nat.one_mul]; exact h2)
  · rintro rfl
    have a := Nat.div_mul_le_self i s
    have b := Nat.lt_mul_div_succ i hs
    rw [Nat.mul_add, Nat.mul_one, Nat.mul_comm] at b
    exact ⟨a, b⟩
theorem div_lt_iff {k s i : Nat} (hs : 0 < s) : i / s < k ↔ i < k * s := Nat.div_lt_iff_lt_mul hs
theorem le_div_iff {k s i : Nat} (hs : 0 < s) : k ≤ i / s ↔ k * s ≤ i := Nat.le_div_iff_mul_le hs
/-- A block more is sorted. -/
theorem Beg.step {s k e : Nat} {T T' : List Tw} (hs : 0 < s) (h : Beg s (k * s) T) (hes : e ≤ k * s + s) (hel : e ≤ T.length) (heq : e = k * s + s ∨ e = T.length) (hg : Seg (k * s) e T T') (hsr : Srt T' (k * s) e) : Beg s (k * s + s) T' where
  srt := fun i j ij jb jl hd => by
    have hl := hg.len
    by_cases c : j < k * s
    · rw [hg.out i (.inl (by omega)), hg.out j (.inl c)]
      exact h.srt i j ij c (by omega) hd
    · have hj : j / s = k := (blk_of hs).1 ⟨by omega, jb⟩
      have hi := (blk_of hs).2 (hd.trans hj)
      exact hsr i j hi.1 ij (by omega)
  marks := fun i j ij jl hd => by
    have hl := hg.len
    -- where j came from
    have hj : ∃ j', g T' j = g T j' ∧ ((j' = j ∧ (j < k * s ∨ e ≤ j)) ∨ (k * s ≤ j' ∧ j' < e ∧ k * s ≤ j ∧ j < e)) := by
      by_cases c : k * s ≤ j ∧ j < e
      · obtain ⟨q, q1, q2, q3⟩ := hg.fwd j c.1 c.2
        exact ⟨q, q3, .inr ⟨q1, q2, c.1, c.2⟩⟩
      · exact ⟨j, hg.out j (by omega), .inl ⟨rfl, by omega⟩⟩
    have hi : ∃ i', g T' i = g T i' ∧ ((i' = i ∧ (i < k * s ∨ e ≤ i)) ∨ (k * s ≤ i' ∧ i' < e ∧ k * s ≤ i ∧ i < e)) := by
      by_cases c : k * s ≤ i ∧ i < e
      · obtain ⟨q, q1, q2, q3⟩ := hg.fwd i c.1 c.2
        exact ⟨q, q3, .inr ⟨q1, q2, c.1, c.2⟩⟩
      · exact ⟨i, hg.out i (by omega), .inl ⟨rfl, by omega⟩⟩
    obtain ⟨j', ej, cj⟩ := hj
    obtain ⟨i', ei, ci⟩ := hi
    rw [ei, ej]
    rcases cj with ⟨rfl, cj⟩ | ⟨j1, j2, j3, j4⟩
    · rcases ci with ⟨rfl, ci⟩ | ⟨i1, i2, i3, i4⟩
      · refine h.marks i' j' ij (by omega) fun hb => ?_
        exact hd (by omega)
      · refine h.marks i' j' (by omega) (by omega) fun hb => by omega
    · have hjs : j / s = k := (blk_of hs).1 ⟨j3, by omega⟩
      have hlt := hd (by omega)
      rw [hjs, div_lt_iff hs] at hlt
      rcases ci with ⟨rfl, ci⟩ | ⟨i1, i2, i3, i4⟩
      · exact h.marks i' j' (by omega) (by omega) fun hb => by omega
      · omega
theorem Beg.done {s a : Nat} {T : List Tw} (h : Beg s a T) (ha : T.length ≤ a) : Bls s T := ⟨fun i j h1 h2 h3 => h.srt i j h1 (by omega) h2 h3, fun i j h1 h2 h3 => h.marks i j h1 h2 (fun _ => h3)⟩
theorem half (s i : Nat) : i / (2 * s) = i / s / 2 := by rw [Nat.mul_comm, Nat.div_div_eq_div_mul]
theorem Bls.mix {s : Nat} {T : List Tw} (h : Bls s T) : Mix s 0 T := ⟨fun i j _ h2 => by omega, fun i j _ h2 h3 h4 => h.srt i j h2 h3 h4, fun i j h1 h2 h3 => by rw [if_neg (by omega)] at h3; exact h.marks i j h1 h2 h3⟩
/-- Two blocks at a that are merged next. -/
theorem Mix.two {s k e : Nat} {T : List Tw} (hs : 0 < s) (h : Mix s (k * (2 * s)) T) (hm : k * (2 * s) + s < e) (he : e ≤ k * (2 * s) + 2 * s) (hel : e ≤ T.length) : Two (k * (2 * s)) (k * (2 * s) + s) e T := by
  have e1 : k * (2 * s) = 2 * k * s := by rw [Nat.mul_left_comm, Nat.mul_assoc]
  have e2 : (2 * k + 1) * s = 2 * k * s + s := by rw [Nat.add_mul, Nat.one_mul]
  refine ⟨fun p q p1 pq q2 => h.old p q p1 pq (by omega) ?_, fun p q p1 pq q2 => h.old p q (by omega) pq (by omega) ?_, fun p q p1 p2 q1 q2 => h.marks p q (by omega) (by omega) ?_⟩
  · rw [(blk_of hs (k := 2 * k)).1 (by omega), (blk_of hs (k := 2 * k)).1 (by omega)]
  · rw [(blk_of hs (k := 2 * k + 1)).1 (by omega), (blk_of hs (k := 2 * k + 1)).1 (by omega)]
  · rw [if_neg (by omega), (blk_of hs (k := 2 * k)).1 (by omega), (blk_of hs (k := 2 * k + 1)).1 (by omega)]
    omega
/-- Two blocks more are merged. -/
theorem Mix.step {s k e : Nat} {T T' : List Tw} (hs : 0 < s) (h : Mix s (k * (2 * s)) T) (hes : e ≤ k * (2 * s) + 2 * s) (hel : e ≤ T.length) (heq : e = k * (2 * s) + 2 * s ∨ e = T.length) (hg : Seg (k * (2 * s)) e T T') (hsr : Srt T' (k * (2 * s)) e) : Mix s (k * (2 * s) + 2 * s) T' := by
  have hs2 : 0 < 2 * s := by omega
  have hl := hg.len
  obtain ⟨a, ha⟩ : ∃ a, k * (2 * s) = a := ⟨_, rfl⟩
  have hk : ∀ i, (a ≤ i ∧ i < a + 2 * s) ↔ i / (2 * s) = k := fun i => by rw [← ha]; exact blk_of hs2
  have hlt : ∀ i, i / (2 * s) < k ↔ i < a := fun i => by rw [← ha]; exact div_lt_iff hs2
  rw [ha] at h hes heq hg hsr ⊢
  have src : ∀ i, i < T.length → ∃ i', g T' i = g T i' ∧ ((i' = i ∧ (i < a ∨ e ≤ i)) ∨ (a ≤ i' ∧ i' < e ∧ a ≤ i ∧ i < e)) := fun i _ => by
    by_cases c : a ≤ i ∧ i < e
    · obtain ⟨q, q1, q2, q3⟩ := hg.fwd i c.1 c.2
      exact ⟨q, q3, .inr ⟨q1, q2, c.1, c.2⟩⟩
    · exact ⟨i, hg.out i (by omega), .inl ⟨rfl, by omega⟩⟩
  refine ⟨fun i j ij jb jl hd => ?_, fun i j ia ij jl hd => ?_, fun i j ij jl hd => ?_⟩
  · by_cases c : j < a
    · rw [hg.out i (.inl (by omega)), hg.out j (.inl c)]
      exact h.new i j ij c (by omega) hd
    · have hj : j / (2 * s) = k := (hk j).1 ⟨by omega, jb⟩
      have hi := (hk i).2 (hd.trans hj)
      exact hsr i j hi.1 ij (by omega)
  · rw [hg.out i (.inr (by omega)), hg.out j (.inr (by omega))]
    exact h.old i j (by omega) ij (by omega) hd
  · obtain ⟨j', ej, cj⟩ := src j (by omega)
    obtain ⟨i', ei, ci⟩ := src i (by omega)
    rw [ei, ej]
    rcases cj with ⟨rfl, cj⟩ | ⟨j1, j2, j3, j4⟩
    · rcases ci with ⟨rfl, ci⟩ | ⟨i1, i2, i3, i4⟩
      · refine h.marks i' j' ij (by omega) ?_
        by_cases c : j' < a
        · rw [if_pos (by omega)] at hd
          rw [if_pos c]; exact hd
        · rw [if_neg (by omega)] at hd
          rw [if_neg c]; exact hd
      · refine h.marks i' j' (by omega) (by omega) ?_
        rw [if_neg (by omega)] at hd ⊢
        have hi2 : i' / (2 * s) = k := (hk i').1 ⟨i1, by omega⟩
        have hj2 : k < j' / (2 * s) := by
          have h1 := not_congr (hlt j')
          have h2 := not_congr (hk j')
          omega
        rw [half] at hi2 hj2
        omega
    · rw [if_pos (by omega)] at hd
      have hj2 : j / (2 * s) = k := (hk j).1 ⟨j3, by omega⟩
      rw [hj2, hlt] at hd
      rcases ci with ⟨rfl, ci⟩ | ⟨i1, i2, i3, i4⟩
      · refine h.marks i' j' (by omega) (by omega) ?_
        rw [if_neg (by omega)]
        have hi2 : i' / (2 * s) < k := (hlt i').2 hd
        have hj3 : j' / (2 * s) = k := (hk j').1 ⟨j1, by omega⟩
        rw [half] at hi2 hj3
        omega
      · omega
/-- What is left behind the last two blocks is one block at most. -/
theorem Mix.rest {s k : Nat} {T : List Tw} (hs : 0 < s) (h : Mix s (k * (2 * s)) T) (hr : T.length ≤ k * (2 * s) + s) : Bls (2 * s) T := by
  have hs2 : 0 < 2 * s := by omega
  obtain ⟨a, ha⟩ : ∃ a, k * (2 * s) = a := ⟨_, rfl⟩
  have hk : ∀ i, (a ≤ i ∧ i < a + 2 * s) ↔ i / (2 * s) = k := fun i => by rw [← ha]; exact blk_of hs2
  have hlt : ∀ i, i / (2 * s) < k ↔ i < a := fun i => by rw [← ha]; exact div_lt_iff hs2
  have e1 : a = 2 * k * s := by rw [← ha, Nat.mul_left_comm, Nat.mul_assoc]
  rw [ha] at h hr
  refine ⟨fun i j ij jl hd => ?_, fun i j ij jl hd => ?_⟩
  · by_cases c : j < a
    · exact h.new i j ij c jl hd
    · have hj : j / (2 * s) = k := (hk j).1 ⟨by omega, by omega⟩
      have hi := (hk i).2 (hd.trans hj)
      exact h.old i j hi.1 ij jl (by rw [(blk_of hs (k := 2 * k)).1 (by omega), (blk_of hs (k := 2 * k)).1 (by omega)])
  · refine h.marks i j ij jl ?_
    by_cases c : j < a
    · rw [if_pos c]; exact hd
    · rw [if_neg c]
      have hj : j / (2 * s) = k := (hk j).1 ⟨by omega, by omega⟩
      rw [hj, hlt] at hd
      have : i / (2 * s) < k := (hlt i).2 hd
      rw [half] at hj this
      omega
theorem Mix.whole {s k : Nat} {T : List Tw} (hs : 0 < s) (h : Mix s (k * (2 * s)) T) (hr : T.length ≤ k * (2 * s)) : Bls (2 * s) T := h.rest hs (by omega)
theorem Bls.sorted {s : Nat} {T : List Tw} (h : Bls s T) (hs : T.length ≤ s) : Srt T 0 T.length := fun i j _ h2 h3 => h.srt i j h2 h3 (by rw [Nat.div_eq_of_lt (by omega), Nat.div_eq_of_lt (by omega)])
end So

end Go.Proofs.Ytoaclofobfaflaa
namespace Go.Proofs.Ytoaclofobfaflaa
open Go.RowKit Fb

set_option maxRecDepth 100000 in
set_option maxHeartbeats 25600000 in
theorem stable_any (wb : World) (b off cap : Nat) (T : List Tw) (w : World) (hR : RowIs wb b off T w) (hcap : T.length ≤ cap) (hmax : T.length ≤ 2305843009213693951) (hup : So.Up T 0 T.length) :
    Calls Try.prog 98 #[.slice (some ⟨b, off, none⟩) T.length cap, .int .i64 T.length, .func (.func 86) #[] #[]] w fun en w' => en = .returned (.tuple #[]) ∧ ∃ T', RowIs wb b off T' w' ∧ So.Seg 0 T.length T T' ∧ So.Srt T' 0 T.length := by
  obtain ⟨n, hn⟩ : ∃ n, T.length = n := ⟨_, rfl⟩
  have HR := Lib.hid hR
  have HBEG := Lib.hid (So.Beg.start (s := 20) hup)
  have HUP := Lib.hid hup
  rw [hn] at hcap hmax ⊢
  have HN := Lib.hid hn
  clear hR hup hn
  go_enter Try.func98, Try.ntmps98
  go_wp2_with fail
  go_loopw [7, 8] (fun s7 s8 wr => ∃ (k a e : Nat) (Tk : List Tw), s7 = .int .i64 (a : Int) ∧ s8 = .int .i64 (e : Int) ∧ a = k * 20 ∧ e = a + 20 ∧ a ≤ n ∧ RowIs wb b off Tk wr ∧ So.Beg 20 (k * 20) Tk ∧ So.Seg 0 n T Tk) (fun s7 _ _ => n - (intOf s7).toNat)
  case atStart => exact ⟨0, 0, 20, T, rfl, rfl, rfl, rfl, Nat.zero_le _, HR.out, HBEG.out, So.Seg.refl _ _ _⟩
  case round =>
    obtain ⟨k, a, e, Tk, rfl, rfl, hak, hea, han, hrow, hbeg, hseg⟩ := hrel
    have hlen : Tk.length = n := hseg.len.trans HN.out
    have hlen1 : Tk.length ≤ n := by omega
    have hlen2 : n ≤ Tk.length := by omega
    have hea1 : e ≤ a + 20 := by omega
    have hea2 : a + 20 ≤ e := by omega
    have HAK := Lib.hid hak
    have HBG := Lib.hid hbeg
    have HSG := Lib.hid hseg
    have HL := Lib.hid hlen
    have hupk : So.Up Tk a n := fun i j h1 h2 h3 => hbeg.marks i j h2 (by omega) (fun h => by omega)
    have HUK := Lib.hid hupk
    by_cases hlt : e ≤ n
    · have hz : (e : Int) ≤ (n : Int) := by omega
      obtain ⟨e', he'⟩ : ∃ e', e + 20 = e' := ⟨_, rfl⟩
      have z1 : (e : Int) + 20 = (e' : Int) := by omega
      have N := insertion_any wb b off cap Tk wr a e hrow (by omega) (by omega) (by omega) (by omega) (fun i j h1 h2 h3 => hupk i j h1 h2 (by omega))
      rw [hlen] at N
      have NN := Lib.hid N
      have HE := Lib.hid he'
      clear N hrow hbeg hseg hlen hak hea hupk he'
      go_wp2_with fail
      refine NN.out.mono ?_
      rintro en w1 ⟨rfl, T', hr1, hs1, hsr1⟩
      have HQ := Lib.hid (show So.Beg 20 ((k + 1) * 20) T' from by
        have := HBG.out.step (k := k) (e := e) (by omega) (by have := HAK.out; omega) (by omega) (.inl (by have := HAK.out; omega)) (by rw [← HAK.out]; exact hs1) (by rw [← HAK.out]; exact hsr1)
        rw [Nat.add_mul, Nat.one_mul]; exact this)
      have HS := Lib.hid (HSG.out.trans (hs1.mono (Nat.zero_le _) hlt))
      have HR1 := Lib.hid hr1
      clear hr1 hs1 hsr1
      go_wp2_with fail
      go_roundw
      case rel => exact ⟨k + 1, e, e', T', rfl, rfl, by have := HAK.out; omega, by have := HE.out; omega, hlt, HR1.out, HQ.out, HS.out⟩
      case measure => simp [intOf]; omega
    · have hz : ¬ (e : Int) ≤ (n : Int) := by omega
      have N := insertion_any wb b off cap Tk wr a n hrow (by omega) (by omega) han (by omega) hupk
      rw [hlen] at N
      have NN := Lib.hid N
      clear N hrow hbeg hseg hlen hak hea hupk
      go_wp2_with fail
      refine NN.out.mono ?_
      rintro en w1 ⟨rfl, T', hr1, hs1, hsr1⟩
      have HQ := Lib.hid (show So.Bls 20 T' from by
        have h0 := HBG.out.step (k := k) (e := n) (by omega) (by have := HAK.out; omega) (by omega) (.inr HL.out.symm) (by rw [← HAK.out]; exact hs1) (by rw [← HAK.out]; exact hsr1)
        exact h0.done (by have := hs1.len; have := HL.out; have := HAK.out; omega))
      have HS := Lib.hid (HSG.out.trans (hs1.mono (Nat.zero_le _) (Nat.le_refl _)))
      have HR1 := Lib.hid hr1
      clear hr1 hs1 hsr1 HAK HBG HSG HL HUK NN hz hlt hea1 hea2 hlen1 hlen2 han
      go_wp2_with fail
      go_loopw [6, 7, 8, 9] (fun s6 _ _ _ wr => ∃ (s : Nat) (Ts : List Tw), s6 = .int .i64 (s : Int) ∧ 20 ≤ s ∧ RowIs wb b off Ts wr ∧ So.Bls s Ts ∧ So.Seg 0 n T Ts) (fun s6 _ _ _ _ => n - (intOf s6).toNat)
      case atStart => exact ⟨20, T', rfl, Nat.le_refl _, HR1.out, HQ.out, HS.out⟩
      case round =>
        obtain ⟨s, Ts, rfl, hs20, hrow, hbls, hseg⟩ := hrel
        have HBL := Lib.hid hbls
        have HSG := Lib.hid hseg
        have HRW := Lib.hid hrow
        have hlen : Ts.length = n := hseg.len.trans HN.out
        have HL := Lib.hid hlen
        by_cases hlt : s < n
        · have hz : (s : Int) < (n : Int) := by omega
          obtain ⟨s2, hs2⟩ : ∃ s2, 2 * s = s2 := ⟨_, rfl⟩
          have z1 : 2 * (s : Int) = (s2 : Int) := by omega
          have z2 : (s : Int) * 2 = (s2 : Int) := by omega
          have y1 : s2 ≤ 2 * s := by omega
          have y2 : 2 * s ≤ s2 := by omega
          have HS2 := Lib.hid hs2
          clear hrow hbls hseg hlen hs2
          go_wp2_with fail
          go_loopw [7, 8] (fun s7 s8 wr => ∃ (k a e : Nat) (Tk : List Tw), s7 = .int .i64 (a : Int) ∧ s8 = .int .i64 (e : Int) ∧ a = k * (2 * s) ∧ e = a + s2 ∧ a ≤ n ∧ RowIs wb b off Tk wr ∧ So.Mix s (k * (2 * s)) Tk ∧ So.Seg 0 n T Tk) (fun s7 _ _ => n - (intOf s7).toNat)
          case atStart => exact ⟨0, 0, s2, Ts, rfl, rfl, by rw [Nat.zero_mul], by omega, Nat.zero_le _, HRW.out, by rw [Nat.zero_mul]; exact HBL.out.mix, HSG.out⟩
          case round =>
            obtain ⟨k, a, e, Tk, rfl, rfl, hak, hea, han, hrow, hmix, hseg⟩ := hrel
            have hlen : Tk.length = n := hseg.len.trans HN.out
            have hlen1 : Tk.length ≤ n := by omega
            have hlen2 : n ≤ Tk.length := by omega
            have hea1 : e ≤ a + s2 := by omega
            have hea2 : a + s2 ≤ e := by omega
            have HAK := Lib.hid hak
            have HMX := Lib.hid hmix
            have HSG2 := Lib.hid hseg
            have HL2 := Lib.hid hlen
            have HRW2 := Lib.hid hrow
            obtain ⟨m, hm⟩ : ∃ m, a + s = m := ⟨_, rfl⟩
            have z3 : (a : Int) + (s : Int) = (m : Int) := by omega
            have m1 : m ≤ a + s := by omega
            have m2 : a + s ≤ m := by omega
            have HM := Lib.hid hm
            by_cases hlt2 : e ≤ n
            · have hz2 : (e : Int) ≤ (n : Int) := by omega
              obtain ⟨e', he'⟩ : ∃ e', e + s2 = e' := ⟨_, rfl⟩
              have z4 : (e : Int) + (s2 : Int) = (e' : Int) := by omega
              have htwo := hmix.two (k := k) (e := e) (by omega) (by rw [← hak]; omega) (by rw [← hak]; omega) (by omega)
              rw [← hak, hm] at htwo
              have N := symMerge_any wb b off cap Tk wr a m e hrow (by omega) (by omega) (by omega) (by omega) (by omega) htwo
              rw [hlen] at N
              have NN := Lib.hid N
              have HE := Lib.hid he'
              clear N hrow hmix hseg hlen hak hea he' hm htwo
              go_wp2_with fail
              refine NN.out.mono ?_
              rintro en w2 ⟨rfl, T2, hr2, hs2, hsr2⟩
              have HQ2 := Lib.hid (show So.Mix s ((k + 1) * (2 * s)) T2 from by
                have := HMX.out.step (k := k) (e := e) (by omega) (by rw [← HAK.out]; omega) (by omega) (.inl (by rw [← HAK.out]; omega)) (by rw [← HAK.out]; exact hs2) (by rw [← HAK.out]; exact hsr2)
                rw [Nat.add_mul, Nat.one_mul]; exact this)
              have HS3 := Lib.hid (HSG2.out.trans (hs2.mono (Nat.zero_le _) hlt2))
              have HR2 := Lib.hid hr2
              clear hr2 hs2 hsr2
              go_wp2_with fail
              go_roundw
              case rel => exact ⟨k + 1, e, e', T2, rfl, rfl, by rw [Nat.add_mul, Nat.one_mul, ← HAK.out]; omega, HE.out.symm, hlt2, HR2.out, HQ2.out, HS3.out⟩
              case measure => simp [intOf]; omega
            · have hz2 : ¬ (e : Int) ≤ (n : Int) := by omega
              by_cases hlt3 : m < n
              · have hz3 : (m : Int) < (n : Int) := by omega
                have htwo := hmix.two (k := k) (e := n) (by omega) (by rw [← hak]; omega) (by rw [← hak]; omega) (by omega)
                rw [← hak, hm] at htwo
                have N := symMerge_any wb b off cap Tk wr a m n hrow (by omega) (by omega) (by omega) (by omega) (by omega) htwo
                rw [hlen] at N
                have NN := Lib.hid N
                clear N hrow hmix hseg hlen hak hea hm htwo
                go_wp2_with fail
                refine NN.out.mono ?_
                rintro en w2 ⟨rfl, T2, hr2, hs2, hsr2⟩
                have HQ2 := Lib.hid (show So.Bls s2 T2 from by
                  have h0 := HMX.out.step (k := k) (e := n) (by omega) (by rw [← HAK.out]; omega) (by omega) (.inr HL2.out.symm) (by rw [← HAK.out]; exact hs2) (by rw [← HAK.out]; exact hsr2)
                  have h1 := (show So.Mix s ((k + 1) * (2 * s)) T2 from by rw [Nat.add_mul, Nat.one_mul]; exact h0).whole (by omega) (by rw [Nat.add_mul, Nat.one_mul, ← HAK.out]; have := hs2.len; have := HL2.out; omega)
                  rw [HS2.out] at h1; exact h1)
                have HS3 := Lib.hid (HSG2.out.trans (hs2.mono (Nat.zero_le _) (Nat.le_refl _)))
                have HR2 := Lib.hid hr2
                clear hr2 hs2 hsr2
                go_wp2_with fail
                go_roundw
                case rel => exact ⟨s2, T2, rfl, by omega, HR2.out, HQ2.out, HS3.out⟩
                case measure => simp [intOf]; omega
              · have hz3 : ¬ (m : Int) < (n : Int) := by omega
                have HQ2 := Lib.hid (show So.Bls s2 Tk from by
                  have h1 := hmix.rest (k := k) (by omega) (by rw [← hak]; omega)
                  rw [HS2.out] at h1; exact h1)
                clear hrow hmix hseg hlen hak hea hm
                go_wp2_with fail
                go_roundw
                case rel => exact ⟨s2, Tk, rfl, by omega, HRW2.out, HQ2.out, HSG2.out⟩
                case measure => simp [intOf]; omega
        · have hz : ¬ (s : Int) < (n : Int) := by omega
          have HF := Lib.hid (show So.Srt Ts 0 n from by have := hbls.sorted (by omega); rw [hlen] at this; exact this)
          clear hrow hbls hseg hlen
          go_wp2
          go_end0
          exact ⟨rfl, Ts, HRW.out, HSG.out, HF.out⟩

set_option maxHeartbeats 800000 in
theorem sortStable_any (wb : World) (b off cap : Nat) (T : List Tw) (w : World) (hR : RowIs wb b off T w) (hcap : T.length ≤ cap) (hmax : T.length ≤ 2305843009213693951) (hup : So.Up T 0 T.length) :
    Calls Try.prog 85 #[.slice (some ⟨b, off, none⟩) T.length cap, .func (.func 86) #[] #[]] w fun en w' => en = .returned (.tuple #[]) ∧ ∃ T', RowIs wb b off T' w' ∧ So.Seg 0 T.length T T' ∧ So.Srt T' 0 T.length := by
  have N := Lib.hid (stable_any wb b off cap T w hR hcap hmax hup)
  clear hR hup
  go_enter Try.func85, Try.ntmps85
  go_wp2_with fail
  refine N.out.mono ?_
  rintro en w1 ⟨rfl, T', hr1, hs1, hsr1⟩
  have HR1 := Lib.hid hr1
  have HS1 := Lib.hid hs1
  have HT1 := Lib.hid hsr1
  clear hr1 hs1 hsr1
  go_wp2
  go_end0
  exact ⟨rfl, T', HR1.out, HS1.out, HT1.out⟩

end Go.Proofs.Ytoaclofobfaflaa
namespace Go.Proofs.Ytoaclofobfaflaa
open Go.RowKit Fb

set_option maxHeartbeats 3200000 in
set_option maxRecDepth 100000 in
theorem growW_any (n : Nat) (w : World) (hn : n * 32 ≤ 140737488355328) :
    Calls Try.prog 97 #[.slice none 0 0, .int .i64 n] w fun e w' => ∃ v, e = .returned v ∧ w'.ownsRow w.heap.size 35 4 v 0 [] ∧ Below w.heap.size w w' := by
  by_cases h0 : n = 0
  · subst h0
    go_enter Try.func97, Try.ntmps97
    go_wp2
    go_ret
    exact ⟨_, rfl, ⟨rfl, .inl ⟨rfl, rfl⟩⟩, Below.refl _ _⟩
  · obtain ⟨i0, hI, hz0, hz1, hz2⟩ := info_parts infoWr
    have hn1 : ¬ ((n : Int) < 0) := by omega
    have hn2 : (0 : Int) < (n : Int) := by omega
    have hold : (Builtin.firstCells i0.size 0 (.slice none 0 0)).run Try.prog w.drew = .ok ([] : List Value).toArray w.drew := run_firstCells_none w.drew i0.size 0 0 0
    obtain ⟨G, hG⟩ : ∃ G, grownCap w n 0 35 = G := ⟨_, rfl⟩
    have hGn : n ≤ G := by rw [← hG]; exact grownCap_ge w _ _ _
    have hG63 : G ≤ maxLen := by rw [← hG]; exact grownCap_le_maxLen w n 0 35 (by unfold maxLen; omega)
    obtain ⟨Z, hZ⟩ : ∃ Z, ([] : List Value).toArray ++ Builtin.zeroCells (Value.cells (.agg #[.int .i64 0, .int .i64 0, .int .i64 0, .bool false])) n ++ Builtin.zeroCells (Value.cells (.agg #[.int .i64 0, .int .i64 0, .int .i64 0, .bool false])) (G - n) = Z := ⟨_, rfl⟩
    have hZs : Z.size = G * 4 := by
      rw [← hZ, Array.size_append, Array.size_append, size_zeroCells, size_zeroCells]
      show 0 + n * 4 + (G - n) * 4 = G * 4
      omega
    have hrz : ∀ ty, (Builtin.append_ #[24, 3] ty #[.slice none 0 0, .int .i64 (n : Int)]).run Try.prog w = .ok (.slice (some ⟨w.heap.size, 0, none⟩) n G) (w.drew.alloc (.cells Z 35)) := fun ty => by
      have h := Lib.run_append_grow_zeros w 24 3 ty 35 i0 (.agg #[.int .i64 0, .int .i64 0, .int .i64 0, .bool false]) .i64 .i64 Try.underlying24 Try.underlying3 hI hz0 none 0 0 [] hold n (by omega) (by rw [hz1]; omega) (by omega) (by omega) (by rw [hz2]; omega) (growslice_fits (by omega) (by rw [hz2]; omega))
      rw [Nat.zero_add, hG, hZ] at h
      exact h
    have hB := Blk.new w.drew 35 Z
    have HB := Lib.hid (show Blk (w.drew.alloc (.cells Z 35)) w.heap.size 35 Z from hB)
    have hG1 : G ≤ 9223372036854775807 := by unfold maxLen at hG63; exact hG63
    have HZS := Lib.hid hZs
    have HGM := Lib.hid hG63
    have hbz := (Below.drew (Below.refl w.heap.size w)).alloc (Nat.le_refl _) (.cells Z 35)
    clear hold hG hZ hB hZs hG63
    go_enter Try.func97, Try.ntmps97
    go_wp2_with (at_builtin; refine Lib.wpList_append_run _ rfl _ _ _ _ rfl _ _ rfl rfl _ _ (hrz _) ?_)
    all_goals (go_ret; exact ⟨_, rfl, ⟨rfl, .inr ⟨w.heap.size, G, Z, rfl, Nat.le_refl _, HB.out, Nat.zero_le _, HGM.out, HZS.out, rfl⟩⟩, hbz⟩)

set_option maxHeartbeats 6400000 in
set_option maxRecDepth 100000 in
theorem concat_any (g : Nat) (A B : Option Addr) (ca cb : Nat) (la lb : List Wr) (w : World) (hB : Blk w g 24 #[.slice A la.length ca, .slice B lb.length cb]) (h1 : OneW w A ca la) (h2 : OneW w B cb lb) (hsz : (la.length + lb.length) * 32 ≤ 140737488355328) :
    Calls Try.prog 84 #[.slice (some ⟨g, 0, none⟩) 2 2] w (GivesW (la ++ lb) w) := by
  obtain ⟨i0, hI, hz0, hz1, hz2⟩ := info_parts infoWr
  obtain ⟨n, hn⟩ : ∃ n, la.length + lb.length = n := ⟨_, rfl⟩
  have N0 := Lib.hid (growW_any n w (by omega))
  have c0 := hB.cell (i := 0) rfl
  have c1 := hB.cell (i := 1) rfl
  have z0 : ¬ ((la.length : Int) < 0) := by omega
  have z1 : (la.length : Int) + (lb.length : Int) = (n : Int) := by omega
  have z2 : ¬ ((n : Int) < 0) := by omega
  have H1 := Lib.hid h1
  have H2 := Lib.hid h2
  have HB := Lib.hid hB
  have l1 := h1.len
  have l2 := h2.len
  clear hB h1 h2 hn
  go_enter Try.func84, Try.ntmps84
  go_wp2_with fail
  refine wp_loop_rounds 3 ?_
  rw [rounds_succ]
  go_wp2
  rw [rounds_succ]
  go_wp2
  rw [rounds_succ]
  go_wp2_with fail
  refine N0.out.mono ?_
  rintro e w1 ⟨v, rfl, ho, b1⟩
  have d0 := cell_later b1 c0
  have HO := Lib.hid ho
  clear ho
  go_wp2_with fail
  refine wp_loop_rounds 3 ?_
  rw [rounds_succ]
  have hz := b1.size
  go_wp2_with (at_builtin; refine wpList_append_lies _ rfl _ _ 24 rfl w.heap.size 35 i0 (.agg #[.int .i64 0, .int .i64 0, .int .i64 0, .bool false]) 4 32 Try.underlying24 hI hz0 hz1 hz2 rfl (by decide) _ 0 [] rfl HO.out A la.length ca (H1.out.later b1).2.2.1 (Nt.wrCells la) rfl (Nt.wrCells_length la) (H1.out.later b1).2.2.2 (Nt.wrCells_one la) (by unfold maxLen; omega) (by omega) hz ?_)
  intro v2 w2 ho2 hg2 _
  have b2 : Below w.heap.size w w2 := b1.grown hg2 hz (fun k hk => own_ge HO.out _ hk)
  have HO2 := Lib.hid ho2
  have e1 : w2.cell? ⟨g, 1, none⟩ = some (.slice B lb.length cb) := cell_later b2 c1
  have hz2' := b2.size
  clear ho2 hg2 d0
  go_wp2_with fail
  rw [rounds_succ]
  go_wp2_with (at_builtin; refine wpList_append_lies _ rfl _ _ 24 rfl w.heap.size 35 i0 (.agg #[.int .i64 0, .int .i64 0, .int .i64 0, .bool false]) 4 32 Try.underlying24 hI hz0 hz1 hz2 rfl (by decide) _ la.length (Nt.wrCells la) rfl HO2.out B lb.length cb (H2.out.later b2).2.2.1 (Nt.wrCells lb) rfl (Nt.wrCells_length lb) (H2.out.later b2).2.2.2 (Nt.wrCells_one lb) (by unfold maxLen; omega) (by omega) hz2' ?_)
  intro v3 w3 ho3 hg3 _
  have b3 : Below w.heap.size w w3 := b2.grown hg3 hz2' (fun k hk => own_ge HO2.out _ hk)
  rw [← Nt.wrCells_append, ← List.length_append] at ho3
  have HO3 := Lib.hid ho3
  clear ho3 hg3 e1
  go_wp2_with fail
  rw [rounds_succ]
  go_wp2
  go_ret
  exact ⟨v3, rfl, HO3.out, b3⟩

end Go.Proofs.Ytoaclofobfaflaa
namespace Go.Proofs.Ytoaclofobfaflaa
open Go.RowKit Fb

namespace So
/-- Is the element at place j no repetition of the object ahead of it? -/
def kp (T : List Tw) (j : Nat) : Bool := !(decide (0 < j) && ((g T j).1.2.2.1 == (g T (j - 1)).1.2.2.1))
/-- Of the first j elements those that are kept. -/
def kept (T : List Tw) : Nat → List Tw
  | 0 => []
  | j + 1 => kept T j ++ (if kp T j = true then [g T j] else [])
def comp (T : List Tw) : List Tw := kept T T.length
theorem kept_len (T : List Tw) : ∀ j, (kept T j).length ≤ j
  | 0 => Nat.le_refl _
  | j + 1 => by
    have := kept_len T j
    rw [kept, List.length_append]
    split <;> simp <;> omega
theorem kept_all (T : List Tw) : ∀ j, j ≤ T.length → (∀ i, i < j → kp T i = true) → kept T j = T.take j
  | 0, _, _ => by rw [List.take_zero]; rfl
  | j + 1, h, hk => by
    rw [kept, kept_all T j (by omega) (fun i hi => hk i (by omega)), if_pos (hk j (by omega)), List.take_succ_eq_append_getElem (by omega), g_eq (by omega)]
/-- j places have been looked at; the kept ones lie at the head, i of them; from i on all is as it was. -/
structure Kp (T : List Tw) (j i : Nat) (Tk : List Tw) : Prop where
  len : Tk.length = T.length
  head : Tk.take i = kept T j
  cnt : (kept T j).length = i
  lt : i < j
  le : j ≤ T.length
  tail : ∀ t, i ≤ t → g Tk t = g T t
theorem Kp.start {T : List Tw} {j : Nat} (hj : j < T.length) (hall : ∀ i, i < j → kp T i = true) (hno : kp T j = false) : Kp T (j + 1) j T where
  len := rfl
  head := by rw [kept, if_neg (by rw [hno]; simp), List.append_nil, kept_all T j (by omega) hall]
  cnt := by rw [kept, if_neg (by rw [hno]; simp), List.append_nil, kept_all T j (by omega) hall, List.length_take]; omega
  lt := Nat.lt_succ_self _
  le := hj
  tail := fun _ _ => rfl
theorem Kp.skip {T Tk : List Tw} {j i : Nat} (h : Kp T j i Tk) (hj : j < T.length) (hno : kp T j = false) : Kp T (j + 1) i Tk where
  len := h.len
  head := by rw [kept, if_neg (by rw [hno]; simp), List.append_nil]; exact h.head
  cnt := by rw [kept, if_neg (by rw [hno]; simp), List.append_nil]; exact h.cnt
  lt := by have := h.lt; omega
  le := hj
  tail := h.tail
theorem Kp.keep {T Tk : List Tw} {j i : Nat} (h : Kp T j i Tk) (hj : j < T.length) (hyes : kp T j = true) : Kp T (j + 1) (i + 1) (Tk.set i (g T j)) where
  len := by rw [List.length_set]; exact h.len
  head := by
    have hi : i < (Tk.set i (g T j)).length := by rw [List.length_set, h.len]; have := h.lt; omega
    rw [kept, if_pos hyes, List.take_succ_eq_append_getElem hi, List.getElem_set_self, List.take_set, List.set_eq_of_length_le (by rw [List.length_take]; omega), h.head]
  cnt := by rw [kept, if_pos hyes, List.length_append, h.cnt]; rfl
  lt := by have := h.lt; omega
  le := hj
  tail := fun t ht => by
    rw [g_set _ (by have := h.len; have := h.lt; omega), if_neg (by omega)]
    exact h.tail t (by omega)
theorem Kp.done {T Tk : List Tw} {i : Nat} (h : Kp T T.length i Tk) : i = (comp T).length ∧ Tk.take i = comp T := ⟨h.cnt.symm, h.head⟩
theorem row_take (T : List Tw) (i : Nat) : row (T.take i) = (row T).take i := by unfold row; rw [List.map_take]
end So
theorem size_cells (b : Nat) : ∀ (vs : List Value) (o : Nat) (w : World), w.heap.size ≤ (w.setCells b o vs).heap.size
  | [], _, _ => Nat.le_refl _
  | v :: r, o, w => Nat.le_trans (by simp) (size_cells b r (o + 1) (w.setCell ⟨b, o, none⟩ v))

set_option maxRecDepth 100000 in
set_option maxHeartbeats 12800000 in
theorem compact_any (wb : World) (b off cap : Nat) (T : List Tw) (w : World) (hR : RowIs wb b off T w) (hcap : T.length ≤ cap) (hmax : cap ≤ 9223372036854775807) :
    Calls Try.prog 90 #[.slice (some ⟨b, off, none⟩) T.length cap, .func (.func 91) #[] #[]] w fun en w' => en = .returned (.slice (some ⟨b, off, none⟩) (So.comp T).length cap) ∧ RowIs wb b off (So.comp T) w' := by
  have HR := Lib.hid hR
  by_cases hsm : T.length < 2
  · have hc : So.comp T = T := by
      have h := So.kept_all T T.length (Nat.le_refl _) (fun i hi => by
        have : i = 0 := by omega
        subst this
        rfl)
      rw [List.take_length] at h
      exact h
    rw [hc]
    have d0 : decide ((T.length : Int) < 2) = true := decide_eq_true (by omega)
    have d1 : (T.length : Int) < 2 := by omega
    clear hR hc
    go_enter Try.func90, Try.ntmps90
    go_wp2
    go_ret
    exact ⟨rfl, HR.out⟩
  have d0 : decide ((T.length : Int) < 2) = false := decide_eq_false (by omega)
  have d1 : ¬ (T.length : Int) < 2 := by omega
  clear hR
  go_enter Try.func90, Try.ntmps90
  go_wp2_with fail
  go_loopw [5, 6, 7] (fun s5 _ _ wr => ∃ k : Nat, s5 = .int .i64 (k : Int) ∧ 1 ≤ k ∧ k ≤ T.length ∧ RowIs wb b off T wr ∧ (∀ i, i < k → So.kp T i = true)) (fun s5 _ _ _ => T.length - (intOf s5).toNat)
  case atStart => exact ⟨1, rfl, Nat.le_refl _, by omega, HR.out, fun i hi => by
    have : i = 0 := by omega
    subst this
    rfl⟩
  case round =>
    obtain ⟨k, rfl, hk1, hkn, hrow, hall⟩ := hrel
    have HALL := Lib.hid hall
    have HRW := Lib.hid hrow
    clear hall
    by_cases hlt : k < T.length
    · have hz : (k : Int) < (T.length : Int) := by omega
      obtain ⟨m, hm⟩ : ∃ m, k - 1 = m := ⟨_, rfl⟩
      have m1 : k ≤ m + 1 := by omega
      have m2 : m + 1 ≤ k := by omega
      have z1 : (k : Int) - 1 = (m : Int) := by omega
      have n0 : (0 : Int) ≤ (k : Int) := by omega
      have n1 : (k : Int) < (T.length : Int) := by omega
      have n2 : (0 : Int) ≤ (m : Int) := by omega
      have n3 : (m : Int) < (T.length : Int) := by omega
      have HM := Lib.hid hm
      clear hm
      obtain ⟨⟨e0, e1, e2, e3⟩, -⟩ := hrow.cells (i := k) (by omega)
      obtain ⟨⟨d0', d1', d2', d3'⟩, -⟩ := hrow.cells (i := m) (by omega)
      obtain ⟨x, hx⟩ : ∃ x, (So.g T (k)).1 = x := ⟨_, rfl⟩
      obtain ⟨y, hy⟩ : ∃ y, (So.g T (m)).1 = y := ⟨_, rfl⟩
      rw [hx] at e0 e1 e2 e3
      rw [hy] at d0' d1' d2' d3'
      obtain ⟨r, hr⟩ : ∃ r, (x.2.2.1 == y.2.2.1) = r := ⟨_, rfl⟩
      obtain ⟨x1, x2, x3, x4⟩ := x
      obtain ⟨y1, y2, y3, y4⟩ := y
      have k0 := fun dd os => cell_regrown e0 dd os
      have k1 := fun dd os => cell_regrown e1 dd os
      have k2 := fun dd os => cell_regrown e2 dd os
      have k3 := fun dd os => cell_regrown e3 dd os
      have m0' := fun dd os => cell_regrown d0' dd os
      have m1' := fun dd os => cell_regrown d1' dd os
      have m2' := fun dd os => cell_regrown d2' dd os
      have m3' := fun dd os => cell_regrown d3' dd os
      have cl : ∀ dd os, Calls Try.prog 91 #[.agg #[.int .i64 x1, .int .i64 x2, .int .i64 x3, .bool x4], .agg #[.int .i64 y1, .int .i64 y2, .int .i64 y3, .bool y4]] (Sort.grow (redrawn wr dd) os) fun e w'' => e = .returned (.bool r) ∧ ∃ p : Regrown, w'' = Sort.grow (redrawn wr p.d) p.os := fun dd os => Calls.regrown_of (by have q := newest2_any (x1, x2, x3, x4) (y1, y2, y3, y4) (Sort.grow (redrawn wr dd) os); rw [hr] at q; exact q)
      have CL := Lib.hid cl
      have HCF := Lib.hid (show ((So.g T (k)).1.2.2.1 == (So.g T (m)).1.2.2.1) = r from by rw [hx, hy]; exact hr)
      clear cl hr e0 e1 e2 e3 d0' d1' d2' d3'
      have HKP := Lib.hid (show So.kp T k = !r from by unfold So.kp; rw [decide_eq_true (by omega : 0 < k), Bool.true_and, HM.out, HCF.out])
      clear hrow hx hy
      cases r with
      | false =>
        go_wp2_with fail
        refine wp_region_quiet_below (by kernel_rfl) (by kernel_rfl) ?_
        repeat (first | go_big_quiet_step (exact CL.out _ _) | quiet_step (exact CL.out _ _))
        refine wpQuiet_nil ?_
        intro _ hw'
        obtain ⟨⟨dq, osq⟩, hw''⟩ := hw'
        subst hw''
        have hbq := below_regrown wr dq osq
        clear k0 k1 k2 k3 m0' m1' m2' m3'
        have HR3 := Lib.hid (HRW.out.later hbq)
        go_wp2_with fail
        go_roundw
        case rel => exact ⟨k + 1, by go_num, by omega, by omega, HR3.out, fun i hi => by
          by_cases e : i = k
          · rw [e, HKP.out]; rfl
          · exact HALL.out i (by omega)⟩
        case measure => simp [intOf]; omega
      | true =>
        have HKS := Lib.hid (So.Kp.start (j := k) hlt HALL.out (by rw [HKP.out]; rfl))
        have y1 : (0 : Int) ≤ (k : Int) := by omega
        have y2 : (k : Int) ≤ (T.length : Int) := by omega
        have y3 : (T.length : Int) ≤ (cap : Int) := by omega
        have y4 : (k : Int) ≤ (cap : Int) := by omega
        have y5 : (T.length : Int) - (k : Int) = ((T.length - k : Nat) : Int) := by omega
        go_wp2_with fail
        refine wp_region_quiet_below (by kernel_rfl) (by kernel_rfl) ?_
        repeat (first | go_big_quiet_step (exact CL.out _ _) | quiet_step (exact CL.out _ _))
        refine wpQuiet_nil ?_
        intro _ hw'
        obtain ⟨⟨dq, osq⟩, hw''⟩ := hw'
        subst hw''
        have hbq := below_regrown wr dq osq
        clear k0 k1 k2 k3 m0' m1' m2' m3'
        have HR3 := Lib.hid (HRW.out.later hbq)
        clear hbq
        go_wp2_with fail
        go_loopw [5, 7] (fun s5 s7 wr => ∃ (i q : Nat) (Tk : List Tw), s5 = .int .i64 (i : Int) ∧ s7 = .int .i64 (q : Int) ∧ 1 ≤ q ∧ So.Kp T (k + q) i Tk ∧ RowIs wb b off Tk wr) (fun _ s7 _ => T.length - (intOf s7).toNat)
        case atStart => exact ⟨k, 1, T, rfl, rfl, Nat.le_refl _, HKS.out, HR3.out⟩
        case round =>
          obtain ⟨i, q, Tk, rfl, rfl, hq1, hkp, hrow⟩ := hrel
          have HKK := Lib.hid hkp
          have HRW2 := Lib.hid hrow
          have hil := hkp.lt
          have hle := hkp.le
          have hlen := hkp.len
          have hl1 : Tk.length ≤ T.length := by omega
          have hl2 : T.length ≤ Tk.length := by omega
          by_cases hlt2 : q < T.length - k
          · have hz2 : (q : Int) < ((T.length - k : Nat) : Int) := by omega
            obtain ⟨m', hm'⟩ : ∃ m', q - 1 = m' := ⟨_, rfl⟩
            have u1 : q ≤ m' + 1 := by omega
            have u2 : m' + 1 ≤ q := by omega
            have z2 : (q : Int) - 1 = (m' : Int) := by omega
            have p0 : (0 : Int) ≤ (q : Int) := by omega
            have p1 : (q : Int) < ((T.length - k : Nat) : Int) := by omega
            have p2 : (0 : Int) ≤ (m' : Int) := by omega
            have p3 : (m' : Int) < ((T.length - k : Nat) : Int) := by omega
            have HM2 := Lib.hid (show k + q - 1 = k + m' from by omega)
            have gq := hkp.tail (k + q) (by omega)
            have gm := hkp.tail (k + m') (by omega)
            clear hm' hkp hlen
            obtain ⟨⟨e0, e1, e2, e3⟩, -⟩ := hrow.cells (i := k + q) (by omega)
            obtain ⟨⟨d0', d1', d2', d3'⟩, -⟩ := hrow.cells (i := k + m') (by omega)
            obtain ⟨x, hx⟩ : ∃ x, (So.g Tk (k + q)).1 = x := ⟨_, rfl⟩
            obtain ⟨y, hy⟩ : ∃ y, (So.g Tk (k + m')).1 = y := ⟨_, rfl⟩
            rw [hx] at e0 e1 e2 e3
            rw [hy] at d0' d1' d2' d3'
            rw [show off + (k + q) * 4 = off + k * 4 + q * 4 from by omega] at e0 e1 e2 e3
            rw [show off + (k + m') * 4 = off + k * 4 + m' * 4 from by omega] at d0' d1' d2' d3'
            obtain ⟨r, hr⟩ : ∃ r, (x.2.2.1 == y.2.2.1) = r := ⟨_, rfl⟩
            obtain ⟨x1, x2, x3, x4⟩ := x
            obtain ⟨y1, y2, y3, y4⟩ := y
            have k0 := fun dd os => cell_regrown e0 dd os
            have k1 := fun dd os => cell_regrown e1 dd os
            have k2 := fun dd os => cell_regrown e2 dd os
            have k3 := fun dd os => cell_regrown e3 dd os
            have m0' := fun dd os => cell_regrown d0' dd os
            have m1' := fun dd os => cell_regrown d1' dd os
            have m2' := fun dd os => cell_regrown d2' dd os
            have m3' := fun dd os => cell_regrown d3' dd os
            have cl : ∀ dd os, Calls Try.prog 91 #[.agg #[.int .i64 x1, .int .i64 x2, .int .i64 x3, .bool x4], .agg #[.int .i64 y1, .int .i64 y2, .int .i64 y3, .bool y4]] (Sort.grow (redrawn wr dd) os) fun e w'' => e = .returned (.bool r) ∧ ∃ p : Regrown, w'' = Sort.grow (redrawn wr p.d) p.os := fun dd os => Calls.regrown_of (by have q := newest2_any (x1, x2, x3, x4) (y1, y2, y3, y4) (Sort.grow (redrawn wr dd) os); rw [hr] at q; exact q)
            have CL := Lib.hid cl
            have HCF := Lib.hid (show ((So.g Tk (k + q)).1.2.2.1 == (So.g Tk (k + m')).1.2.2.1) = r from by rw [hx, hy]; exact hr)
            clear cl hr e0 e1 e2 e3 d0' d1' d2' d3'
            have HKP2 := Lib.hid (show So.kp T (k + q) = !r from by unfold So.kp; rw [decide_eq_true (by omega : 0 < k + q), Bool.true_and, HM2.out, ← gq, ← gm, HCF.out])
            have HXV := Lib.hid (show (So.g T (k + q)).1 = (x1, x2, x3, x4) from by rw [← gq]; exact hx)
            clear hrow hy gm gq
            cases r with
            | true =>
              go_wp2_with fail
              refine wp_region_quiet_below (by kernel_rfl) (by kernel_rfl) ?_
              repeat (first | go_big_quiet_step (exact CL.out _ _) | quiet_step (exact CL.out _ _))
              refine wpQuiet_nil ?_
              intro _ hw'
              obtain ⟨⟨dq, osq⟩, hw''⟩ := hw'
              subst hw''
              have hbq := below_regrown wr dq osq
              clear k0 k1 k2 k3 m0' m1' m2' m3'
              have HR4 := Lib.hid (HRW2.out.later hbq)
              go_wp2_with fail
              go_roundw
              case rel => exact ⟨i, q + 1, Tk, rfl, by go_num, by omega, HKK.out.skip (by omega) (by rw [HKP2.out]; rfl), HR4.out⟩
              case measure => simp [intOf]; omega
            | false =>
              go_wp2_with fail
              refine wp_region_quiet_below (by kernel_rfl) (by kernel_rfl) ?_
              repeat (first | go_big_quiet_step (exact CL.out _ _) | quiet_step (exact CL.out _ _))
              refine wpQuiet_nil ?_
              intro _ hw'
              obtain ⟨⟨dq, osq⟩, hw''⟩ := hw'
              subst hw''
              have hbq := below_regrown wr dq osq
              clear k0 k1 k2 k3 m0' m1' m2' m3'
              have hr4 := HRW2.out.later hbq
              obtain ⟨wq, hwq⟩ : ∃ wq, Sort.grow (redrawn wr dq) osq = wq := ⟨_, rfl⟩
              rw [hwq] at hr4 ⊢
              obtain ⟨⟨e0, e1, e2, e3⟩, -⟩ := hr4.cells (i := k + q) (by omega)
              rw [hx] at e0 e1 e2 e3
              rw [show off + (k + q) * 4 = off + k * 4 + q * 4 from by omega] at e0 e1 e2 e3
              obtain ⟨⟨o0, o1, o2, o3⟩, f0, f1, f2, f3⟩ := hr4.cells (i := i) (by omega)
              generalize So.g Tk i = old at o0 o1 o2 o3
              have hput := hr4.put (i := i) (by omega) (So.g T (k + q))
              rw [HXV.out] at hput
              have HPUT := Lib.hid hput
              have t0 : (0 : Int) ≤ (i : Int) := by omega
              have t1 : (i : Int) < (T.length : Int) := by omega
              clear hput hr4 hwq hbq hx
              go_wp2_with fail
              go_roundw
              case rel => exact ⟨i + 1, q + 1, Tk.set i (So.g T (k + q)), by go_num, by go_num, by omega, HKK.out.keep (by omega) (by rw [HKP2.out]; rfl), HPUT.out⟩
              case measure => simp [intOf]; omega
          · have hz2 : ¬ (q : Int) < ((T.length - k : Nat) : Int) := by omega
            have hkq : k + q = T.length := by omega
            have hin : i < T.length := by omega
            have HD := Lib.hid (show i = (So.comp T).length ∧ Tk.take i = So.comp T from by rw [hkq] at hkp; exact hkp.done)
            have hlen4 : (Nt.wrCells (So.row Tk)).length = T.length * 4 := by rw [Nt.wrCells_length, So.row_len, hlen]
            have hzl := zeroCellsW (T.length - i)
            have hcl : ∀ ty, (Builtin.clear_ #[24] ty #[.slice (some ⟨b, off + i * 4, none⟩) (T.length - i) (cap - i)]).run Try.prog wr = .ok (.tuple #[]) (wr.setCells b (off + i * 4) (Builtin.zeroCells (Value.cells (.agg #[.int .i64 0, .int .i64 0, .int .i64 0, .bool false])) (T.length - i)).toList) := fun ty =>
              run_clear_cells wr 24 35 ty (.agg #[.int .i64 0, .int .i64 0, .int .i64 0, .bool false]) Try.underlying24 Try.zeroValue35 b (off + i * 4) (T.length - i) (cap - i) (by omega) hzl.2
                (fun t ht => by rw [hzl.1] at ht; have hx : i * 4 + t < (Nt.wrCells (So.row Tk)).length := Nat.lt_of_lt_of_eq (by omega) hlen4.symm; rw [Nat.add_assoc, (HRW2.out.lay _ _ (List.getElem?_eq_getElem hx)).1]; rfl)
                (fun t ht => by rw [hzl.1] at ht; have hx : i * 4 + t < (Nt.wrCells (So.row Tk)).length := Nat.lt_of_lt_of_eq (by omega) hlen4.symm; rw [Nat.add_assoc]; exact (HRW2.out.lay _ _ (List.getElem?_eq_getElem hx)).2)
            have HFIN := Lib.hid (show RowIs wb b off (So.comp T) (wr.setCells b (off + i * 4) (Builtin.zeroCells (Value.cells (.agg #[.int .i64 0, .int .i64 0, .int .i64 0, .bool false])) (T.length - i)).toList) from by
              refine ⟨?_, ?_, HRW2.out.own, below_cells HRW2.out.own _ _ _ HRW2.out.below⟩
              · refine Lay.behind ?_ (i * 4) (by rw [Nt.wrCells_length, So.row_len, ← HD.out.1]; exact Nat.le_refl _) _
                rw [← HD.out.2, So.row_take]
                exact HRW2.out.lay.sub (wr_take (So.row Tk) i)
              · exact Nat.lt_of_lt_of_le HRW2.out.lt (size_cells _ _ _ _))
            clear hkp hrow hlen4 hzl hkq hlen
            have v0 : (0 : Int) ≤ (i : Int) := by omega
            have v1 : (i : Int) ≤ (T.length : Int) := by omega
            have v2 : (i : Int) ≤ (cap : Int) := by omega
            go_wp2
            go_ret
            exact ⟨by rw [← HD.out.1]; rfl, HFIN.out⟩
    · have hkn2 : k = T.length := by omega
      have hz : ¬ (k : Int) < (T.length : Int) := by omega
      have hc : So.comp T = T := by
        have h := So.kept_all T T.length (Nat.le_refl _) (fun i hi => HALL.out i (by omega))
        rw [List.take_length] at h
        exact h
      have HC := Lib.hid hc
      clear hrow hc hkn2
      go_wp2
      go_ret
      rw [HC.out]
      exact ⟨rfl, HRW.out⟩

end Go.Proofs.Ytoaclofobfaflaa
