/-
  What is left of two notes' writes, sorted and thinned, is what a merged note tells; the thrifty start as a join. Mathematics; no call is walked.
  What slices.IndexFunc and slices.DeleteFunc do at a list of stamps, whatever the predicate, as long as that leaves all memory as it was.
  What note's newest and thriftyStart answer.
  What note's Merge answers: so it answers as is asked of it.
-/
import Derived.Test.YtoaclofobfaflaaG24
import Derived.Test.YtoaclofobfaflaaG18
import Derived.Test.YtoaclofobfaflaaG19
import Derived.Shelf.Abstract
import Derived.Test.YtoaclofobfaflaaG21
namespace Go.Proofs.Ytoaclofobfaflaa
open Go.RowKit

namespace So
/-- Each write with its place. -/
def tag (l : List Wr) : List Tw := l.zipIdx
theorem tag_len (l : List Wr) : (tag l).length = l.length := List.length_zipIdx
theorem row_tag (l : List Wr) : row (tag l) = l := by
  unfold row tag
  exact List.ext_getElem (by simp) (fun i h1 h2 => by simp)
theorem g_tag {l : List Wr} {i : Nat} (h : i < l.length) : g (tag l) i = (l[i], i) := by
  rw [g_eq (by rw [tag_len]; exact h)]
  unfold tag
  rw [List.getElem_zipIdx, Nat.zero_add]
theorem up_tag (l : List Wr) : Up (tag l) 0 (tag l).length := fun i j _ h2 h3 => by
  rw [tag_len] at h3
  rw [g_tag (by omega), g_tag h3]
  exact h2
abbrev ob (x : Wr) : Int := x.2.2.1
theorem srt_ob {T : List Tw} {n : Nat} (h : Srt T 0 n) {i j : Nat} (hij : i ≤ j) (hj : j < n) : ob (g T i).1 ≤ ob (g T j).1 := by
  by_cases e : i = j
  · rw [e]; exact Int.le_refl _
  · have := h i j (Nat.zero_le _) (by omega) hj
    unfold TL at this
    show (g T i).1.2.2.1 ≤ (g T j).1.2.2.1
    omega
theorem kp_lt {T : List Tw} {n : Nat} (h : Srt T 0 n) {j : Nat} (hj : j < n) (hk : kp T j = true) {i : Nat} (hi : i < j) : ob (g T i).1 < ob (g T j).1 := by
  have h1 := srt_ob h (i := i) (j := j - 1) (by omega) (by omega)
  have h2 := srt_ob h (i := j - 1) (j := j) (by omega) hj
  unfold kp at hk
  rw [decide_eq_true (by omega : 0 < j), Bool.true_and] at hk
  have h3 : ob (g T j).1 ≠ ob (g T (j - 1)).1 := by simpa using hk
  omega
theorem kept_mem (T : List Tw) : ∀ n, ∀ t, t ∈ kept T n ↔ ∃ j, j < n ∧ kp T j = true ∧ g T j = t
  | 0, t => by simp [kept]
  | n + 1, t => by
    rw [kept, List.mem_append, kept_mem T n t]
    constructor
    · rintro (⟨j, h1, h2, h3⟩ | h)
      · exact ⟨j, by omega, h2, h3⟩
      · by_cases hk : kp T n = true
        · rw [if_pos hk, List.mem_singleton] at h
          exact ⟨n, by omega, hk, h.symm⟩
        · rw [if_neg hk] at h; cases h
    · rintro ⟨j, h1, h2, h3⟩
      by_cases e : j = n
      · subst e
        right
        rw [if_pos h2, h3]
        exact List.mem_singleton.2 rfl
      · exact .inl ⟨j, by omega, h2, h3⟩
theorem kept_up {T : List Tw} {n : Nat} (h : Srt T 0 n) : ∀ m, m ≤ n → (kept T m).Pairwise (fun x y => ob x.1 < ob y.1)
  | 0, _ => List.Pairwise.nil
  | m + 1, hm => by
    rw [kept, List.pairwise_append]
    refine ⟨kept_up h m (by omega), ?_, fun x hx y hy => ?_⟩
    · split
      · exact List.pairwise_singleton _ _
      · exact List.Pairwise.nil
    · by_cases hk : kp T m = true
      · rw [if_pos hk, List.mem_singleton] at hy
        obtain ⟨j, j1, _, j3⟩ := (kept_mem T m x).1 hx
        rw [hy, ← j3]
        exact kp_lt h (by omega) hk j1
      · rw [if_neg hk] at hy; cases hy
/-- Lists of writes that rise by objects and hold the same are the same. -/
theorem up_uniq : ∀ (l r : List Wr), l.Pairwise (fun x y => ob x < ob y) → r.Pairwise (fun x y => ob x < ob y) → (∀ x, x ∈ l ↔ x ∈ r) → l = r
  | [], [], _, _, _ => rfl
  | [], y :: r, _, _, h => absurd ((h y).2 (List.mem_cons_self ..)) (by simp)
  | x :: l, [], _, _, h => absurd ((h x).1 (List.mem_cons_self ..)) (by simp)
  | x :: l, y :: r, hl, hr, h => by
    obtain ⟨l1, l2⟩ := List.pairwise_cons.1 hl
    obtain ⟨r1, r2⟩ := List.pairwise_cons.1 hr
    have hxy : x = y := by
      have hx := (h x).1 (List.mem_cons_self ..)
      have hy := (h y).2 (List.mem_cons_self ..)
      rcases List.mem_cons.1 hx with e | hx
      · exact e
      · rcases List.mem_cons.1 hy with e | hy
        · exact e.symm
        · have := l1 y hy
          have := r1 x hx
          omega
    subst hxy
    rw [up_uniq l r l2 r2 fun z => ?_]
    have hz := h z
    rw [List.mem_cons, List.mem_cons] at hz
    constructor
    · intro hm
      rcases hz.1 (.inr hm) with e | e
      · subst e; have := l1 z hm; omega
      · exact e
    · intro hm
      rcases hz.2 (.inr hm) with e | e
      · subst e; have := r1 z hm; omega
      · exact e
end So

namespace Nt
open So
theorem at_of {l : List Wr} (hp : l.Pairwise (fun x y => ob x < ob y)) {y : Wr} (hy : y ∈ l) {k : Int} (hk : ob y = k) : at_ l k = (y, true) := by
  unfold at_
  cases hf : l.find? (fun x => decide (x.2.2.1 = k)) with
  | none =>
    rw [List.find?_eq_none] at hf
    exact absurd (decide_eq_true hk) (hf y hy)
  | some z =>
    have hz := List.find?_some hf
    have hm := List.mem_of_find?_eq_some hf
    have hzk : ob z = k := of_decide_eq_true hz
    have : z = y := by
      obtain ⟨i, hi, rfl⟩ := List.mem_iff_getElem.1 hm
      obtain ⟨j, hj, rfl⟩ := List.mem_iff_getElem.1 hy
      rw [List.pairwise_iff_getElem] at hp
      rcases Nat.lt_trichotomy i j with h | h | h
      · have := hp i j hi hj h; omega
      · subst h; rfl
      · have := hp j i hj hi h; omega
    rw [this]
theorem merged_mem (a b : Note) (bl : List (Int × Int)) (x : Wr) : ∀ n, x ∈ mergedTo a b bl n ↔ ∃ k, k < n ∧ pick a b k = (x, true) ∧ Sp.inL bl k = false
  | 0 => by simp [mergedTo]
  | n + 1 => by
    rw [mergedTo, List.mem_append, merged_mem a b bl x n]
    constructor
    · rintro (⟨k, h1, h2, h3⟩ | h)
      · exact ⟨k, by omega, h2, h3⟩
      · by_cases hk : (pick a b n).2 = true ∧ Sp.inL bl n = false
        · rw [if_pos hk, List.mem_singleton] at h
          exact ⟨n, by omega, by rw [h, ← hk.1], hk.2⟩
        · rw [if_neg hk] at h; cases h
    · rintro ⟨k, h1, h2, h3⟩
      by_cases e : k = n
      · subst e
        right
        rw [if_pos ⟨by rw [h2], h3⟩, h2]
        exact List.mem_singleton.2 rfl
      · exact .inl ⟨k, by omega, h2, h3⟩
theorem fmd_ws {n : Note} (h : fmd n = true) : (∀ x ∈ n.ws, wrGood n x) ∧ n.ws.Pairwise (fun x y => ob x < ob y) := by
  have h1 := (wsOk_iff n).1 (by unfold fmd at h; simp only [Bool.and_eq_true] at h; exact h.2.2.2.2)
  exact (wsTo_list n).1 h1
/-- The first of the sorted writes of an object is the one that is picked. -/
theorem pick_of {a b : Note} (ha : fmd a = true) (hb : fmd b = true) {T : List Tw} (hs : Seg 0 (a.ws ++ b.ws).length (tag (a.ws ++ b.ws)) T) (hr : Srt T 0 (a.ws ++ b.ws).length) {j : Nat} (hj : j < (a.ws ++ b.ws).length) (hk : kp T j = true) {k : Nat} (hkk : ob (g T j).1 = (k : Int)) :
    pick a b k = ((g T j).1, true) := by
  obtain ⟨ga, pa⟩ := fmd_ws ha
  obtain ⟨gb, pb⟩ := fmd_ws hb
  have hlen : (a.ws ++ b.ws).length = a.ws.length + b.ws.length := List.length_append
  -- whatever stands in the row of this object is it, or behind it
  have least : ∀ i (hi : i < (a.ws ++ b.ws).length), ob (a.ws ++ b.ws)[i] = (k : Int) → g T j = ((a.ws ++ b.ws)[i], i) ∨ TL (g T j) ((a.ws ++ b.ws)[i], i) := fun i hi ho => by
    obtain ⟨q, _, q2, q3⟩ := hs.bwd i (Nat.zero_le _) hi
    rw [g_tag hi] at q3
    rw [q3]
    by_cases c : q < j
    · have h1 := kp_lt hr hj hk c
      have h2 : ob (g T q).1 = ob (a.ws ++ b.ws)[i] := by rw [← q3]
      omega
    · by_cases e : q = j
      · left; rw [e]
      · right; exact hr j q (Nat.zero_le _) (by omega) q2
  obtain ⟨i0, _, i2, i3⟩ := hs.fwd j (Nat.zero_le _) hj
  rw [g_tag i2] at i3
  have left_ : ∀ i (h : i < a.ws.length), (a.ws ++ b.ws)[i]'(by omega) = a.ws[i] := fun i h => List.getElem_append_left h
  have right_ : ∀ i (h : i < b.ws.length), (a.ws ++ b.ws)[a.ws.length + i]'(by omega) = b.ws[i] := fun i h => by rw [List.getElem_append_right (by omega)]; congr 1; omega
  unfold pick
  by_cases c : i0 < a.ws.length
  · -- it is a's
    have e0 : (g T j).1 = a.ws[i0] := by rw [i3]; exact left_ i0 c
    have hat := at_of pa (List.getElem_mem c) (k := (k : Int)) (by rw [← e0]; exact hkk)
    rw [hat]
    cases hx : at_ b.ws k with
    | mk x xb =>
    cases xb with
    | false => rw [e0]; simp
    | true =>
      obtain ⟨xm, xo⟩ := at_mem hx
      obtain ⟨ib, hib, rfl⟩ := List.mem_iff_getElem.1 xm
      have hl := least (a.ws.length + ib) (by omega) (by rw [right_ ib hib]; exact xo)
      rw [right_ ib hib] at hl
      have hn : ¬ St.cmpS a.ws[i0].1 a.ws[i0].2.1 b.ws[ib].1 b.ws[ib].2.1 < 0 := by
        rcases hl with hl | hl
        · rw [i3] at hl
          injection hl with _ h2
          omega
        · have hl2 : TL (a.ws[i0], i0) (b.ws[ib], a.ws.length + ib) := by
            have : g T j = (a.ws[i0], i0) := by rw [i3, left_ i0 c]
            rw [this] at hl; exact hl
          have ho : a.ws[i0].2.2.1 = b.ws[ib].2.2.1 := by
            have h1 : ob a.ws[i0] = (k : Int) := by rw [← e0]; exact hkk
            have h2 : ob b.ws[ib] = (k : Int) := xo
            show ob a.ws[i0] = ob b.ws[ib]
            rw [h1, h2]
          unfold TL at hl2
          unfold St.cmpS St.cmpI
          simp only at hl2
          (repeat' split) <;> omega
      simp only [Bool.true_or, Prod.mk.injEq, and_true]
      rw [if_neg (fun h => by rcases h.2 with h | h <;> first | cases h | exact hn h), e0]
  · -- it is b's
    obtain ⟨ib, rfl⟩ : ∃ ib, i0 = a.ws.length + ib := ⟨i0 - a.ws.length, by omega⟩
    have hib : ib < b.ws.length := by omega
    have e0 : (g T j).1 = b.ws[ib] := by rw [i3]; exact right_ ib hib
    have hat := at_of pb (List.getElem_mem hib) (k := (k : Int)) (by rw [← e0]; exact hkk)
    rw [hat]
    cases hv : at_ a.ws k with
    | mk v vb =>
    cases vb with
    | false => rw [e0]; simp
    | true =>
      obtain ⟨vm, vo⟩ := at_mem hv
      obtain ⟨ia, hia, rfl⟩ := List.mem_iff_getElem.1 vm
      have hl := least ia (by omega) (by rw [left_ ia hia]; exact vo)
      rw [left_ ia hia] at hl
      have hn : St.cmpS a.ws[ia].1 a.ws[ia].2.1 b.ws[ib].1 b.ws[ib].2.1 < 0 := by
        rcases hl with hl | hl
        · rw [i3] at hl
          injection hl with _ h2
          omega
        · have hl2 : TL (b.ws[ib], a.ws.length + ib) (a.ws[ia], ia) := by
            have : g T j = (b.ws[ib], a.ws.length + ib) := by rw [i3, right_ ib hib]
            rw [this] at hl; exact hl
          have ho : b.ws[ib].2.2.1 = a.ws[ia].2.2.1 := by
            have h1 : ob b.ws[ib] = (k : Int) := by rw [← e0]; exact hkk
            have h2 : ob a.ws[ia] = (k : Int) := vo
            show ob b.ws[ib] = ob a.ws[ia]
            rw [h1, h2]
          unfold TL at hl2
          unfold St.cmpS St.cmpI
          simp only at hl2
          (repeat' split) <;> omega
      simp only [Bool.true_or, Prod.mk.injEq, and_true]
      rw [if_pos ⟨trivial, .inr hn⟩, e0]
/-- Sorted, thinned, and less what the blur has: what the merged note tells. -/
theorem dev_merged {a b : Note} (ha : fmd a = true) (hb : fmd b = true) (bl : List (Int × Int)) {T : List Tw} (hs : Seg 0 (a.ws ++ b.ws).length (tag (a.ws ++ b.ws)) T) (hr : Srt T 0 (a.ws ++ b.ws).length) :
    ((row (comp T)).filter fun x => !inOf bl x.2.2.1) = mergedTo a b bl 256 := by
  obtain ⟨ga, pa⟩ := fmd_ws ha
  obtain ⟨gb, pb⟩ := fmd_ws hb
  have hTl : T.length = (a.ws ++ b.ws).length := hs.len.trans (tag_len _)
  have hin : ∀ j, j < (a.ws ++ b.ws).length → 0 ≤ ob (g T j).1 ∧ ob (g T j).1 ≤ 255 := fun j hj => by
    obtain ⟨i, _, i2, i3⟩ := hs.fwd j (Nat.zero_le _) hj
    rw [i3, g_tag i2]
    have hm := List.getElem_mem i2
    rcases List.mem_append.1 hm with h | h
    · exact (ga _ h).2.1
    · exact (gb _ h).2.1
  refine up_uniq _ _ ?_ (merged_in 256).2 fun x => ?_
  · refine List.Pairwise.filter _ ?_
    unfold row
    rw [List.pairwise_map]
    unfold comp
    rw [hTl]
    exact kept_up hr _ (Nat.le_refl _)
  · rw [List.mem_filter, merged_mem]
    unfold row
    rw [List.mem_map]
    unfold comp
    rw [hTl]
    constructor
    · rintro ⟨⟨t, ht, rfl⟩, hf⟩
      obtain ⟨j, j1, j2, rfl⟩ := (kept_mem T _ t).1 ht
      obtain ⟨h0, h1⟩ := hin j j1
      refine ⟨(ob (g T j).1).toNat, by omega, pick_of ha hb hs hr j1 j2 (by omega), ?_⟩
      unfold inOf at hf
      rw [decide_eq_true ⟨h0, h1⟩, Bool.true_and] at hf
      simpa using hf
    · rintro ⟨k, k1, k2, k3⟩
      -- some write of this object is there
      have hex : ∃ i, i < (a.ws ++ b.ws).length ∧ ob (g T i).1 = (k : Int) := by
        obtain ⟨hm, ho⟩ := pick_mem k2
        obtain ⟨i, hi, rfl⟩ := List.mem_iff_getElem.1 (List.mem_append.2 hm)
        obtain ⟨q, _, q2, q3⟩ := hs.bwd i (Nat.zero_le _) hi
        rw [g_tag hi] at q3
        exact ⟨q, q2, by rw [← q3]; exact ho⟩
      -- the first of them is kept
      have hfirst : ∃ j, j < (a.ws ++ b.ws).length ∧ kp T j = true ∧ ob (g T j).1 = (k : Int) := by
        obtain ⟨i, hi, ho⟩ := hex
        have : ∀ m i, i ≤ m → i < (a.ws ++ b.ws).length → ob (g T i).1 = (k : Int) → ∃ j, j < (a.ws ++ b.ws).length ∧ kp T j = true ∧ ob (g T j).1 = (k : Int) := by
          intro m
          induction m with
          | zero => exact fun i h1 h2 h3 => ⟨i, h2, by have : i = 0 := by omega
                                                       subst this
                                                       rfl, h3⟩
          | succ m ih =>
            intro i h1 h2 h3
            by_cases hk : kp T i = true
            · exact ⟨i, h2, hk, h3⟩
            · unfold kp at hk
              by_cases h0 : 0 < i
              · rw [decide_eq_true h0, Bool.true_and] at hk
                have he : ob (g T i).1 = ob (g T (i - 1)).1 := by simpa using hk
                exact ih (i - 1) (by omega) (by omega) (by rw [← he]; exact h3)
              · rw [decide_eq_false h0] at hk
                exact absurd rfl hk
        exact this i i (Nat.le_refl _) hi ho
      obtain ⟨j, j1, j2, j3⟩ := hfirst
      have hp := pick_of ha hb hs hr j1 j2 j3
      rw [k2] at hp
      injection hp with hx _
      subst hx
      refine ⟨⟨g T j, (kept_mem T _ _).2 ⟨j, j1, j2, rfl⟩, rfl⟩, ?_⟩
      obtain ⟨h0, h1⟩ := hin j j1
      unfold inOf
      rw [decide_eq_true ⟨h0, h1⟩, Bool.true_and]
      have : (g T j).1.2.2.1.toNat = k := by
        have : ob (g T j).1 = (k : Int) := j3
        show (ob (g T j).1).toNat = k
        omega
      rw [this, k3]
      rfl
end Nt

/-! ### The thrifty start -/
theorem fmd_rise {l : List (Int × Int)} (h : Ve.fmd l = true) : (∀ s ∈ l, St.rgt s.1 s.2 = true) ∧ l.Pairwise (fun s t => s.2 < t.2) := by
  have h1 := (Ve.fmd_iff l).1 h
  have hg : ∀ i (hi : i < l.length), l.getD i (0, 0) = l[i] := fun i hi => by rw [List.getD_eq_getElem?_getD, List.getElem?_eq_getElem hi]; rfl
  refine ⟨fun s hs => ?_, ?_⟩
  · obtain ⟨i, hi, rfl⟩ := List.mem_iff_getElem.1 hs
    have := (h1 i hi).1
    rw [hg i hi] at this
    exact this
  · have up : ∀ d i (hi : i + d + 1 < l.length), (l[i]'(by omega)).2 < l[i + d + 1].2 := by
      intro d
      induction d with
      | zero =>
        intro i hi
        have := (h1 (i + 1) hi).2 (by omega)
        rw [show i + 1 - 1 = i from by omega, hg i (by omega), hg (i + 1) hi] at this
        exact this
      | succ d ih =>
        intro i hi
        have h2 := ih i (by omega)
        have h3 := (h1 (i + d + 1 + 1) (by omega)).2 (by omega)
        rw [show i + d + 1 + 1 - 1 = i + d + 1 from by omega, hg (i + d + 1) (by omega), hg (i + d + 1 + 1) (by omega)] at h3
        have h4 : l[i + (d + 1) + 1] = l[i + d + 1 + 1] := rfl
        rw [h4]
        omega
    rw [List.pairwise_iff_getElem]
    intro i j hi hj hij
    have := up (j - i - 1) i (by omega)
    have e : i + (j - i - 1) + 1 = j := by omega
    simp only [e] at this
    exact this
theorem cnt_far {n : Nat} : ∀ (l : List (Int × Int)), (∀ s ∈ l, s.2 ≠ (n : Int)) → Ve.cnt l n = 0
  | [], _ => rfl
  | s :: r, h => by
    show (if St.rgt s.1 s.2 = true ∧ s.2 = (n : Int) then s.1 else Ve.cnt r n) = 0
    rw [if_neg (fun hh => h s (List.mem_cons_self ..) hh.2)]
    exact cnt_far r fun t ht => h t (List.mem_cons_of_mem _ ht)
theorem cnt_filter (q : Int × Int → Bool) (n : Nat) : ∀ (l : List (Int × Int)), (∀ s ∈ l, St.rgt s.1 s.2 = true) → l.Pairwise (fun s t => s.2 < t.2) → Ve.cnt (l.filter q) n = if q (Ve.cnt l n, (n : Int)) = true then Ve.cnt l n else 0
  | [], _, _ => by
    show (0 : Int) = if q ((0 : Int), (n : Int)) = true then 0 else 0
    split <;> rfl
  | s :: r, hr, hp => by
    obtain ⟨p1, p2⟩ := List.pairwise_cons.1 hp
    have ih := cnt_filter q n r (fun t ht => hr t (List.mem_cons_of_mem _ ht)) p2
    have hc : Ve.cnt (s :: r) n = if St.rgt s.1 s.2 = true ∧ s.2 = (n : Int) then s.1 else Ve.cnt r n := rfl
    have hrs := hr s (List.mem_cons_self ..)
    by_cases e : s.2 = (n : Int)
    · have hc' : Ve.cnt (s :: r) n = s.1 := by rw [hc]; exact if_pos ⟨hrs, e⟩
      rw [hc']
      have hs : (s.1, (n : Int)) = s := by rw [← e]
      rw [hs]
      by_cases hq : q s = true
      · rw [List.filter_cons_of_pos hq, if_pos hq]
        show (if St.rgt s.1 s.2 = true ∧ s.2 = (n : Int) then s.1 else Ve.cnt (r.filter q) n) = s.1
        rw [if_pos ⟨hrs, e⟩]
      · rw [List.filter_cons_of_neg hq, if_neg hq]
        refine cnt_far _ fun t ht => ?_
        have := p1 t (List.mem_filter.1 ht).1
        omega
    · have hc' : Ve.cnt (s :: r) n = Ve.cnt r n := by rw [hc]; exact if_neg (fun h => e h.2)
      rw [hc']
      by_cases hq : q s = true
      · rw [List.filter_cons_of_pos hq]
        show (if St.rgt s.1 s.2 = true ∧ s.2 = (n : Int) then s.1 else Ve.cnt (r.filter q) n) = _
        rw [if_neg (fun h => e h.2)]
        exact ih
      · rw [List.filter_cons_of_neg hq]
        exact ih
theorem dev_thrifty {a b : Note} (ha : Nt.fmd a = true) (hb : Nt.fmd b = true) : Ve.joinL [a.s, b.s.filter fun s => !hasOf a.e s.1 s.2] = Ve.ofL (Nt.thrifty a b) := by
  unfold Nt.fmd at ha hb
  simp only [Bool.and_eq_true] at ha hb
  obtain ⟨_, _, hcov, _⟩ := ha
  obtain ⟨hbs, _⟩ := hb
  obtain ⟨r1, r2⟩ := fmd_rise hbs
  unfold Ve.joinL
  refine Ve.ofL_ext fun i hi => ?_
  rw [Ve.jn_two, cnt_filter _ i b.s r1 r2]
  have h1 := (Ve.cov_iff _ _).1 hcov i hi
  have h2 := Ve.cnt_nonneg a.s i
  have h3 := Ve.cnt_nonneg b.s i
  unfold Nt.thrifty
  have hco : countOf a.e (i : Int) = Ve.cnt a.e i := by unfold countOf; rw [if_pos (by omega)]; rfl
  by_cases h0 : Ve.cnt b.s i = 0
  · rw [h0]
    (repeat' split) <;> omega
  · have hrg : St.rgt (Ve.cnt b.s i) (i : Int) = true := Ve.rgt_of _ i (by omega) hi
    unfold hasOf
    simp only [hrg, hco, Bool.true_and]
    by_cases h4 : Ve.cnt b.s i ≤ Ve.cnt a.e i
    · rw [decide_eq_true h4]
      simp only [Bool.not_true]
      (repeat' split) <;> first | omega | contradiction
    · rw [decide_eq_false h4]
      simp only [Bool.not_false]
      (repeat' split) <;> first | omega | contradiction

end Go.Proofs.Ytoaclofobfaflaa
namespace Go.Proofs.Ytoaclofobfaflaa
open Go.RowKit

/-- A function value that says of each element whether p holds of it, in every world that is as wb was below. -/
def PredS (wb : World) (fn : Nat) (lb : Array Value) (p : (Int × Int) → Bool) : Prop := ∀ (W : World) (x : (Int × Int)), Below wb.heap.size wb W → Calls Try.prog fn (#[.agg #[.int .i64 x.1, .int .i64 x.2]] ++ lb) W fun e w' => e = .returned (.bool (p x)) ∧ Below W.heap.size W w'
theorem PredS.later {wb w' : World} {fn : Nat} {lb : Array Value} {p : (Int × Int) → Bool} (h : PredS wb fn lb p) (hb : Below wb.heap.size wb w') : PredS w' fn lb p := fun W x hW => h W x (below_on hb hW)

set_option maxHeartbeats 1600000 in
theorem indexFuncS_any (p : (Int × Int) → Bool) (fn : Nat) (lb : Array Value) (eg : ∀ args w, (callFunc fn args).run Try.prog w = .ok (.enter fn args) w) (wb : World) (b off cap : Nat) (D : List (Int × Int)) (w : World)
    (hp : PredS wb fn lb p) (hB : Below wb.heap.size wb w) (hlt : b < w.heap.size) (hL : Lay w b off (stCells D)) (hmax : D.length ≤ 9223372036854775807) (r : Int)
    (hr : (r = -1 ∧ ∀ t (h : t < D.length), p D[t] = false) ∨ ∃ t, ∃ h : t < D.length, r = (t : Int) ∧ p D[t] = true ∧ ∀ u (h : u < t), p (D[u]'(by omega)) = false) :
    Calls Try.prog 96 #[.slice (some ⟨b, off, none⟩) D.length cap, .func (.func fn) #[] lb] w fun e w' => e = .returned (.int .i64 r) ∧ Below w.heap.size w w' := by
  have HL := Lib.hid hL
  have HP := Lib.hid hp
  have HR := Lib.hid hr
  have HB := Lib.hid hB
  clear hL hp hr hB
  go_enter Try.func96, Try.ntmps96
  go_wp2_with fail
  go_loopw [5, 8] (fun _ s8 wr => ∃ k : Nat, k ≤ D.length ∧ s8 = .int .i64 (k : Int) ∧ (∀ u, u < k → ∀ h : u < D.length, p D[u] = false) ∧ Below w.heap.size w wr) (fun _ s8 _ => D.length - (intOf s8).toNat)
  case atStart => exact ⟨0, Nat.zero_le _, rfl, (fun u hu => by omega), Below.refl _ _⟩
  case round =>
    obtain ⟨k, hk, rfl, hall, hbw⟩ := hrel
    have HALL := Lib.hid hall
    clear hall
    by_cases hlt2 : k < D.length
    · have hi0 : (0 : Int) ≤ (k : Int) := by omega
      have hi1 : (k : Int) < (D.length : Int) := by omega
      obtain ⟨x, hx⟩ : ∃ x, D[k] = x := ⟨_, rfl⟩
      have hx2 : D[k]? = some x := by rw [List.getElem?_eq_getElem hlt2, hx]
      obtain ⟨g0, g1⟩ := st_get D x k hx2
      have L2 := HL.out.later hlt hbw
      have e0 := (L2 _ _ g0).1
      have e1 := (L2 _ _ g1).1
      rw [← Nat.add_assoc] at e1
      have cl := HP.out wr x (below_on HB.out hbw)
      have hpx : p D[k] = p x := by rw [hx]
      obtain ⟨px, hpxx⟩ : ∃ px, p x = px := ⟨_, rfl⟩
      rw [hpxx] at cl hpx
      obtain ⟨x1, x2⟩ := x
      have CL := Lib.hid cl
      have HX := Lib.hid hpx
      clear cl hpx hx hx2 hpxx L2 g0 g1
      cases px with
      | true =>
        go_wp2_with (go_at_fn fn; refine CL.out.mono ?_; rintro e w1 ⟨rfl, b1⟩)
        go_ret
        have hrk : r = (k : Int) := by
          rcases HR.out with ⟨_, h2⟩ | ⟨t, ht, h1, h2, h3⟩
          · have := h2 k hlt2; rw [HX.out] at this; cases this
          · rw [h1]
            rcases Nat.lt_trichotomy t k with h4 | h4 | h4
            · have := HALL.out t h4 ht; rw [h2] at this; cases this
            · rw [h4]
            · have := h3 k h4; rw [HX.out] at this; cases this
        exact ⟨by rw [hrk]; rfl, below_on hbw b1⟩
      | false =>
        go_wp2_with (go_at_fn fn; refine CL.out.mono ?_; rintro e w1 ⟨rfl, b1⟩)
        go_roundw
        case rel => exact ⟨k + 1, by omega, by go_num, (fun u hu h => by
          by_cases e : u = k
          · subst e; exact HX.out
          · exact HALL.out u (by omega) h), below_on hbw b1⟩
        case measure => simp [intOf]; omega
    · have hkl : k = D.length := by omega
      subst hkl
      go_wp2
      go_ret
      have hrk : r = -1 := by
        rcases HR.out with ⟨h1, _⟩ | ⟨t, ht, h1, h2, h3⟩
        · exact h1
        · have := HALL.out t ht ht; rw [h2] at this; cases this
      exact ⟨by rw [hrk]; rfl, hbw⟩

theorem zeroCellsS (m : Nat) : (Builtin.zeroCells (Value.cells (.agg #[.int .i64 0, .int .i64 0])) m).toList.length = m * 2 ∧ ∀ u ∈ (Builtin.zeroCells (Value.cells (.agg #[.int .i64 0, .int .i64 0])) m).toList, u.oneCell' = true := by
  refine ⟨by rw [Array.length_toList, size_zeroCells]; rfl, fun u hu => ?_⟩
  unfold Builtin.zeroCells at hu
  simp [Value.cells] at hu
  obtain ⟨a, _, rfl⟩ := hu
  have h4 : a % 2 < 2 := Nat.mod_lt _ (by omega)
  rcases (show a % 2 = 0 ∨ a % 2 = 1 from by omega) with h | h <;> simp [h, Value.oneCell']

set_option maxRecDepth 100000 in
set_option maxHeartbeats 6400000 in
/-- DeleteFunc: the kept ones, in their order, at the head of the same memory. -/
theorem deleteFuncS_any (p : (Int × Int) → Bool) (fn : Nat) (lb : Array Value) (eg : ∀ args w, (callFunc fn args).run Try.prog w = .ok (.enter fn args) w) (wb : World) (b off cap : Nat) (D : List (Int × Int)) (w : World)
    (hp : PredS wb fn lb p) (hB : Below wb.heap.size wb w) (hlt : b < w.heap.size) (hbb : wb.heap.size ≤ b) (hL : Lay w b off (stCells D)) (hcap : D.length ≤ cap) (hmax : cap ≤ 9223372036854775807) :
    Calls Try.prog 81 #[.slice (some ⟨b, off, none⟩) D.length cap, .func (.func fn) #[] lb] w fun e w' => e = .returned (.slice (some ⟨b, off, none⟩) (D.filter fun x => !p x).length cap) ∧ Lay w' b off (stCells (D.filter fun x => !p x)) ∧ Below wb.heap.size wb w' := by
  have hfind : (∀ t (h : t < D.length), p D[t] = false) ∨ ∃ t, ∃ h : t < D.length, p D[t] = true ∧ ∀ u (h : u < t), p (D[u]'(by omega)) = false := by
    cases hf : D.findIdx? p with
    | none =>
      rw [List.findIdx?_eq_none_iff] at hf
      exact .inl fun t h => by simpa using hf D[t] (List.getElem_mem h)
    | some t =>
      rw [List.findIdx?_eq_some_iff_getElem] at hf
      obtain ⟨h1, h2, h3⟩ := hf
      exact .inr ⟨t, h1, h2, fun u hu => by simpa using h3 u hu⟩
  rcases hfind with hall | ⟨t0, ht0, hyes, hno⟩
  · have hfil : (D.filter fun x => !p x) = D := List.filter_eq_self.2 fun x hx => by
      obtain ⟨t, ht, rfl⟩ := List.mem_iff_getElem.1 hx
      rw [hall t ht]; rfl
    rw [hfil]
    have N := Lib.hid (indexFuncS_any p fn lb eg wb b off cap D w hp hB hlt hL (by omega) (-1) (.inl ⟨rfl, hall⟩))
    have HL := Lib.hid hL
    clear hL hp hall hfil
    go_enter Try.func81, Try.ntmps81
    go_wp2_with fail
    refine N.out.mono ?_
    rintro e w1 ⟨rfl, b1⟩
    go_wp2
    go_ret
    exact ⟨rfl, HL.out.later hlt b1, below_on hB b1⟩
  · have N := Lib.hid (indexFuncS_any p fn lb eg wb b off cap D w hp hB hlt hL (by omega) (t0 : Int) (.inr ⟨t0, ht0, rfl, hyes, hno⟩))
    have HL := Lib.hid hL
    have HP := Lib.hid hp
    have HS := Lib.hid (KeptL.start (q := fun x => !p x) ht0 (fun u hu => by show (!p D[u]) = true; rw [hno u hu]; rfl) (by show (!p D[t0]) = false; rw [hyes]; rfl))
    have HBW := Lib.hid hB
    clear hL hp hyes hno hB
    have ht1 : ((t0 : Int) == -1) = false := beq_eq_false_iff_ne.2 (by omega)
    go_enter Try.func81, Try.ntmps81
    go_wp2_with fail
    refine N.out.mono ?_
    rintro e w1 ⟨rfl, b1⟩
    go_wp2_with fail
    go_loopw [5, 6, 7] (fun s5 s6 _ wr => ∃ (i j : Nat) (Dk : List (Int × Int)), s5 = .int .i64 (i : Int) ∧ s6 = .int .i64 (j : Int) ∧ KeptL (fun x => !p x) D j i Dk ∧ Lay wr b off (stCells Dk) ∧ b < wr.heap.size ∧ Below wb.heap.size wb wr) (fun _ s6 _ _ => D.length - (intOf s6).toNat)
    case atStart => exact ⟨t0, t0 + 1, D, rfl, by go_num, HS.out, HL.out.later hlt b1, Nat.lt_of_lt_of_le hlt b1.size, below_on HBW.out b1⟩
    case round =>
      obtain ⟨i, j, Dk, rfl, rfl, hK, hLk, hlk, hbk⟩ := hrel
      have hij := hK.lt
      have hjD := hK.le
      have hlD := hK.len
      have KK := Lib.hid hK
      have LK := Lib.hid hLk
      have HBK := Lib.hid hbk
      clear hK hLk hbk
      by_cases hlt2 : j < D.length
      · have hi0 : (0 : Int) ≤ (j : Int) := by omega
        have hi1 : (j : Int) < (D.length : Int) := by omega
        have hi2 : (0 : Int) ≤ (i : Int) := by omega
        have hi3 : (i : Int) < (D.length : Int) := by omega
        obtain ⟨x, hx⟩ : ∃ x, D[j] = x := ⟨_, rfl⟩
        have hx2 : Dk[j]? = some x := by rw [KK.out.get hlt2, hx]
        obtain ⟨g0, g1⟩ := st_get Dk x j hx2
        have e0 := (LK.out _ _ g0).1
        have e1 := (LK.out _ _ g1).1
        rw [← Nat.add_assoc] at e1
        have hkp := fun h => KK.out.keep (j := j) hlt2 h
        have hsk := fun h => KK.out.skip (j := j) hlt2 h
        rw [hx] at hkp hsk
        obtain ⟨px, hpxx⟩ : ∃ px, p x = px := ⟨_, rfl⟩
        obtain ⟨W1, hW1⟩ : ∃ W1, wr.alloc (.cells #[.int .i64 x.1, .int .i64 x.2] 33) = W1 := ⟨_, rfl⟩
        have hbn : Below wr.heap.size wr W1 := by rw [← hW1]; exact below_new (Below.refl _ _) _
        have hB1 : Blk W1 wr.heap.size 33 #[.int .i64 x.1, .int .i64 x.2] := by rw [← hW1]; exact Blk.new wr _ _
        have cl := HP.out W1 x (below_on HBK.out hbn)
        have hset := st_set Dk x i (by omega)
        rw [hpxx] at cl
        have hkp2 : px = false → KeptL (fun x => !p x) D (j + 1) (i + 1) (Dk.set i x) := fun h => hkp (by show (!p x) = true; rw [hpxx, h]; rfl)
        have hsk2 : px = true → KeptL (fun x => !p x) D (j + 1) i Dk := fun h => hsk (by show (!p x) = false; rw [hpxx, h]; rfl)
        obtain ⟨old, hold⟩ : ∃ old, Dk[i]? = some old := ⟨Dk[i], List.getElem?_eq_getElem (by omega)⟩
        obtain ⟨og0, og1⟩ := st_get Dk old i hold
        have LK1 := LK.out.later hlk hbn
        have hlk1 : b < W1.heap.size := Nat.lt_of_lt_of_le hlk hbn.size
        have CL := Lib.hid cl
        have HB1 := Lib.hid hB1
        have HLK1 := Lib.hid LK1
        have HW1 := Lib.hid hW1
        have HK2 := Lib.hid hkp2
        have HS2 := Lib.hid hsk2
        have HSET := Lib.hid hset
        have OG0 := Lib.hid og0
        have OG1 := Lib.hid og1
        clear cl hB1 LK1 hW1 hkp2 hsk2 hset hkp hsk hpxx hx hx2 hold g0 g1 og0 og1
        obtain ⟨x1, x2⟩ := x
        have q := HB1.out
        have q0 := q.cell (i := 0) rfl
        have q1 := q.cell (i := 1) rfl
        clear q
        cases px with
        | true =>
          go_wp2_with fail
          rw [HW1.out]
          go_wp2_with (go_at_fn fn; refine CL.out.mono ?_; rintro e w2 ⟨rfl, b2⟩)
          go_roundw
          case rel => exact ⟨i, j + 1, Dk, rfl, by go_num, HS2.out (by first | rfl | trivial), HLK1.out.later hlk1 b2, Nat.lt_of_lt_of_le hlk1 b2.size, below_on HBK.out (below_on hbn b2)⟩
          case measure => simp [intOf]; omega
        | false =>
          go_wp2_with fail
          rw [HW1.out]
          go_wp2_with fail
          refine CL.out.mono ?_
          rintro e w2 ⟨rfl, b2⟩
          have L2 := HLK1.out.later hlk1 b2
          have r0 := cell_later b2 q0
          have r1 := cell_later b2 q1
          have u0 := (L2 _ _ OG0.out).1
          have f0 := (L2 _ _ OG0.out).2
          have u1 := (L2 _ _ OG1.out).1
          have f1 := (L2 _ _ OG1.out).2
          rw [← Nat.add_assoc] at u1 f1
          have HL2 := Lib.hid L2
          clear L2 q0 q1
          go_wp2_with fail
          go_roundw
          case rel =>
            have h := ((HL2.out.put (i * 2) (.int .i64 (x1, x2).1)).put (i * 2 + 1) (.int .i64 (x1, x2).2))
            rw [HSET.out] at h
            exact ⟨i + 1, j + 1, _, by go_num, by go_num, HK2.out (by first | rfl | trivial), h, by simpa using Nat.lt_of_lt_of_le hlk1 b2.size, ((below_on HBK.out (below_on hbn b2)).setCell (p := ⟨b, _, none⟩) hbb _).setCell (p := ⟨b, _, none⟩) hbb _⟩
          case measure => simp [intOf]; omega
      · have hkl : j = D.length := by omega
        subst hkl
        have hin : i < D.length := by omega
        have hlen : (stCells Dk).length = D.length * 2 := by rw [stCells_length, hlD]
        have hzl := zeroCellsS (D.length - i)
        have hcl : ∀ ty, (Builtin.clear_ #[22] ty #[.slice (some ⟨b, off + i * 2, none⟩) (D.length - i) (cap - i)]).run Try.prog wr = .ok (.tuple #[]) (wr.setCells b (off + i * 2) (Builtin.zeroCells (Value.cells (.agg #[.int .i64 0, .int .i64 0])) (D.length - i)).toList) := fun ty =>
          run_clear_cells wr 22 33 ty (.agg #[.int .i64 0, .int .i64 0]) Try.underlying22 Try.zeroValue33 b (off + i * 2) (D.length - i) (cap - i) (by omega) hzl.2
            (fun t ht => by rw [hzl.1] at ht; have hx : i * 2 + t < (stCells Dk).length := Nat.lt_of_lt_of_eq (by omega) hlen.symm; rw [Nat.add_assoc, (LK.out _ _ (List.getElem?_eq_getElem hx)).1]; rfl)
            (fun t ht => by rw [hzl.1] at ht; have hx : i * 2 + t < (stCells Dk).length := Nat.lt_of_lt_of_eq (by omega) hlen.symm; rw [Nat.add_assoc]; exact (LK.out _ _ (List.getElem?_eq_getElem hx)).2)
        have hdone := KK.out.done
        have HD := Lib.hid hdone
        clear hdone hlen hzl
        have hi2 : (0 : Int) ≤ (i : Int) := by omega
        have hi3 : (i : Int) ≤ (D.length : Int) := by omega
        have hi4 : (D.length : Int) ≤ (cap : Int) := by omega
        go_wp2
        go_ret
        refine ⟨by rw [← HD.out.1]; rfl, ?_, below_cells hbb _ _ _ HBK.out⟩
        refine Lay.behind ?_ (i * 2) (by rw [stCells_length, ← HD.out.1]; exact Nat.le_refl _) _
        rw [← HD.out.2]
        exact LK.out.sub (st_take Dk i)

set_option maxHeartbeats 800000 in
theorem indexFuncS_nil (p : Fn) (ca lb : Array Value) (w : World) : Calls Try.prog 96 #[.slice none 0 0, .func p ca lb] w fun e w' => e = .returned (.int .i64 (-1)) ∧ Below w.heap.size w w' := by
  go_enter Try.func96, Try.ntmps96
  go_wp2_with fail
  go_loopw [8] (fun s8 wr => s8 = .int .i64 0 ∧ Below w.heap.size w wr) (fun _ _ => 0)
  case atStart => exact ⟨rfl, Below.refl _ _⟩
  case round =>
    obtain ⟨rfl, hb⟩ := hrel
    go_wp2
    go_ret
    exact ⟨rfl, hb⟩
set_option maxHeartbeats 800000 in
theorem deleteFuncS_nil (p : Fn) (ca lb : Array Value) (w : World) : Calls Try.prog 81 #[.slice none 0 0, .func p ca lb] w fun e w' => e = .returned (.slice none 0 0) ∧ Below w.heap.size w w' := by
  have N := Lib.hid (indexFuncS_nil p ca lb w)
  go_enter Try.func81, Try.ntmps81
  go_wp2_with fail
  refine N.out.mono ?_
  rintro e w1 ⟨rfl, b1⟩
  go_wp2
  go_ret
  exact ⟨rfl, b1⟩


end Go.Proofs.Ytoaclofobfaflaa
namespace Go.Proofs.Ytoaclofobfaflaa
open Go.RowKit Fb

set_option maxHeartbeats 1600000 in
theorem insertion_nil (fv : Value) (w : World) : Calls Try.prog 101 #[.slice none 0 0, .int .i64 0, .int .i64 0, fv] w fun en w' => en = .returned (.tuple #[]) ∧ Below w.heap.size w w' := by
  go_enter Try.func101, Try.ntmps101
  go_wp2_with fail
  refine wp_loop_rounds 1 ?_
  rw [rounds_succ]
  go_wp2
  go_end0
  exact ⟨rfl, Below.refl _ _⟩
set_option maxHeartbeats 1600000 in
theorem stable_nil (fv : Value) (w : World) : Calls Try.prog 98 #[.slice none 0 0, .int .i64 0, fv] w fun en w' => en = .returned (.tuple #[]) ∧ Below w.heap.size w w' := by
  go_enter Try.func98, Try.ntmps98
  go_wp2_with fail
  refine wp_loop_rounds 1 ?_
  rw [rounds_succ]
  go_wp2_with fail
  refine (insertion_nil _ _).mono ?_
  rintro en w1 ⟨rfl, b1⟩
  go_wp2_with fail
  refine wp_loop_rounds 1 ?_
  rw [rounds_succ]
  go_wp2
  go_end0
  exact ⟨rfl, b1⟩
set_option maxHeartbeats 800000 in
theorem sortStable_nil (fv : Value) (w : World) : Calls Try.prog 85 #[.slice none 0 0, fv] w fun en w' => en = .returned (.tuple #[]) ∧ Below w.heap.size w w' := by
  go_enter Try.func85, Try.ntmps85
  go_wp2_with fail
  refine (stable_nil _ _).mono ?_
  rintro en w1 ⟨rfl, b1⟩
  go_wp2
  go_end0
  exact ⟨rfl, b1⟩
set_option maxHeartbeats 800000 in
theorem compact_nil (fv : Value) (w : World) : Calls Try.prog 90 #[.slice none 0 0, fv] w fun en w' => en = .returned (.slice none 0 0) ∧ Below w.heap.size w w' := by
  go_enter Try.func90, Try.ntmps90
  go_wp2
  go_ret
  exact ⟨rfl, Below.refl _ _⟩

set_option maxHeartbeats 3200000 in
theorem newest_any (A B : Option Addr) (ca cb : Nat) (la lb : List Wr) (w : World) (hsz : (la.length + lb.length) * 32 ≤ 140737488355328) (h1 : OneW w A ca la) (h2 : OneW w B cb lb) :
    Calls Try.prog 61 #[.slice A la.length ca, .slice B lb.length cb] w fun e w' => ∃ T, So.Seg 0 (la ++ lb).length (So.tag (la ++ lb)) T ∧ So.Srt T 0 (la ++ lb).length ∧ AnsW (So.row (So.comp T)) w e w' := by
  have b0 := below_new (Below.refl w.heap.size w) (.cells #[.slice A la.length ca, .slice B lb.length cb] 24)
  have hB := Blk.new w 24 #[.slice A la.length ca, .slice B lb.length cb]
  have N := Lib.hid (concat_any w.heap.size A B ca cb la lb _ hB (h1.later b0) (h2.later b0) hsz)
  have hll : (la ++ lb).length = la.length + lb.length := List.length_append
  have hbd : (la ++ lb).length ≤ 2305843009213693951 := by omega
  obtain ⟨l, hl⟩ : ∃ l, la ++ lb = l := ⟨_, rfl⟩
  rw [hl] at N hbd ⊢
  clear hB h1 h2 hll hl
  go_enter Try.func61, Try.ntmps61
  go_wp2_with fail
  refine N.out.mono ?_
  rintro e w1 ⟨v, rfl, ho, b1⟩
  have bb1 := below_on b0 b1
  have hz : w.heap.size ≤ (w.alloc (.cells #[.slice A la.length ca, .slice B lb.length cb] 24)).heap.size := b0.size
  rcases ho.2 with ⟨rfl, hl0⟩ | ⟨g, cap, cur, rfl, hg, hh, hc1, hc2, _, _⟩
  · have hls : l = [] := List.eq_nil_of_length_eq_zero hl0
    clear ho
    subst hls
    go_wp2_with fail
    refine (sortStable_nil _ _).mono ?_
    rintro e w2 ⟨rfl, b2⟩
    go_wp2_with fail
    refine (compact_nil _ _).mono ?_
    rintro e w3 ⟨rfl, b3⟩
    go_wp2
    go_ret
    exact ⟨[], So.Seg.refl _ _ _, fun i j _ h2 h3 => by simp at h3, none, 0, rfl, OneW.nil, below_on bb1 (below_on b2 b3)⟩
  · have hrow : RowIs w g 0 (So.tag l) w1 := ⟨by rw [So.row_tag]; exact Lay.of_own ho, Blk.lt hh, by omega, bb1⟩
    have htl := So.tag_len l
    have D := sortStable_any w g 0 cap (So.tag l) w1 hrow (by omega) (by omega) (So.up_tag l)
    rw [htl] at D
    have DD := Lib.hid D
    have HC := Lib.hid hc2
    have HTL := Lib.hid htl
    have hcm : cap ≤ 9223372036854775807 := by unfold maxLen at hc2; exact hc2
    clear ho hh hc2 D hrow htl
    go_wp2_with fail
    refine DD.out.mono ?_
    rintro e w2 ⟨rfl, T, hr2, hs2, hsr2⟩
    have hlT : T.length = l.length := hs2.len.trans HTL.out
    have E := compact_any w g 0 cap T w2 hr2 (by omega) hcm
    rw [hlT] at E
    have EE := Lib.hid E
    have HS := Lib.hid hs2
    have HT := Lib.hid hsr2
    have HLT := Lib.hid hlT
    clear hr2 hs2 hsr2 E hlT
    go_wp2_with fail
    refine EE.out.mono ?_
    rintro e w3 ⟨rfl, hr3⟩
    have HR3 := Lib.hid hr3
    clear hr3
    go_wp2
    go_ret
    refine ⟨T, HS.out, HT.out, some ⟨g, 0, none⟩, cap, by rw [So.row_len]; rfl, OneW.of_lay HR3.out.lay ?_ HC.out, HR3.out.below⟩
    rw [So.row_len]
    have := So.kept_len T T.length
    have h3 := HLT.out
    show (So.kept T T.length).length ≤ cap
    omega

set_option maxHeartbeats 800000 in
/-- The closure: does a's End have the stamp? -/
theorem thrifty1_any (g : Nat) (S E B V : Option Addr) (cs ce cb cv : Nat) (n : Note) (x : Int × Int) (W : World) (hB : Blk W g 26 (noteCells S E B V cs ce cb cv n)) (h : OneL W E ce n.e) :
    Calls Try.prog 82 #[.agg #[.int .i64 x.1, .int .i64 x.2], .pointer (some ⟨g, 0, none⟩)] W (Says (.bool (hasOf n.e x.1 x.2)) W) := by
  obtain ⟨x1, x2⟩ := x
  obtain ⟨W1, hW1⟩ : ∃ W1, W.alloc (.cells #[.int .i64 x1, .int .i64 x2] 33) = W1 := ⟨_, rfl⟩
  have hbn : Below W.heap.size W W1 := by rw [← hW1]; exact below_new (Below.refl _ _) _
  have hB1 : Blk W1 W.heap.size 33 #[.int .i64 x1, .int .i64 x2] := by rw [← hW1]; exact Blk.new W _ _
  have g0 := hB1.cell (i := 0) rfl
  have g1 := hB1.cell (i := 1) rfl
  have gb := (note_cells (hB.later hbn)).2.1
  have N := Lib.hid (has_any E ce n.e x1 x2 W1 (h.later hbn))
  have HW1 := Lib.hid hW1
  have g0' := g0
  have g1' := g1
  have gb' := gb
  rw [← hW1] at g0' g1' gb'
  clear hW1 hB1 hB h
  go_enter Try.func82, Try.ntmps82
  go_wp2_with fail
  rw [HW1.out]
  refine N.out.mono ?_
  rintro e w1 ⟨rfl, b1⟩
  go_wp2
  go_ret
  exact ⟨rfl, below_on hbn b1⟩

set_option maxHeartbeats 3200000 in
theorem thrifty_any (S E B V S' E' B' V' : Option Addr) (cs ce cb cv cs' ce' cb' cv' : Nat) (n m : Note) (w : World) (hl : m.s.length * 16 ≤ 140737488355328) (h1 : NoteAt w S E B V cs ce cb cv n) (h2 : NoteAt w S' E' B' V' cs' ce' cb' cv' m) :
    Calls Try.prog 59 #[.agg (noteCells S E B V cs ce cb cv n), .agg (noteCells S' E' B' V' cs' ce' cb' cv' m)] w (Ans (Ve.joinL [n.s, m.s.filter fun s => !hasOf n.e s.1 s.2]) w) := by
  obtain ⟨W, hW⟩ : ∃ W, (w.alloc (.cells (noteCells S E B V cs ce cb cv n) 26)).alloc (.cells (noteCells S' E' B' V' cs' ce' cb' cv' m) 26) = W := ⟨_, rfl⟩
  have hb0 : Below w.heap.size w W := by rw [← hW]; exact below_new (below_new (Below.refl _ _) _) _
  have hB0 : Blk W w.heap.size 26 (noteCells S E B V cs ce cb cv n) := by rw [← hW]; exact (Blk.new w _ _).alloc _
  have hB1 : Blk W (w.heap.size + 1) 26 (noteCells S' E' B' V' cs' ce' cb' cv' m) := by
    rw [← hW, show w.heap.size + 1 = (w.alloc (.cells (noteCells S E B V cs ce cb cv n) 26)).heap.size from by simp]
    exact Blk.new _ _ _
  have c0 := (note_cells hB0).1
  have d0 := (note_cells hB1).1
  have c0' := c0
  have d0' := d0
  rw [← hW] at c0' d0'
  have HS := Lib.hid (h1.hs.later hb0)
  have N := Lib.hid (cloneS_any S' cs' m.s W hl (h2.hs.later hb0))
  have HP := Lib.hid (show PredS W 82 #[.pointer (some ⟨w.heap.size, 0, none⟩)] (fun s => hasOf n.e s.1 s.2) from fun W' x hb => thrifty1_any w.heap.size S E B V cs ce cb cv n x W' (hB0.later hb) ((h1.he.later hb0).later hb))
  have HW := Lib.hid hW
  have eg : ∀ args w, (callFunc 82 args).run Try.prog w = .ok (.enter 82 args) w := enters_of Try.func82 (by kernel_rfl) rfl
  have EG := Lib.hid eg
  clear hW hB0 hB1 h1 h2 eg
  obtain ⟨F, hF⟩ : ∃ F, (m.s.filter fun s => !hasOf n.e s.1 s.2) = F := ⟨_, rfl⟩
  rw [hF]
  have HF := Lib.hid hF
  clear hF
  go_enter Try.func59, Try.ntmps59
  go_wp2_with fail
  rw [HW.out]
  refine N.out.mono ?_
  rintro e w1 ⟨v, rfl, ho, b1⟩
  rcases ho.2 with ⟨rfl, hl0⟩ | ⟨g, cap, cur, rfl, hg, hh, hc1, hc2, _, _⟩
  · have hms : m.s = [] := List.eq_nil_of_length_eq_zero hl0
    have hFn : F = [] := by rw [← HF.out, hms]; rfl
    clear ho
    subst hFn
    go_wp2_with fail
    refine (deleteFuncS_nil _ _ _ _).mono ?_
    rintro e w2 ⟨rfl, b2⟩
    have bb2 := below_on b1 b2
    have x0 := cell_later bb2 c0
    have hn := Blk.new w2 22 #[.slice S n.s.length cs, .slice none 0 0]
    have b3 := below_new (Below.refl w2.heap.size w2) (.cells #[.slice S n.s.length cs, .slice none 0 0] 22)
    have hr := rows_two (l := n.s) (r := []) hn ((HS.out.later bb2).later b3) (OneL.nil)
    have J := Lib.hid (join_any (some ⟨w2.heap.size, 0, none⟩) 2 [n.s, []] _ (by simp) hr)
    clear hn hr
    go_wp2_with fail
    refine J.out.mono ?_
    rintro e w3 hg
    obtain ⟨A, c, rfl, ho, b4⟩ := hg.one
    have HO := Lib.hid ho
    clear ho hg
    go_wp2
    go_ret
    exact ⟨A, c, rfl, HO.out, below_on hb0 (below_on bb2 (below_on b3 b4))⟩
  · have hL := Lay.of_own ho
    have hglt : g < w1.heap.size := Blk.lt hh
    have D := deleteFuncS_any _ _ _ EG.out W g 0 cap m.s w1 HP.out b1 hglt hg hL hc1 (by unfold maxLen at hc2; exact hc2)
    rw [HF.out] at D
    have DD := Lib.hid D
    have hcm := Lib.hid hc2
    have hFl : F.length ≤ cap := by rw [← HF.out]; exact Nat.le_trans (List.length_filter_le _ _) hc1
    clear hL ho hh hc2 D
    go_wp2_with fail
    refine DD.out.mono ?_
    rintro e w2 ⟨rfl, hL2, b2⟩
    have x0 := cell_later b2 c0
    have hn := Blk.new w2 22 #[.slice S n.s.length cs, .slice (some ⟨g, 0, none⟩) F.length cap]
    have b3 := below_new (Below.refl w2.heap.size w2) (.cells #[.slice S n.s.length cs, .slice (some ⟨g, 0, none⟩) F.length cap] 22)
    have hr := rows_two (l := n.s) (r := F) hn ((HS.out.later b2).later b3) ((OneL.of_lay hL2 hFl hcm.out).later b3)
    have J := Lib.hid (join_any (some ⟨w2.heap.size, 0, none⟩) 2 [n.s, F] _ (by simp) hr)
    clear hn hr hL2
    go_wp2_with fail
    refine J.out.mono ?_
    rintro e w3 hg3
    obtain ⟨A, c, rfl, ho, b4⟩ := hg3.one
    have HO := Lib.hid ho
    clear ho hg3
    go_wp2
    go_ret
    exact ⟨A, c, rfl, HO.out, below_on hb0 (below_on b2 (below_on b3 b4))⟩

end Go.Proofs.Ytoaclofobfaflaa
namespace Go.Proofs.Ytoaclofobfaflaa
open Go.RowKit Fb

theorem ws_short {n : Note} (h : Nt.fmd n = true) : n.ws.length ≤ 256 := by
  obtain ⟨hg, hp⟩ := Nt.fmd_ws h
  have up : ∀ i (hi : i < n.ws.length), (i : Int) ≤ So.ob n.ws[i] := by
    intro i
    induction i with
    | zero => exact fun hi => (hg _ (List.getElem_mem hi)).2.1.1
    | succ i ih =>
      intro hi
      have h1 := ih (by omega)
      have h2 := (List.pairwise_iff_getElem.1 hp) i (i + 1) (by omega) hi (by omega)
      omega
  rcases Nat.lt_or_ge 256 n.ws.length with h1 | h1
  · have h2 := up 256 h1
    have h3 := (hg _ (List.getElem_mem h1)).2.1.2
    have h4 : So.ob n.ws[256] = n.ws[256].2.2.1 := rfl
    omega
  · exact h1
theorem st_short {l : List (Int × Int)} (h : Ve.fmd l = true) : l.length ≤ 64 := by
  obtain ⟨hg, hp⟩ := fmd_rise h
  have up : ∀ i (hi : i < l.length), (i : Int) ≤ l[i].2 := by
    intro i
    induction i with
    | zero =>
      intro hi
      have := hg _ (List.getElem_mem hi)
      unfold St.rgt at this
      have := of_decide_eq_true this
      omega
    | succ i ih =>
      intro hi
      have h1 := ih (by omega)
      have h2 := (List.pairwise_iff_getElem.1 hp) i (i + 1) (by omega) hi (by omega)
      omega
  rcases Nat.lt_or_ge 64 l.length with h1 | h1
  · have h2 := up 64 h1
    have h3 := hg _ (List.getElem_mem h1)
    unfold St.rgt at h3
    have := of_decide_eq_true h3
    omega
  · exact h1

set_option maxRecDepth 100000 in
set_option maxHeartbeats 12800000 in
theorem dnmerge_any (S E B V S' E' B' V' : Option Addr) (cs ce cb cv cs' ce' cb' cv' : Nat) (n m : Note) (w : World) (h1 : NoteAt w S E B V cs ce cb cv n) (h2 : NoteAt w S' E' B' V' cs' ce' cb' cv' m) :
    Calls Try.prog 27 #[.agg (noteCells S E B V cs ce cb cv n), .agg (noteCells S' E' B' V' cs' ce' cb' cv' m)] w (AnsNE (Nt.merge n m).1 (Nt.merge n m).2 w) := by
  obtain ⟨W, hW⟩ : ∃ W, ((w.alloc (.cells (noteCells S E B V cs ce cb cv n) 26)).alloc (.cells (noteCells S' E' B' V' cs' ce' cb' cv' m) 26)).alloc (.cells #[.slice none 0 0, .slice none 0 0, .slice none 0 0, .slice none 0 0] 26) = W := ⟨_, rfl⟩
  have hb0 : Below w.heap.size w W := by rw [← hW]; exact below_new (below_new (below_new (Below.refl _ _) _) _) _
  have hB0 : Blk W w.heap.size 26 (noteCells S E B V cs ce cb cv n) := by rw [← hW]; exact ((Blk.new w _ _).alloc _).alloc _
  have hB1 : Blk W (w.heap.size + 1) 26 (noteCells S' E' B' V' cs' ce' cb' cv' m) := by
    rw [← hW, show w.heap.size + 1 = (w.alloc (.cells (noteCells S E B V cs ce cb cv n) 26)).heap.size from by simp]
    exact (Blk.new _ _ _).alloc _
  have hB2 : Blk W (w.heap.size + 2) 26 #[.slice none 0 0, .slice none 0 0, .slice none 0 0, .slice none 0 0] := by
    rw [← hW, show w.heap.size + 2 = ((w.alloc (.cells (noteCells S E B V cs ce cb cv n) 26)).alloc (.cells (noteCells S' E' B' V' cs' ce' cb' cv' m) 26)).heap.size from by simp]
    exact Blk.new _ _ _
  obtain ⟨c0, c1, c2, c3⟩ := note_cells hB0
  obtain ⟨d0, d1, d2, d3⟩ := note_cells hB1
  have p0 := c0
  have p1 := c1
  have p2 := c2
  have p3 := c3
  rw [← hW] at p0 p1 p2 p3
  have HN := Lib.hid (h1.later hb0)
  have HM := Lib.hid (h2.later hb0)
  have HB2 := Lib.hid hB2
  have N0 := Lib.hid (fun wx (hb : Below W.heap.size W wx) => (show Calls Try.prog 12 #[.agg #[.slice S n.s.length cs, .slice E n.e.length ce, .slice B n.b.length cb, .slice V n.ws.length cv]] wx (Says (.bool (Nt.fmd n)) wx) from dnformed_any S E B V cs ce cb cv n wx (HN.out.later hb)))
  have N1 := Lib.hid (fun wx (hb : Below W.heap.size W wx) => (show Calls Try.prog 12 #[.agg #[.slice S' m.s.length cs', .slice E' m.e.length ce', .slice B' m.b.length cb', .slice V' m.ws.length cv']] wx (Says (.bool (Nt.fmd m)) wx) from dnformed_any S' E' B' V' cs' ce' cb' cv' m wx (HM.out.later hb)))
  have HT := Lib.hid (show Nt.merge n m = if Nt.fmd n = true ∧ Nt.fmd m = true then (⟨Ve.ofL (Nt.thrifty n m), Ve.joinL [n.e, m.e], Sp.joinS [n.b, m.b], Nt.mergedTo n m (Sp.joinS [n.b, m.b]) 256⟩, 0) else (noNote, 1) from rfl)
  have HFN := Lib.hid (show Nt.fmd n = true → Nt.fmd n = true from id)
  have HFM := Lib.hid (show Nt.fmd m = true → Nt.fmd m = true from id)
  obtain ⟨x0, hx0⟩ : ∃ x, Nt.fmd n = x := ⟨_, rfl⟩
  obtain ⟨x1, hx1⟩ : ∃ x, Nt.fmd m = x := ⟨_, rfl⟩
  rw [hx0] at N0 HT
  rw [hx1] at N1 HT
  have HX0 := Lib.hid hx0
  have HX1 := Lib.hid hx1
  have HW := Lib.hid hW
  have bb0 := Below.refl W.heap.size W
  clear hW hB0 hB1 hB2 h1 h2 hx0 hx1 HFN HFM
  cases x0 with
  | false =>
    have HT2 := Lib.hid (HT.out.trans (if_neg (fun h => by cases h.1)))
    go_enter Try.func27, Try.ntmps27
    go_wp2_with fail
    rw [HW.out]
    refine (N0.out _ bb0).mono ?_
    rintro e w1 ⟨rfl, b1⟩
    have bb1 := below_on bb0 b1
    have hq := HB2.out.later bb1
    obtain ⟨⟨z0, z1, z2, z3⟩, r0, r1, r2, r3⟩ := nt_cells hq
    have HQ := Lib.hid hq
    clear hq
    go_wp2
    refine bodyPost_ret (results_cell_tmp (p := 4) (t1 := 5) (ty := 26) rfl _ _ (w.heap.size + 2) 26 (noteCells none none none none 0 0 0 0 noNote) _ rfl (nt_puts HQ.out none none none none 0 0 0 0 noNote) Try.underlying26 rfl infoNt) rfl ?_
    rw [HT2.out]
    exact ⟨_, _, _, _, _, _, _, _, rfl, noNote_at _, below_puts (below_on hb0 bb1) (by omega) _ _ _ _⟩

  | true =>
  cases x1 with
  | false =>
    have HT2 := Lib.hid (HT.out.trans (if_neg (fun h => by cases h.2)))
    go_enter Try.func27, Try.ntmps27
    go_wp2_with fail
    rw [HW.out]
    refine (N0.out _ bb0).mono ?_
    rintro e w1 ⟨rfl, b1⟩
    have bb1 := below_on bb0 b1
    have y0' := cell_later bb1 d0
    have y1' := cell_later bb1 d1
    have y2' := cell_later bb1 d2
    have y3' := cell_later bb1 d3
    go_wp2_with fail
    refine (N1.out _ bb1).mono ?_
    rintro e w2 ⟨rfl, b2⟩
    have bb2 := below_on bb1 b2
    have hq := HB2.out.later bb2
    obtain ⟨⟨z0, z1, z2, z3⟩, r0, r1, r2, r3⟩ := nt_cells hq
    have HQ := Lib.hid hq
    clear hq
    go_wp2
    refine bodyPost_ret (results_cell_tmp (p := 4) (t1 := 5) (ty := 26) rfl _ _ (w.heap.size + 2) 26 (noteCells none none none none 0 0 0 0 noNote) _ rfl (nt_puts HQ.out none none none none 0 0 0 0 noNote) Try.underlying26 rfl infoNt) rfl ?_
    rw [HT2.out]
    exact ⟨_, _, _, _, _, _, _, _, rfl, noNote_at _, below_puts (below_on hb0 bb2) (by omega) _ _ _ _⟩

  | true =>
  have HT2 := Lib.hid (HT.out.trans (if_pos ⟨rfl, rfl⟩))
  have hlw1 := ws_short HX0.out
  have hlw2 := ws_short HX1.out
  have hls2 : m.s.length ≤ 64 := st_short (by have := HX1.out; unfold Nt.fmd at this; simp only [Bool.and_eq_true] at this; exact this.1)
  have hlb1 := Sp.good_len ((Sp.fmd_iff _).1 (Nt.fmd_parts HX0.out).1)
  have hlb2 := Sp.good_len ((Sp.fmd_iff _).1 (Nt.fmd_parts HX1.out).1)
  have hth := dev_thrifty HX0.out HX1.out
  obtain ⟨st, hst⟩ : ∃ st, Ve.ofL (Nt.thrifty n m) = st := ⟨_, rfl⟩
  obtain ⟨en, hen⟩ : ∃ en, Ve.joinL [n.e, m.e] = en := ⟨_, rfl⟩
  obtain ⟨J, hJ⟩ : ∃ J, Sp.joinS [n.b, m.b] = J := ⟨_, rfl⟩
  obtain ⟨K, hK⟩ : ∃ K, Nt.mergedTo n m J 256 = K := ⟨_, rfl⟩
  rw [hst] at hth
  rw [hst, hen, hJ, hK] at HT2
  obtain ⟨Good, hGood⟩ : ∃ Good : List Wr → Prop, Good = fun R => (R.filter fun x => !inOf J x.2.2.1) = K ∧ R.length ≤ 512 := ⟨_, rfl⟩
  have NJ := Lib.hid (fun g wx (ho : Rows wx (some ⟨g, 0, none⟩) [n.b, m.b]) => (show Calls Try.prog 53 #[.slice (some ⟨g, 0, none⟩) 2 2] wx (Ans J wx) from (spjoin_any (some ⟨g, 0, none⟩) 2 [n.b, m.b] wx (by simp) (by rw [Sp.tot_two]; omega) ho).mono fun _ _ hg => by rw [hJ] at hg; exact hg.one))
  have NT1 := Lib.hid (fun wx (hb : Below W.heap.size W wx) => (show Calls Try.prog 59 #[.agg #[.slice S n.s.length cs, .slice E n.e.length ce, .slice B n.b.length cb, .slice V n.ws.length cv], .agg #[.slice S' m.s.length cs', .slice E' m.e.length ce', .slice B' m.b.length cb', .slice V' m.ws.length cv']] wx (Ans st wx) from by have q := thrifty_any S E B V S' E' B' V' cs ce cb cv cs' ce' cb' cv' n m wx (by omega) (HN.out.later hb) (HM.out.later hb); rw [hth] at q; exact q))
  have NE := Lib.hid (fun g wx (ho : Rows wx (some ⟨g, 0, none⟩) [n.e, m.e]) => (show Calls Try.prog 60 #[.slice (some ⟨g, 0, none⟩) 2 2] wx (Ans en wx) from (join_any (some ⟨g, 0, none⟩) 2 [n.e, m.e] wx (by simp) ho).mono fun _ _ hg => by rw [hen] at hg; exact hg.one))
  have NN1 := Lib.hid (fun wx (hb : Below W.heap.size W wx) => (show Calls Try.prog 61 #[.slice V n.ws.length cv, .slice V' m.ws.length cv'] wx (fun e w' => ∃ R A c, Good R ∧ e = .returned (.slice A R.length c) ∧ OneW w' A c R ∧ Below wx.heap.size wx w') from
    (newest_any V V' cv cv' n.ws m.ws wx (by omega) (HN.out.hv.later hb) (HM.out.hv.later hb)).mono fun e w' hg => by
      obtain ⟨T, hs, hr, A, c, he, ho, hb'⟩ := hg
      refine ⟨So.row (So.comp T), A, c, ?_, he, ho, hb'⟩
      rw [hGood]
      refine ⟨by rw [← hK]; exact Nt.dev_merged HX0.out HX1.out J hs hr, ?_⟩
      rw [So.row_len]
      have h1 := So.kept_len T T.length
      have h2 := hs.len.trans (So.tag_len _)
      rw [List.length_append] at h2
      show (So.kept T T.length).length ≤ 512
      omega))
  have NK1 := Lib.hid (fun R A c A' c' wx (hr : Good R) (ho : OneW wx A c R) (ho2 : OneL wx A' c' J) => (show Calls Try.prog 56 #[.slice A R.length c, .slice A' J.length c'] wx (AnsW K wx) from by
    rw [hGood] at hr
    have q := outside_any A A' c c' R J wx (by omega) ho ho2
    rw [hr.1] at q
    exact q))
  clear hth hst hen hJ hK hGood HT hlw1 hlw2 hls2 hlb1 hlb2
  go_enter Try.func27, Try.ntmps27
  go_wp2_with fail
  rw [HW.out]
  refine (N0.out _ bb0).mono ?_
  rintro e w1 ⟨rfl, b1⟩
  have bb1 := below_on bb0 b1
  have y0' := cell_later bb1 d0
  have y1' := cell_later bb1 d1
  have y2' := cell_later bb1 d2
  have y3' := cell_later bb1 d3
  go_wp2_with fail
  refine (N1.out _ bb1).mono ?_
  rintro e w2 ⟨rfl, b2⟩
  have bb2 := below_on bb1 b2
  have u2 := cell_later bb2 c2
  have v2 := cell_later bb2 d2
  clear p0 p1 p2 p3 y0' y1' y2' y3'
  have hn := Blk.new w2 23 #[.slice B n.b.length cb, .slice B' m.b.length cb']
  have bn := below_new (Below.refl w2.heap.size w2) (.cells #[.slice B n.b.length cb, .slice B' m.b.length cb'] 23)
  have hrows := rows_two (l := n.b) (r := m.b) hn ((HN.out.hb.later bb2).later bn) ((HM.out.hb.later bb2).later bn)
  have NJ2 := Lib.hid (NJ.out w2.heap.size _ hrows)
  clear hn hrows
  go_wp2_with fail
  refine NJ2.out.mono ?_
  rintro e w3 ⟨AJ, kJ, rfl, oJ, b3⟩
  have bb3 := below_on bb2 (below_on bn b3)
  have x0 := cell_later bb3 c0
  have x1 := cell_later bb3 c1
  have x2 := cell_later bb3 c2
  have x3 := cell_later bb3 c3
  have y0 := cell_later bb3 d0
  have y1 := cell_later bb3 d1
  have y2 := cell_later bb3 d2
  have y3 := cell_later bb3 d3
  have OJ := Lib.hid oJ
  have HE := Lib.hid (HN.out.he.later bb3)
  have HE' := Lib.hid (HM.out.he.later bb3)
  have NT := Lib.hid (fun wx (hb : Below w3.heap.size w3 wx) => NT1.out wx (below_on bb3 hb))
  have NN := Lib.hid (fun wx (hb : Below w3.heap.size w3 wx) => NN1.out wx (below_on bb3 hb))
  have NK := Lib.hid (fun R A c wx (hb : Below w3.heap.size w3 wx) (hr : Good R) (ho : OneW wx A c R) => NK1.out R A c AJ kJ wx hr ho (OJ.out.later hb))
  clear oJ u2 v2 NT1 NN1 NK1
  go_wp2_with fail
  refine wp_region_facts 17 (by kernel_rfl) (by kernel_rfl)
    (fun v => { tmps := #[.agg (noteCells S E B V cs ce cb cv n), .agg (noteCells S' E' B' V' cs' ce' cb' cv' m), .pointer (some ⟨w.heap.size, 0, none⟩), .pointer (some ⟨w.heap.size + 1, 0, none⟩), .pointer (some ⟨w.heap.size + 2, 0, none⟩), .int .i64 0, .slice AJ J.length kJ, .agg (noteCells S E B V cs ce cb cv n), .bool true, .bool false, .bool false, .agg (noteCells S' E' B' V' cs' ce' cb' cv' m), .bool true, .bool false, .bool false, undef, .pointer (some ⟨w.heap.size, 2, none⟩), .slice B n.b.length cb, .pointer (some ⟨w.heap.size + 1, 2, none⟩), .slice B' m.b.length cb', .slice (some ⟨w2.heap.size, 0, none⟩) 2 2, .slice AJ J.length kJ, v 0, v 1, v 2, v 3, v 4, v 5, v 6, v 7, v 8, v 9, v 10, v 11, v 12, v 13, v 14, v 15, v 16, undef], defers := [] }) (fun _ => undef)
    (fun i x wx => match i with
      | 0 => x = .agg #[.slice S n.s.length cs, .slice E n.e.length ce, .slice B n.b.length cb, .slice V n.ws.length cv]
      | 1 => x = .agg #[.slice S' m.s.length cs', .slice E' m.e.length ce', .slice B' m.b.length cb', .slice V' m.ws.length cv']
      | 2 => ∃ A' c', x = .slice A' st.length c' ∧ OneL wx A' c' st
      | 3 => x = .pointer (some ⟨w.heap.size, 1, none⟩)
      | 4 => x = .slice E n.e.length ce
      | 5 => x = .pointer (some ⟨w.heap.size + 1, 1, none⟩)
      | 6 => x = .slice E' m.e.length ce'
      | 7 => ∃ g, x = .slice (some ⟨g, 0, none⟩) 2 2 ∧ Rows wx (some ⟨g, 0, none⟩) [n.e, m.e]
      | 8 => ∃ A' c', x = .slice A' en.length c' ∧ OneL wx A' c' en
      | 9 => x = .slice AJ J.length kJ
      | 10 => x = .pointer (some ⟨w.heap.size, 3, none⟩)
      | 11 => x = .slice V n.ws.length cv
      | 12 => x = .pointer (some ⟨w.heap.size + 1, 3, none⟩)
      | 13 => x = .slice V' m.ws.length cv'
      | 14 => ∃ R A' c', Good R ∧ x = .slice A' R.length c' ∧ OneW wx A' c' R
      | 15 => x = .slice AJ J.length kJ
      | 16 => ∃ A' c', x = .slice A' K.length c' ∧ OneW wx A' c' K
      | _ => True)
    (fun w1 w2 => Below w1.heap.size w1 w2) (fun h1 h2 => below_on h1 h2) (fun _ => Below.refl _ _) (Below.drew (Below.refl _ _)) ?stab ?step ?done
  case stab =>
    rintro i x w1 w2 h hb
    match i, h with
    | 0, h => exact h
    | 1, h => exact h
    | 2, h => obtain ⟨A, c, h1, h2⟩ := h; exact ⟨A, c, h1, h2.later hb⟩
    | 3, h => exact h
    | 4, h => exact h
    | 5, h => exact h
    | 6, h => exact h
    | 7, h => obtain ⟨g, h1, h2⟩ := h; exact ⟨g, h1, h2.later hb⟩
    | 8, h => obtain ⟨A, c, h1, h2⟩ := h; exact ⟨A, c, h1, h2.later hb⟩
    | 9, h => exact h
    | 10, h => exact h
    | 11, h => exact h
    | 12, h => exact h
    | 13, h => exact h
    | 14, h => obtain ⟨R, A, c, h0, h1, h2⟩ := h; exact ⟨R, A, c, h0, h1, h2.later hb⟩
    | 15, h => exact h
    | 16, h => obtain ⟨A, c, h1, h2⟩ := h; exact ⟨A, c, h1, h2.later hb⟩
    | i + 17, _ => trivial
  case step =>
    intro i hi v w' hb hd
    match i, hi with
    | 0, _ =>
      refine wpOp_one rfl ?_
      clear hd
      have q0 := cell_later hb x0
      have q1 := cell_later hb x1
      have q2 := cell_later hb x2
      have q3 := cell_later hb x3
      go_wp2
      first | exact ⟨_, (by simp [upd]; done), Below.refl _ _, rfl⟩ | exact ⟨(by simp [upd]; done), Below.refl _ _⟩
    | 1, _ =>
      refine wpOp_one rfl ?_
      clear hd
      have q0 := cell_later hb y0
      have q1 := cell_later hb y1
      have q2 := cell_later hb y2
      have q3 := cell_later hb y3
      go_wp2
      first | exact ⟨_, (by simp [upd]; done), Below.refl _ _, rfl⟩ | exact ⟨(by simp [upd]; done), Below.refl _ _⟩
    | 2, _ =>
      have h0 : v 0 = _ := hd 0 (List.elem_iff.1 (by kernel_rfl))
      have h1 : v 1 = _ := hd 1 (List.elem_iff.1 (by kernel_rfl))
      refine wpOp_one rfl ?_
      clear hd
      rw [h0, h1]
      go_wp2_with fail
      refine (NT.out _ hb).mono ?_
      rintro e w'' hg
      obtain ⟨A, c, rfl, ho, b⟩ := hg
      go_wp2
      exact ⟨_, (by simp [upd, h0, h1]; done), b, A, c, rfl, ho⟩
    | 3, _ =>
      refine wpOp_one rfl ?_
      clear hd
      go_wp2
      first | exact ⟨_, (by simp [upd]; done), Below.refl _ _, rfl⟩ | exact ⟨(by simp [upd]; done), Below.refl _ _⟩
    | 4, _ =>
      have h3 : v 3 = _ := hd 3 (List.elem_iff.1 (by kernel_rfl))
      refine wpOp_one rfl ?_
      clear hd
      rw [h3]
      have q0 := cell_later hb x1
      go_wp2
      first | exact ⟨_, (by simp [upd, h3]; done), Below.refl _ _, rfl⟩ | exact ⟨(by simp [upd, h3]; done), Below.refl _ _⟩
    | 5, _ =>
      refine wpOp_one rfl ?_
      clear hd
      go_wp2
      first | exact ⟨_, (by simp [upd]; done), Below.refl _ _, rfl⟩ | exact ⟨(by simp [upd]; done), Below.refl _ _⟩
    | 6, _ =>
      have h5 : v 5 = _ := hd 5 (List.elem_iff.1 (by kernel_rfl))
      refine wpOp_one rfl ?_
      clear hd
      rw [h5]
      have q0 := cell_later hb y1
      go_wp2
      first | exact ⟨_, (by simp [upd, h5]; done), Below.refl _ _, rfl⟩ | exact ⟨(by simp [upd, h5]; done), Below.refl _ _⟩
    | 7, _ =>
      have h4 : v 4 = _ := hd 4 (List.elem_iff.1 (by kernel_rfl))
      have h6 : v 6 = _ := hd 6 (List.elem_iff.1 (by kernel_rfl))
      refine wpOp_one rfl ?_
      clear hd
      rw [h4, h6]
      have hz := hb.size
      go_wp2
      exact ⟨_, (by simp [upd, h4, h6]; done), below_new (Below.refl _ _) _, w'.heap.size, rfl, rows_two (Blk.new w' _ _) ((HE.out.later hb).later (below_new (Below.refl _ _) _)) ((HE'.out.later hb).later (below_new (Below.refl _ _) _))⟩
    | 8, _ =>
      obtain ⟨g7, h7, o7⟩ := hd 7 (List.elem_iff.1 (by kernel_rfl))
      refine wpOp_one rfl ?_
      clear hd
      rw [h7]
      go_wp2_with fail
      refine (NE.out g7 _ o7).mono ?_
      rintro e w'' hg
      obtain ⟨A, c, rfl, ho, b⟩ := hg
      go_wp2
      exact ⟨_, (by simp [upd, h7]; done), b, A, c, rfl, ho⟩
    | 9, _ =>
      refine wpOp_one rfl ?_
      clear hd
      go_wp2
      first | exact ⟨_, (by simp [upd]; done), Below.refl _ _, rfl⟩ | exact ⟨(by simp [upd]; done), Below.refl _ _⟩
    | 10, _ =>
      refine wpOp_one rfl ?_
      clear hd
      go_wp2
      first | exact ⟨_, (by simp [upd]; done), Below.refl _ _, rfl⟩ | exact ⟨(by simp [upd]; done), Below.refl _ _⟩
    | 11, _ =>
      have h10 : v 10 = _ := hd 10 (List.elem_iff.1 (by kernel_rfl))
      refine wpOp_one rfl ?_
      clear hd
      rw [h10]
      have q0 := cell_later hb x3
      go_wp2
      first | exact ⟨_, (by simp [upd, h10]; done), Below.refl _ _, rfl⟩ | exact ⟨(by simp [upd, h10]; done), Below.refl _ _⟩
    | 12, _ =>
      refine wpOp_one rfl ?_
      clear hd
      go_wp2
      first | exact ⟨_, (by simp [upd]; done), Below.refl _ _, rfl⟩ | exact ⟨(by simp [upd]; done), Below.refl _ _⟩
    | 13, _ =>
      have h12 : v 12 = _ := hd 12 (List.elem_iff.1 (by kernel_rfl))
      refine wpOp_one rfl ?_
      clear hd
      rw [h12]
      have q0 := cell_later hb y3
      go_wp2
      first | exact ⟨_, (by simp [upd, h12]; done), Below.refl _ _, rfl⟩ | exact ⟨(by simp [upd, h12]; done), Below.refl _ _⟩
    | 14, _ =>
      have h11 : v 11 = _ := hd 11 (List.elem_iff.1 (by kernel_rfl))
      have h13 : v 13 = _ := hd 13 (List.elem_iff.1 (by kernel_rfl))
      refine wpOp_one rfl ?_
      clear hd
      rw [h11, h13]
      go_wp2_with fail
      refine (NN.out _ hb).mono ?_
      rintro e w'' hg
      obtain ⟨R, A, c, hr, rfl, ho, b⟩ := hg
      go_wp2
      exact ⟨_, (by simp [upd, h11, h13]; done), b, R, A, c, hr, rfl, ho⟩
    | 15, _ =>
      refine wpOp_one rfl ?_
      clear hd
      go_wp2
      first | exact ⟨_, (by simp [upd]; done), Below.refl _ _, rfl⟩ | exact ⟨(by simp [upd]; done), Below.refl _ _⟩
    | 16, _ =>
      obtain ⟨R14, A14, k14, r14, h14, o14⟩ := hd 14 (List.elem_iff.1 (by kernel_rfl))
      have h15 : v 15 = _ := hd 15 (List.elem_iff.1 (by kernel_rfl))
      refine wpOp_one rfl ?_
      clear hd
      rw [h14, h15]
      go_wp2_with fail
      refine (NK.out R14 A14 k14 _ hb r14 o14).mono ?_
      rintro e w'' hg
      obtain ⟨A, c, rfl, ho, b⟩ := hg
      go_wp2
      exact ⟨_, (by simp [upd, h14, h15]; done), b, A, c, rfl, ho⟩
    | k + 17, hk => exact absurd hk (by omega)
  case done =>
    intro v w' hb hf
    obtain ⟨A2, k2, h2, o2⟩ := hf 2 (by omega)
    obtain ⟨A8, k8, h8, o8⟩ := hf 8 (by omega)
    have h9 : v 9 = _ := hf 9 (by omega)
    obtain ⟨A16, k16, h16, o16⟩ := hf 16 (by omega)
    have HO := Lib.hid (show NoteAt w' A2 A8 AJ A16 k2 k8 kJ k16 ⟨st, en, J, K⟩ from NoteAt.mk o2 o8 (OJ.out.later hb) o16)
    have hB := HB2.out.later (below_on bb3 hb)
    have hbw := below_on hb0 (below_on bb3 hb)
    clear o2 o8 o16 hf
    simp only [List.drop_succ_cons, List.drop_zero]
    rw [h2, h8, h9, h16]
    obtain ⟨⟨z0, z1, z2, z3⟩, r0, r1, r2, r3⟩ := nt_cells hB
    go_wp2
    have hN4 := HO.out.puts hB ⟨rfl, rfl, rfl, rfl⟩ (.slice A2 st.length k2) (.slice A8 en.length k8) (.slice AJ J.length kJ) (.slice A16 K.length k16) ⟨rfl, rfl, rfl⟩
    refine bodyPost_ret (results_cell_tmp (p := 4) (t1 := 5) (ty := 26) rfl _ _ (w.heap.size + 2) 26 (noteCells A2 A8 AJ A16 k2 k8 kJ k16 ⟨st, en, J, K⟩) _ rfl (nt_puts hB A2 A8 AJ A16 k2 k8 kJ k16 ⟨st, en, J, K⟩) Try.underlying26 rfl infoNt) rfl ?_
    rw [HT2.out]
    exact ⟨_, _, _, _, _, _, _, _, rfl, hN4, below_puts hbw (by omega) _ _ _ _⟩

theorem mergeSpec : MergeSpec where
  toNoteSpec := noteSpec
  merge S E B V S' E' B' V' cs ce cb cv cs' ce' cb' cv' n m w h1 h2 := dnmerge_any S E B V S' E' B' V' cs ce cb cv cs' ce' cb' cv' n m w h1 h2

end Go.Proofs.Ytoaclofobfaflaa
