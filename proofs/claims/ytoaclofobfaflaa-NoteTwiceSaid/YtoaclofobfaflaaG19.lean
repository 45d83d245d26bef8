/-
  Plain mathematics of notes: a note seen through an interest is formed.
  What note's Through answers.
  What is asked of each of note's functions (its contract), as one structure. With it: the fixed fact 'alive'.
  note's functions but Merge answer as is asked of each.
-/
import Derived.Test.YtoaclofobfaflaaG18
import Derived.Test.YtoaclofobfaflaaG15
import Derived.Test.YtoaclofobfaflaaG17
namespace Go.Proofs.Ytoaclofobfaflaa
namespace Nt
def wrGood (n : Note) (x : Wr) : Prop := hasOf n.e x.1 x.2.1 = true ∧ (0 ≤ x.2.2.1 ∧ x.2.2.1 ≤ 255) ∧ inOf n.b x.2.2.1 = false
theorem getD_lt {l : List Wr} {k : Nat} (hk : k < l.length) : l.getD k zeroW = l[k] := by rw [List.getD_eq_getElem?_getD, List.getElem?_eq_getElem hk]; rfl
theorem obj_up {n : Note} (h : wsTo n n.ws.length) (i : Nat) : ∀ d, i + d + 1 < n.ws.length → obj n.ws i < obj n.ws (i + d + 1)
  | 0, hd => by
    have := (h (i + 1) hd).2.2.2 (by omega)
    simpa using this
  | d + 1, hd => by
    have h1 := obj_up h i d (by omega)
    have h2 := (h (i + d + 1 + 1) (by omega)).2.2.2 (by omega)
    have e : i + d + 1 + 1 - 1 = i + d + 1 := by omega
    rw [e] at h2
    have e2 : i + (d + 1) + 1 = i + d + 1 + 1 := by omega
    rw [e2]
    omega
theorem wsTo_list (n : Note) : wsTo n n.ws.length ↔ (∀ x ∈ n.ws, wrGood n x) ∧ n.ws.Pairwise (fun x y => x.2.2.1 < y.2.2.1) := by
  constructor
  · intro h
    refine ⟨fun x hx => ?_, ?_⟩
    · obtain ⟨k, hk, rfl⟩ := List.mem_iff_getElem.1 hx
      have h1 := h k hk
      unfold obj at h1
      rw [getD_lt hk] at h1
      exact ⟨h1.1, h1.2.1, h1.2.2.1⟩
    · rw [List.pairwise_iff_getElem]
      intro i j hi hj hij
      have h1 := obj_up h i (j - i - 1) (by omega)
      rw [show i + (j - i - 1) + 1 = j from by omega] at h1
      unfold obj at h1
      rw [getD_lt hi, getD_lt hj] at h1
      exact h1
  · rintro ⟨h1, h2⟩ k hk
    rw [List.pairwise_iff_getElem] at h2
    have g := h1 n.ws[k] (List.getElem_mem hk)
    unfold obj
    rw [getD_lt hk]
    refine ⟨g.1, g.2.1, g.2.2, fun h0 => ?_⟩
    rw [getD_lt (show k - 1 < n.ws.length from by omega)]
    exact h2 (k - 1) k (by omega) hk (by omega)
theorem inOf_blur {n : Note} {it : List (Int × Int)} {x : Wr} (hg : wrGood n x) (hi : Sp.inL it x.2.2.1.toNat = true) : inOf (Sp.ofL (blurTo n it n.ws.length)) x.2.2.1 = false := by
  obtain ⟨_, ⟨h0, h1⟩, h2⟩ := hg
  unfold inOf at h2 ⊢
  rw [decide_eq_true ⟨h0, h1⟩, Bool.true_and] at h2 ⊢
  rw [Sp.inL_ofL _ _ (by omega)]
  unfold blurTo
  rw [h2, Bool.false_or, List.any_eq_false]
  intro y hy
  simp [hi]
theorem through_form (n : Note) (it : List (Int × Int)) : ((through n it).2 = 0 ∧ fmd (through n it).1 = true) ∨ (through n it).2 = 1 := by
  unfold through
  cases hf : fmd n with
  | false => exact .inr (by rw [if_neg (by simp)])
  | true =>
    refine .inl ?_
    rw [if_pos rfl]
    refine ⟨rfl, ?_⟩
    unfold fmd at hf ⊢
    simp only [Bool.and_eq_true] at hf ⊢
    obtain ⟨f1, f2, f3, _, f5⟩ := hf
    obtain ⟨g1, g2⟩ := (wsTo_list n).1 ((wsOk_iff n).1 f5)
    refine ⟨f1, f2, f3, Sp.fmd_ofL _, (wsOk_iff _).2 ((wsTo_list _).2 ⟨fun x hx => ?_, ?_⟩)⟩
    · have hx' := hx
      simp only [keptTo, List.take_length, List.mem_filter] at hx'
      have hg := g1 x hx'.1
      exact ⟨hg.1, hg.2.1, inOf_blur hg hx'.2⟩
    · show (keptTo n.ws it n.ws.length).Pairwise _
      unfold keptTo
      rw [List.take_length]
      exact g2.filter _
theorem count_mono {l r : List (Int × Int)} (h : Ve.cov (Ve.cnt r) (Ve.cnt l) = true) (n : Int) : countOf l n ≤ countOf r n := by
  have h1 := (Ve.cov_iff _ _).1 h
  unfold countOf
  split
  · exact h1 _ (by omega)
  · exact Int.le_refl _
theorem has_mono {l r : List (Int × Int)} (h : Ve.cov (Ve.cnt r) (Ve.cnt l) = true) {c n : Int} (hh : hasOf l c n = true) : hasOf r c n = true := by
  have h1 := count_mono h n
  unfold hasOf at hh ⊢
  simp only [Bool.and_eq_true, decide_eq_true_eq] at hh ⊢
  exact ⟨hh.1, by omega⟩
theorem at_mem {l : List Wr} {o : Int} {x : Wr} (h : at_ l o = (x, true)) : x ∈ l ∧ x.2.2.1 = o := by
  unfold at_ at h
  cases hf : l.find? (fun x => decide (x.2.2.1 = o)) with
  | none => rw [hf] at h; simp at h
  | some y =>
    rw [hf] at h
    simp only [Prod.mk.injEq, and_true] at h
    subst h
    exact ⟨List.mem_of_find?_eq_some hf, by simpa using List.find?_some hf⟩
/-- What is picked lies in one of both, at that object. -/
theorem pick_mem {a b : Note} {k : Nat} {p : Wr} (h : pick a b k = (p, true)) : (p ∈ a.ws ∨ p ∈ b.ws) ∧ p.2.2.1 = (k : Int) := by
  unfold pick at h
  obtain ⟨⟨y, yo⟩, hy⟩ : ∃ r, at_ a.ws (k : Int) = r := ⟨_, rfl⟩
  obtain ⟨⟨x, xo⟩, hx⟩ : ∃ r, at_ b.ws (k : Int) = r := ⟨_, rfl⟩
  rw [hy, hx] at h
  simp only [Prod.mk.injEq] at h
  obtain ⟨h1, h2⟩ := h
  by_cases hc : xo = true ∧ (yo = false ∨ St.cmpS y.1 y.2.1 x.1 x.2.1 < 0)
  · rw [if_pos hc] at h1
    subst h1
    obtain ⟨rfl, _⟩ := hc
    exact ⟨.inr (at_mem hx).1, (at_mem hx).2⟩
  · rw [if_neg hc] at h1
    subst h1
    cases yo with
    | true => exact ⟨.inl (at_mem hy).1, (at_mem hy).2⟩
    | false =>
      cases xo with
      | true => exact absurd ⟨rfl, .inl rfl⟩ hc
      | false => cases h2
theorem merged_in {a b : Note} {bl : List (Int × Int)} : ∀ k, (∀ x ∈ mergedTo a b bl k, (x ∈ a.ws ∨ x ∈ b.ws) ∧ Sp.inL bl x.2.2.1.toNat = false ∧ 0 ≤ x.2.2.1 ∧ x.2.2.1 < (k : Int)) ∧ (mergedTo a b bl k).Pairwise (fun x y => x.2.2.1 < y.2.2.1)
  | 0 => ⟨fun x hx => by simp [mergedTo] at hx, List.Pairwise.nil⟩
  | k + 1 => by
    obtain ⟨h1, h2⟩ := merged_in (a := a) (b := b) (bl := bl) k
    obtain ⟨⟨p, has⟩, hp⟩ : ∃ r, pick a b k = r := ⟨_, rfl⟩
    by_cases hc : has = true ∧ Sp.inL bl k = false
    · obtain ⟨rfl, hi⟩ := hc
      rw [merged_yes hp hi]
      obtain ⟨g1, g2⟩ := pick_mem hp
      constructor
      · intro x hx
        rcases List.mem_append.1 hx with hx | hx
        · obtain ⟨q1, q2, q3, q4⟩ := h1 x hx
          exact ⟨q1, q2, q3, by omega⟩
        · rw [List.mem_singleton] at hx
          subst hx
          exact ⟨g1, by rw [g2]; exact hi, by omega, by omega⟩
      · rw [List.pairwise_append]
        refine ⟨h2, List.pairwise_singleton _ _, fun x hx y hy => ?_⟩
        rw [List.mem_singleton] at hy
        subst hy
        have := (h1 x hx).2.2.2
        omega
    · have e : mergedTo a b bl (k + 1) = mergedTo a b bl k := by
        show mergedTo a b bl k ++ (if (pick a b k).2 = true ∧ Sp.inL bl k = false then [(pick a b k).1] else []) = _
        rw [hp, if_neg hc, List.append_nil]
      rw [e]
      exact ⟨fun x hx => by obtain ⟨q1, q2, q3, q4⟩ := h1 x hx; exact ⟨q1, q2, q3, by omega⟩, h2⟩
theorem merge_form (a b : Note) : ((merge a b).2 = 0 ∧ fmd (merge a b).1 = true) ∨ (merge a b).2 = 1 := by
  unfold merge
  by_cases hc : fmd a = true ∧ fmd b = true
  · refine .inl ?_
    rw [if_pos hc]
    refine ⟨rfl, ?_⟩
    obtain ⟨ha, hb⟩ := hc
    unfold fmd at ha hb ⊢
    simp only [Bool.and_eq_true] at ha hb ⊢
    obtain ⟨a1, a2, a3, _, a5⟩ := ha
    obtain ⟨b1, b2, b3, _, b5⟩ := hb
    obtain ⟨ga, _⟩ := (wsTo_list a).1 ((wsOk_iff a).1 a5)
    obtain ⟨gb, _⟩ := (wsTo_list b).1 ((wsOk_iff b).1 b5)
    have ja := Ve.cov_join_left a.e b.e
    have jb := Ve.cov_join_right a.e b.e
    refine ⟨Ve.fmd_ofL _, Ve.fmd_joinL _, ?_, Sp.fmd_ofL _, (wsOk_iff _).2 ((wsTo_list _).2 ⟨fun x hx => ?_, (merged_in 256).2⟩)⟩
    · rw [Ve.cov_iff]
      intro i hi
      rw [Ve.cnt_ofL _ (fun j => by unfold thrifty; split <;> exact Ve.cnt_nonneg _ _) i hi]
      have q1 := (Ve.cov_iff _ _).1 ja i hi
      have q2 := (Ve.cov_iff _ _).1 jb i hi
      have q3 := (Ve.cov_iff _ _).1 a3 i hi
      have q4 := (Ve.cov_iff _ _).1 b3 i hi
      unfold thrifty
      split <;> omega
    · obtain ⟨q1, q2, q3, q4⟩ := (merged_in 256).1 x hx
      refine ⟨?_, ⟨q3, by omega⟩, ?_⟩
      · rcases q1 with q1 | q1
        · exact has_mono ja (ga x q1).1
        · exact has_mono jb (gb x q1).1
      · show inOf (Sp.joinS [a.b, b.b]) x.2.2.1 = false
        unfold inOf
        rw [q2, Bool.and_false]
  · exact .inr (by rw [if_neg hc])
theorem through_yes {n : Note} (it : List (Int × Int)) (hf : fmd n = true) : through n it = (⟨n.s, n.e, Sp.ofL (blurTo n it n.ws.length), n.ws.filter fun x => Sp.inL it x.2.2.1.toNat⟩, 0) := by
  unfold through keptTo
  rw [if_pos hf, List.take_length]
theorem fmd_parts {n : Note} (hf : fmd n = true) : Sp.fmd n.b = true ∧ ∀ x ∈ n.ws, wrGood n x := by
  unfold fmd at hf
  simp only [Bool.and_eq_true] at hf
  exact ⟨hf.2.2.2.1, ((wsTo_list n).1 ((wsOk_iff n).1 hf.2.2.2.2)).1⟩
theorem through_twice {n : Note} (a b : List (Int × Int)) (hf : fmd n = true) : through (through n a).1 b = through n (Sp.meetS a b) := by
  have hx : fmd (through n a).1 = true := by
    rcases through_form n a with h | h
    · exact h.2
    · rw [through_yes a hf] at h; cases h
  rw [through_yes b hx, through_yes (Sp.meetS a b) hf]
  obtain ⟨_, hg⟩ := fmd_parts hf
  have hm : ∀ x ∈ n.ws, Sp.inL (Sp.meetS a b) x.2.2.1.toNat = (Sp.inL a x.2.2.1.toNat && Sp.inL b x.2.2.1.toNat) := fun x hx => by
    have := (hg x hx).2.1
    unfold Sp.meetS
    rw [Sp.inL_ofL _ _ (by omega)]
  have e1 : (through n a).1.ws = n.ws.filter fun x => Sp.inL a x.2.2.1.toNat := by rw [through_yes a hf]
  have e2 : (through n a).1.b = Sp.ofL (blurTo n a n.ws.length) := by rw [through_yes a hf]
  have e3 : (through n a).1.s = n.s := by rw [through_yes a hf]
  have e4 : (through n a).1.e = n.e := by rw [through_yes a hf]
  rw [e3, e4]
  have k1 : (through n a).1.ws.filter (fun x => Sp.inL b x.2.2.1.toNat) = n.ws.filter fun x => Sp.inL (Sp.meetS a b) x.2.2.1.toNat := by
    rw [e1, List.filter_filter]
    refine List.filter_congr fun x hx => ?_
    rw [hm x hx, Bool.and_comm]
  have k2 : Sp.ofL (blurTo (through n a).1 b (through n a).1.ws.length) = Sp.ofL (blurTo n (Sp.meetS a b) n.ws.length) := by
    refine Sp.ofL_ext fun o ho => ?_
    unfold blurTo
    rw [List.take_length, List.take_length, e2, Sp.inL_ofL _ o ho, e1]
    unfold blurTo
    rw [List.take_length, Bool.eq_iff_iff]
    have hmo : Sp.inL (Sp.meetS a b) o = (Sp.inL a o && Sp.inL b o) := by
      unfold Sp.meetS
      rw [Sp.inL_ofL _ o ho]
    rw [hmo]
    simp only [Bool.or_eq_true, List.any_eq_true, Bool.and_eq_true, decide_eq_true_eq, Bool.not_eq_true', List.mem_filter, Bool.and_eq_false_iff]
    constructor
    · rintro ((h | ⟨x, h1, h2, h3⟩) | ⟨x, ⟨h1, h4⟩, h2, h3⟩)
      · exact .inl h
      · exact .inr ⟨x, h1, h2, .inl h3⟩
      · exact .inr ⟨x, h1, h2, .inr h3⟩
    · rintro (h | ⟨x, h1, h2, h3 | h3⟩)
      · exact .inl (.inl h)
      · exact .inl (.inr ⟨x, h1, h2, h3⟩)
      · cases ha : Sp.inL a o with
        | false => exact .inl (.inr ⟨x, h1, h2, rfl⟩)
        | true => exact .inr ⟨x, ⟨h1, by rw [h2]; simpa using ha⟩, h2, h3⟩
  rw [k1, k2]
theorem inL_whole (o : Nat) (ho : o < 256) : Sp.inL [(0, 255)] o = true := by
  simp [Sp.inL]
  omega
theorem through_all {n : Note} (hf : fmd n = true) : through n [(0, 255)] = (n, 0) := by
  obtain ⟨hb, hg⟩ := fmd_parts hf
  rw [through_yes _ hf]
  have k1 : n.ws.filter (fun x => Sp.inL [(0, 255)] x.2.2.1.toNat) = n.ws := by
    rw [List.filter_eq_self]
    intro x hx
    have := (hg x hx).2.1
    exact inL_whole _ (by omega)
  have k2 : Sp.ofL (blurTo n [(0, 255)] n.ws.length) = n.b := by
    refine Eq.trans (Sp.ofL_ext fun o ho => ?_) (Sp.ofL_self ((Sp.fmd_iff _).1 hb))
    unfold blurTo
    rw [inL_whole o ho]
    simp
  rw [k1, k2]
end Nt
end Go.Proofs.Ytoaclofobfaflaa
namespace Go.Proofs.Ytoaclofobfaflaa
open Go.RowKit Fb

namespace Nt
/-- The blur as the program makes it. -/
def devL (n : Note) (it : List (Int × Int)) : List (Int × Int) := Sp.lessS (Sp.ofL (Sp.someOf (n.ws.map (·.2.2.1)))) it
theorem dev_blur (n : Note) (it : List (Int × Int)) : Sp.joinS [n.b, devL n it] = Sp.ofL (blurTo n it n.ws.length) := by
  unfold Sp.joinS
  refine Sp.ofL_ext fun o ho => ?_
  show (false || Sp.inL n.b o || Sp.inL (devL n it) o) = _
  unfold devL Sp.lessS blurTo
  rw [Sp.inL_ofL _ o ho, Sp.inL_ofL _ o ho, Bool.false_or, List.take_length]
  congr 1
  unfold Sp.someOf
  rw [List.any_map]
  cases Sp.inL it o with
  | true => simp
  | false => simp only [Bool.not_false, Bool.and_true]; rfl
theorem dev_kept {n : Note} (it : List (Int × Int)) (hf : fmd n = true) : (n.ws.filter fun x => !inOf (Sp.ofL (blurTo n it n.ws.length)) x.2.2.1) = keptTo n.ws it n.ws.length := by
  unfold keptTo
  rw [List.take_length]
  refine List.filter_congr fun x hx => ?_
  have hg := (fmd_parts hf).2 x hx
  cases hi : Sp.inL it x.2.2.1.toNat with
  | true => rw [inOf_blur hg hi]; rfl
  | false =>
    obtain ⟨_, ⟨h0, h1⟩, _⟩ := hg
    have : inOf (Sp.ofL (blurTo n it n.ws.length)) x.2.2.1 = true := by
      unfold inOf
      rw [decide_eq_true ⟨h0, h1⟩, Bool.true_and, Sp.inL_ofL _ _ (by omega)]
      unfold blurTo
      rw [List.take_length]
      have : (n.ws.any fun y => decide (y.2.2.1 = ((x.2.2.1.toNat : Nat) : Int)) && !Sp.inL it x.2.2.1.toNat) = true := List.any_eq_true.2 ⟨x, hx, by rw [hi]; simp; omega⟩
      rw [this, Bool.or_true]
    rw [this]
    rfl
end Nt

set_option maxRecDepth 100000 in
set_option maxHeartbeats 6400000 in
theorem dnthrough_any (S E B V I : Option Addr) (cs ce cb cv ci : Nat) (n : Note) (it : List (Int × Int)) (w : World) (hls : n.s.length * 16 ≤ 140737488355328) (hle : n.e.length * 16 ≤ 140737488355328) (hlw : n.ws.length * 32 ≤ 140737488355328) (h1 : NoteAt w S E B V cs ce cb cv n) (h2 : OneL w I ci it) :
    Calls Try.prog 25 #[.agg (noteCells S E B V cs ce cb cv n), .slice I it.length ci] w (AnsNE (Nt.through n it).1 (Nt.through n it).2 w) := by
  obtain ⟨W, hW⟩ : ∃ W, (w.alloc (.cells (noteCells S E B V cs ce cb cv n) 26)).alloc (.cells #[.slice none 0 0, .slice none 0 0, .slice none 0 0, .slice none 0 0] 26) = W := ⟨_, rfl⟩
  have hb0 : Below w.heap.size w W := by rw [← hW]; exact below_new (below_new (Below.refl _ _) _) _
  have hB0 : Blk W w.heap.size 26 (noteCells S E B V cs ce cb cv n) := by rw [← hW]; exact (Blk.new w _ _).alloc _
  have hB1 : Blk W (w.heap.size + 1) 26 #[.slice none 0 0, .slice none 0 0, .slice none 0 0, .slice none 0 0] := by
    rw [← hW, show w.heap.size + 1 = (w.alloc (.cells (noteCells S E B V cs ce cb cv n) 26)).heap.size from by simp]
    exact Blk.new _ _ _
  obtain ⟨c0, c1, c2, c3⟩ := note_cells hB0
  have g0 := c0
  have g1 := c1
  have g2 := c2
  have g3 := c3
  rw [← hW] at g0 g1 g2 g3
  have HN := Lib.hid (h1.later hb0)
  have HI := Lib.hid (h2.later hb0)
  have HB1 := Lib.hid hB1
  have N0 := Lib.hid (show Calls Try.prog 12 #[.agg #[.slice S n.s.length cs, .slice E n.e.length ce, .slice B n.b.length cb, .slice V n.ws.length cv]] W (Says (.bool (Nt.fmd n)) W) from dnformed_any S E B V cs ce cb cv n W (h1.later hb0))
  have HT := Lib.hid (show Nt.through n it = if Nt.fmd n = true then (⟨n.s, n.e, Sp.ofL (Nt.blurTo n it n.ws.length), Nt.keptTo n.ws it n.ws.length⟩, 0) else (noNote, 1) from rfl)
  have HF := Lib.hid (fun h : Nt.fmd n = true => And.intro (Nt.dev_kept it h) (Sp.good_len ((Sp.fmd_iff _).1 (Nt.fmd_parts h).1)))
  obtain ⟨x0, hx0⟩ : ∃ x, Nt.fmd n = x := ⟨_, rfl⟩
  rw [hx0] at N0 HT HF
  have HW := Lib.hid hW
  clear hW hB0 hB1 h1 h2 hx0
  cases x0 with
  | false =>
    have HT2 := Lib.hid (HT.out.trans (if_neg (by simp)))
    go_enter Try.func25, Try.ntmps25
    go_wp2_with fail
    rw [HW.out]
    refine N0.out.mono ?_
    rintro e w1 ⟨rfl, b1⟩
    have hq := HB1.out.later b1
    obtain ⟨⟨z0, z1, z2, z3⟩, r0, r1, r2, r3⟩ := nt_cells hq
    have HQ := Lib.hid hq
    clear hq
    go_wp2
    refine bodyPost_ret (results_cell_tmp (p := 4) (t1 := 5) (ty := 26) rfl _ _ (w.heap.size + 1) 26 (noteCells none none none none 0 0 0 0 noNote) _ rfl (nt_puts HQ.out none none none none 0 0 0 0 noNote) Try.underlying26 rfl infoNt) rfl ?_
    rw [HT2.out]
    exact ⟨_, _, _, _, _, _, _, _, rfl, noNote_at _, below_puts (below_on hb0 b1) (by omega) _ _ _ _⟩
  | true =>
  have HT2 := Lib.hid (HT.out.trans (if_pos rfl))
  obtain ⟨hkept, hblen⟩ := HF.out rfl
  have hjb := Nt.dev_blur n it
  rw [← hjb] at hkept HT2
  obtain ⟨R, hR⟩ : ∃ R, Sp.ofL (Sp.someOf (n.ws.map (·.2.2.1))) = R := ⟨_, rfl⟩
  obtain ⟨L, hL⟩ : ∃ L, Nt.devL n it = L := ⟨_, rfl⟩
  have hLR : Sp.lessS R it = L := by rw [← hR]; exact hL
  have hLlen : L.length ≤ 128 := by rw [← hL]; unfold Nt.devL Sp.lessS; exact Sp.ofL_len _
  rw [hL] at hkept HT2
  obtain ⟨J, hJ⟩ : ∃ J, Sp.joinS [n.b, L] = J := ⟨_, rfl⟩
  rw [hJ] at hkept HT2
  obtain ⟨K, hK⟩ : ∃ K, Nt.keptTo n.ws it n.ws.length = K := ⟨_, rfl⟩
  rw [hK] at hkept HT2
  have NR := Lib.hid (fun wx (hb : Below W.heap.size W wx) => (show Calls Try.prog 55 #[.slice V n.ws.length cv] wx (Ans R wx) from (written_any V cv n.ws wx (by omega) (HN.out.hv.later hb)).mono fun _ _ hg => by rw [hR] at hg; exact hg.one))
  have NL := Lib.hid (fun A c wx (hb : Below W.heap.size W wx) (ho : OneL wx A c R) => (show Calls Try.prog 54 #[.slice A R.length c, .slice I it.length ci] wx (Ans L wx) from (spless_any A I c ci R it wx ho (HI.out.later hb)).mono fun _ _ hg => by rw [hLR] at hg; exact hg.one))
  have NJ := Lib.hid (fun g wx (hb : Below W.heap.size W wx) (ho : Rows wx (some ⟨g, 0, none⟩) [n.b, L]) => (show Calls Try.prog 53 #[.slice (some ⟨g, 0, none⟩) 2 2] wx (Ans J wx) from (spjoin_any (some ⟨g, 0, none⟩) 2 [n.b, L] wx (by simp) (by rw [Sp.tot_two]; omega) ho).mono fun _ _ hg => by rw [hJ] at hg; exact hg.one))
  have NS := Lib.hid (fun wx (hb : Below W.heap.size W wx) => (cloneS_any S cs n.s wx hls (HN.out.hs.later hb)).mono fun _ _ hg => hg.one)
  have NE := Lib.hid (fun wx (hb : Below W.heap.size W wx) => (cloneS_any E ce n.e wx hle (HN.out.he.later hb)).mono fun _ _ hg => hg.one)
  have NK := Lib.hid (fun A c wx (hb : Below W.heap.size W wx) (ho : OneL wx A c J) => (show Calls Try.prog 56 #[.slice V n.ws.length cv, .slice A J.length c] wx (AnsW K wx) from by have q := outside_any V A cv c n.ws J wx hlw (HN.out.hv.later hb) ho; rw [hkept] at q; exact q))
  have HB := Lib.hid (fun wx (hb : Below W.heap.size W wx) => HN.out.hb.later hb)
  clear hR hL hLR hLlen hJ hK hkept hblen hjb HT HF
  go_enter Try.func25, Try.ntmps25
  go_wp2_with fail
  rw [HW.out]
  refine N0.out.mono ?_
  rintro e w1 ⟨rfl, b1⟩
  have d2 := cell_later b1 c2
  have d3 := cell_later b1 c3
  have NR1 := NR
  clear NR
  have NR := Lib.hid (fun wx (hb : Below w1.heap.size w1 wx) => NR1.out wx (below_on b1 hb))
  have NL1 := NL
  clear NL
  have NL := Lib.hid (fun A c wx (hb : Below w1.heap.size w1 wx) ho => NL1.out A c wx (below_on b1 hb) ho)
  have NJ1 := NJ
  clear NJ
  have NJ := Lib.hid (fun g wx (hb : Below w1.heap.size w1 wx) ho => NJ1.out g wx (below_on b1 hb) ho)
  have HBB := HB
  clear HB
  have HB := Lib.hid (fun wx (hb : Below w1.heap.size w1 wx) => HBB.out wx (below_on b1 hb))
  clear g0 g1 g2 g3
  go_wp2_with fail
  refine wp_region_facts 9 (by kernel_rfl) (by kernel_rfl)
    (fun v => { tmps := #[.agg (noteCells S E B V cs ce cb cv n), .slice I it.length ci, .pointer (some ⟨w.heap.size, 0, none⟩), undef, .pointer (some ⟨w.heap.size + 1, 0, none⟩), .int .i64 0, undef, .agg (noteCells S E B V cs ce cb cv n), .bool true, .bool false, undef, v 0, v 1, v 2, v 3, v 4, v 5, v 6, v 7, v 8, undef, undef, undef, undef, undef, undef, undef, undef, undef, undef, undef, undef], defers := [] }) (fun _ => undef)
    (fun i x wx => match i with
      | 0 => x = .pointer (some ⟨w.heap.size, 2, none⟩)
      | 1 => x = .slice B n.b.length cb
      | 2 => x = .pointer (some ⟨w.heap.size, 3, none⟩)
      | 3 => x = .slice V n.ws.length cv
      | 4 => ∃ A' c', x = .slice A' R.length c' ∧ OneL wx A' c' R
      | 5 => x = .slice I it.length ci
      | 6 => ∃ A' c', x = .slice A' L.length c' ∧ OneL wx A' c' L
      | 7 => ∃ g, x = .slice (some ⟨g, 0, none⟩) 2 2 ∧ Rows wx (some ⟨g, 0, none⟩) [n.b, L]
      | 8 => ∃ A' c', x = .slice A' J.length c' ∧ OneL wx A' c' J
      | _ => True)
    (fun w1 w2 => Below w1.heap.size w1 w2) (fun h1 h2 => below_on h1 h2) (fun _ => Below.refl _ _) (Below.drew (Below.refl _ _)) ?stab ?step ?done
  case stab =>
    rintro i x w1 w2 h hb
    match i, h with
    | 0, h => exact h
    | 1, h => exact h
    | 2, h => exact h
    | 3, h => exact h
    | 4, h => obtain ⟨A, c, h1, h2⟩ := h; exact ⟨A, c, h1, h2.later hb⟩
    | 5, h => exact h
    | 6, h => obtain ⟨A, c, h1, h2⟩ := h; exact ⟨A, c, h1, h2.later hb⟩
    | 7, h => obtain ⟨g, h1, h2⟩ := h; exact ⟨g, h1, h2.later hb⟩
    | 8, h => obtain ⟨A, c, h1, h2⟩ := h; exact ⟨A, c, h1, h2.later hb⟩
    | i + 9, _ => trivial
  case step =>
    intro i hi v w' hb hd
    match i, hi with
    | 0, _ =>
      refine wpOp_one rfl ?_
      clear hd
      go_wp2
      first | exact ⟨_, (by simp [upd]; done), Below.refl _ _, rfl⟩ | exact ⟨(by simp [upd]; done), Below.refl _ _⟩
    | 1, _ =>
      have h0 : v 0 = _ := hd 0 (List.elem_iff.1 (by kernel_rfl))
      refine wpOp_one rfl ?_
      clear hd
      rw [h0]
      have q0 := cell_later hb d2
      go_wp2
      first | exact ⟨_, (by simp [upd, h0]; done), Below.refl _ _, rfl⟩ | exact ⟨(by simp [upd, h0]; done), Below.refl _ _⟩
    | 2, _ =>
      refine wpOp_one rfl ?_
      clear hd
      go_wp2
      first | exact ⟨_, (by simp [upd]; done), Below.refl _ _, rfl⟩ | exact ⟨(by simp [upd]; done), Below.refl _ _⟩
    | 3, _ =>
      have h2 : v 2 = _ := hd 2 (List.elem_iff.1 (by kernel_rfl))
      refine wpOp_one rfl ?_
      clear hd
      rw [h2]
      have q0 := cell_later hb d3
      go_wp2
      first | exact ⟨_, (by simp [upd, h2]; done), Below.refl _ _, rfl⟩ | exact ⟨(by simp [upd, h2]; done), Below.refl _ _⟩
    | 4, _ =>
      have h3 : v 3 = _ := hd 3 (List.elem_iff.1 (by kernel_rfl))
      refine wpOp_one rfl ?_
      clear hd
      rw [h3]
      go_wp2_with fail
      refine (NR.out _ hb).mono ?_
      rintro e w'' hg
      obtain ⟨A, c, rfl, ho, b⟩ := hg
      go_wp2
      exact ⟨_, (by simp [upd, h3]; done), b, A, c, rfl, ho⟩
    | 5, _ =>
      refine wpOp_one rfl ?_
      clear hd
      go_wp2
      first | exact ⟨_, (by simp [upd]; done), Below.refl _ _, rfl⟩ | exact ⟨(by simp [upd]; done), Below.refl _ _⟩
    | 6, _ =>
      obtain ⟨A4, k4, h4, o4⟩ := hd 4 (List.elem_iff.1 (by kernel_rfl))
      have h5 : v 5 = _ := hd 5 (List.elem_iff.1 (by kernel_rfl))
      refine wpOp_one rfl ?_
      clear hd
      rw [h4, h5]
      go_wp2_with fail
      refine (NL.out A4 k4 _ hb o4).mono ?_
      rintro e w'' hg
      obtain ⟨A, c, rfl, ho, b⟩ := hg
      go_wp2
      exact ⟨_, (by simp [upd, h4, h5]; done), b, A, c, rfl, ho⟩
    | 7, _ =>
      have h1 : v 1 = _ := hd 1 (List.elem_iff.1 (by kernel_rfl))
      obtain ⟨A6, k6, h6, o6⟩ := hd 6 (List.elem_iff.1 (by kernel_rfl))
      refine wpOp_one rfl ?_
      clear hd
      rw [h1, h6]
      have hz := hb.size
      go_wp2
      exact ⟨_, (by simp [upd, h1, h6]; done), below_new (Below.refl _ _) _, w'.heap.size, rfl, rows_two (Blk.new w' _ _) ((HB.out _ hb).later (below_new (Below.refl _ _) _)) (o6.later (below_new (Below.refl _ _) _))⟩
    | 8, _ =>
      obtain ⟨g7, h7, o7⟩ := hd 7 (List.elem_iff.1 (by kernel_rfl))
      refine wpOp_one rfl ?_
      clear hd
      rw [h7]
      go_wp2_with fail
      refine (NJ.out g7 _ hb o7).mono ?_
      rintro e w'' hg
      obtain ⟨A, c, rfl, ho, b⟩ := hg
      go_wp2
      exact ⟨_, (by simp [upd, h7]; done), b, A, c, rfl, ho⟩
  case done =>
    intro v w2 hb hf
    have h0 : v 0 = _ := hf 0 (by omega)
    have h1 : v 1 = _ := hf 1 (by omega)
    have h2 : v 2 = _ := hf 2 (by omega)
    have h3 : v 3 = _ := hf 3 (by omega)
    obtain ⟨A4, k4, h4, -⟩ := hf 4 (by omega)
    have h5 : v 5 = _ := hf 5 (by omega)
    obtain ⟨A6, k6, h6, -⟩ := hf 6 (by omega)
    obtain ⟨g7, h7, -⟩ := hf 7 (by omega)
    obtain ⟨A8, k8, h8, o8⟩ := hf 8 (by omega)
    have bb2 := below_on b1 hb
    clear hf
    simp only [List.drop_succ_cons, List.drop_zero]
    rw [h0, h1, h2, h3, h4, h5, h6, h7, h8]
    clear h0 h1 h2 h3 h4 h5 h6 h7 h8
    have x0 := cell_later bb2 c0
    have x1 := cell_later bb2 c1
    have x3 := cell_later bb2 c3
    have O8 := Lib.hid o8
    have NS1 := NS
    clear NS
    have NS := Lib.hid (fun wx (hb : Below w2.heap.size w2 wx) => NS1.out wx (below_on bb2 hb))
    have NE1 := NE
    clear NE
    have NE := Lib.hid (fun wx (hb : Below w2.heap.size w2 wx) => NE1.out wx (below_on bb2 hb))
    have NK1 := NK
    clear NK
    have NK := Lib.hid (fun wx (hb : Below w2.heap.size w2 wx) => NK1.out A8 k8 wx (below_on bb2 hb) (O8.out.later hb))
    clear o8 d2 d3
    go_wp2_with fail
    refine wp_region_facts 11 (by kernel_rfl) (by kernel_rfl)
      (fun v => { tmps := #[.agg (noteCells S E B V cs ce cb cv n), .slice I it.length ci, .pointer (some ⟨w.heap.size, 0, none⟩), undef, .pointer (some ⟨w.heap.size + 1, 0, none⟩), .int .i64 0, .slice A8 J.length k8, .agg (noteCells S E B V cs ce cb cv n), .bool true, .bool false, undef, .pointer (some ⟨w.heap.size, 2, none⟩), .slice B n.b.length cb, .pointer (some ⟨w.heap.size, 3, none⟩), .slice V n.ws.length cv, .slice A4 R.length k4, .slice I it.length ci, .slice A6 L.length k6, .slice (some ⟨g7, 0, none⟩) 2 2, .slice A8 J.length k8, v 0, v 1, v 2, v 3, v 4, v 5, v 6, v 7, v 8, v 9, v 10, undef], defers := [] }) (fun _ => undef)
      (fun i x wx => match i with
        | 0 => x = .pointer (some ⟨w.heap.size, 0, none⟩)
        | 1 => x = .slice S n.s.length cs
        | 2 => ∃ A' c', x = .slice A' n.s.length c' ∧ OneL wx A' c' n.s
        | 3 => x = .pointer (some ⟨w.heap.size, 1, none⟩)
        | 4 => x = .slice E n.e.length ce
        | 5 => ∃ A' c', x = .slice A' n.e.length c' ∧ OneL wx A' c' n.e
        | 6 => x = .slice A8 J.length k8
        | 7 => x = .pointer (some ⟨w.heap.size, 3, none⟩)
        | 8 => x = .slice V n.ws.length cv
        | 9 => x = .slice A8 J.length k8
        | 10 => ∃ A' c', x = .slice A' K.length c' ∧ OneW wx A' c' K
        | _ => True)
      (fun w1 w2 => Below w1.heap.size w1 w2) (fun h1 h2 => below_on h1 h2) (fun _ => Below.refl _ _) (Below.drew (Below.refl _ _)) ?stab ?step ?done
    case stab =>
      rintro i x w1 w2 h hb
      match i, h with
      | 0, h => exact h
      | 1, h => exact h
      | 2, h => obtain ⟨A, c, h1, h2⟩ := h; exact ⟨A, c, h1, h2.later hb⟩
      | 3, h => exact h
      | 4, h => exact h
      | 5, h => obtain ⟨A, c, h1, h2⟩ := h; exact ⟨A, c, h1, h2.later hb⟩
      | 6, h => exact h
      | 7, h => exact h
      | 8, h => exact h
      | 9, h => exact h
      | 10, h => obtain ⟨A, c, h1, h2⟩ := h; exact ⟨A, c, h1, h2.later hb⟩
      | i + 11, _ => trivial
    case step =>
      intro i hi v w' hb hd
      match i, hi with
      | 0, _ =>
        refine wpOp_one rfl ?_
        clear hd
        go_wp2
        first | exact ⟨_, (by simp [upd]; done), Below.refl _ _, rfl⟩ | exact ⟨(by simp [upd]; done), Below.refl _ _⟩
      | 1, _ =>
        have h0 : v 0 = _ := hd 0 (List.elem_iff.1 (by kernel_rfl))
        refine wpOp_one rfl ?_
        clear hd
        rw [h0]
        have q0 := cell_later hb x0
        go_wp2
        first | exact ⟨_, (by simp [upd, h0]; done), Below.refl _ _, rfl⟩ | exact ⟨(by simp [upd, h0]; done), Below.refl _ _⟩
      | 2, _ =>
        have h1 : v 1 = _ := hd 1 (List.elem_iff.1 (by kernel_rfl))
        refine wpOp_one rfl ?_
        clear hd
        rw [h1]
        go_wp2_with fail
        refine (NS.out _ hb).mono ?_
        rintro e w'' hg
        obtain ⟨A, c, rfl, ho, b⟩ := hg
        go_wp2
        exact ⟨_, (by simp [upd, h1]; done), b, A, c, rfl, ho⟩
      | 3, _ =>
        refine wpOp_one rfl ?_
        clear hd
        go_wp2
        first | exact ⟨_, (by simp [upd]; done), Below.refl _ _, rfl⟩ | exact ⟨(by simp [upd]; done), Below.refl _ _⟩
      | 4, _ =>
        have h3 : v 3 = _ := hd 3 (List.elem_iff.1 (by kernel_rfl))
        refine wpOp_one rfl ?_
        clear hd
        rw [h3]
        have q0 := cell_later hb x1
        go_wp2
        first | exact ⟨_, (by simp [upd, h3]; done), Below.refl _ _, rfl⟩ | exact ⟨(by simp [upd, h3]; done), Below.refl _ _⟩
      | 5, _ =>
        have h4 : v 4 = _ := hd 4 (List.elem_iff.1 (by kernel_rfl))
        refine wpOp_one rfl ?_
        clear hd
        rw [h4]
        go_wp2_with fail
        refine (NE.out _ hb).mono ?_
        rintro e w'' hg
        obtain ⟨A, c, rfl, ho, b⟩ := hg
        go_wp2
        exact ⟨_, (by simp [upd, h4]; done), b, A, c, rfl, ho⟩
      | 6, _ =>
        refine wpOp_one rfl ?_
        clear hd
        go_wp2
        first | exact ⟨_, (by simp [upd]; done), Below.refl _ _, rfl⟩ | exact ⟨(by simp [upd]; done), Below.refl _ _⟩
      | 7, _ =>
        refine wpOp_one rfl ?_
        clear hd
        go_wp2
        first | exact ⟨_, (by simp [upd]; done), Below.refl _ _, rfl⟩ | exact ⟨(by simp [upd]; done), Below.refl _ _⟩
      | 8, _ =>
        have h7 : v 7 = _ := hd 7 (List.elem_iff.1 (by kernel_rfl))
        refine wpOp_one rfl ?_
        clear hd
        rw [h7]
        have q0 := cell_later hb x3
        go_wp2
        first | exact ⟨_, (by simp [upd, h7]; done), Below.refl _ _, rfl⟩ | exact ⟨(by simp [upd, h7]; done), Below.refl _ _⟩
      | 9, _ =>
        refine wpOp_one rfl ?_
        clear hd
        go_wp2
        first | exact ⟨_, (by simp [upd]; done), Below.refl _ _, rfl⟩ | exact ⟨(by simp [upd]; done), Below.refl _ _⟩
      | 10, _ =>
        have h8 : v 8 = _ := hd 8 (List.elem_iff.1 (by kernel_rfl))
        have h9 : v 9 = _ := hd 9 (List.elem_iff.1 (by kernel_rfl))
        refine wpOp_one rfl ?_
        clear hd
        rw [h8, h9]
        go_wp2_with fail
        refine (NK.out _ hb).mono ?_
        rintro e w'' hg
        obtain ⟨A, c, rfl, ho, b⟩ := hg
        go_wp2
        exact ⟨_, (by simp [upd, h8, h9]; done), b, A, c, rfl, ho⟩
    case done =>
      intro v w' hb2 hf
      obtain ⟨A2, k2, h2, o2⟩ := hf 2 (by omega)
      obtain ⟨A5, k5, h5, o5⟩ := hf 5 (by omega)
      have h6 : v 6 = _ := hf 6 (by omega)
      obtain ⟨A10, k10, h10, o10⟩ := hf 10 (by omega)
      have HO := Lib.hid (show NoteAt w' A2 A5 A8 A10 k2 k5 k8 k10 ⟨n.s, n.e, J, K⟩ from NoteAt.mk o2 o5 (O8.out.later hb2) o10)
      have hB := HB1.out.later (below_on bb2 hb2)
      have hbw := below_on hb0 (below_on bb2 hb2)
      clear o2 o5 o10 hf
      simp only [List.drop_succ_cons, List.drop_zero]
      rw [h2, h5, h6, h10]
      obtain ⟨⟨z0, z1, z2, z3⟩, r0, r1, r2, r3⟩ := nt_cells hB
      go_wp2
      have hN4 := HO.out.puts hB ⟨rfl, rfl, rfl, rfl⟩ (.slice A2 n.s.length k2) (.slice A5 n.e.length k5) (.slice A8 J.length k8) (.slice A10 K.length k10) ⟨rfl, rfl, rfl⟩
      refine bodyPost_ret (results_cell_tmp (p := 4) (t1 := 5) (ty := 26) rfl _ _ (w.heap.size + 1) 26 (noteCells A2 A5 A8 A10 k2 k5 k8 k10 ⟨n.s, n.e, J, K⟩) _ rfl (nt_puts hB A2 A5 A8 A10 k2 k5 k8 k10 ⟨n.s, n.e, J, K⟩) Try.underlying26 rfl infoNt) rfl ?_
      rw [HT2.out]
      exact ⟨_, _, _, _, _, _, _, _, rfl, hN4, below_puts hbw (by omega) _ _ _ _⟩

end Go.Proofs.Ytoaclofobfaflaa
namespace Go.Proofs.Ytoaclofobfaflaa
open Go.RowKit

structure NoteSpec : Prop where
  formed : ∀ S E B V cs ce cb cv n w, NoteAt w S E B V cs ce cb cv n → Calls Try.prog 12 #[.agg (noteCells S E B V cs ce cb cv n)] w (Says (.bool (Nt.fmd n)) w)
  fits : ∀ S E B V A cs ce cb cv c n l w, NoteAt w S E B V cs ce cb cv n → OneL w A c l → Calls Try.prog 14 #[.agg (noteCells S E B V cs ce cb cv n), .slice A l.length c] w (Says (.bool (Ve.cov (Ve.cnt l) (Ve.cnt n.s))) w)
  news : ∀ S E B V A cs ce cb cv c n l w, NoteAt w S E B V cs ce cb cv n → OneL w A c l → Calls Try.prog 16 #[.agg (noteCells S E B V cs ce cb cv n), .slice A l.length c] w (Says (.bool (!Ve.cov (Ve.cnt l) (Ve.cnt n.e))) w)
  of_ : ∀ A c l y w, l.length * 16 ≤ 140737488355328 → OneL w A c l → Calls Try.prog 20 #[.slice A l.length c, .agg (Nt.wrArr y)] w (AnsNE (ofN l y).1 (ofN l y).2 w)
  told : ∀ S E B V cs ce cb cv n o w, NoteAt w S E B V cs ce cb cv n → Calls Try.prog 23 #[.agg (noteCells S E B V cs ce cb cv n), .int .i64 o] w (Says (Nt.toldV (Nt.told n o)) w)
  through : ∀ S E B V I cs ce cb cv ci n it w, n.s.length * 16 ≤ 140737488355328 → n.e.length * 16 ≤ 140737488355328 → n.ws.length * 32 ≤ 140737488355328 → NoteAt w S E B V cs ce cb cv n → OneL w I ci it → Calls Try.prog 25 #[.agg (noteCells S E B V cs ce cb cv n), .slice I it.length ci] w (AnsNE (Nt.through n it).1 (Nt.through n it).2 w)

/-- With Merge. -/
structure MergeSpec : Prop extends NoteSpec where
  merge : ∀ S E B V S' E' B' V' cs ce cb cv cs' ce' cb' cv' n m w, NoteAt w S E B V cs ce cb cv n → NoteAt w S' E' B' V' cs' ce' cb' cv' m → Calls Try.prog 27 #[.agg (noteCells S E B V cs ce cb cv n), .agg (noteCells S' E' B' V' cs' ce' cb' cv' m)] w (AnsNE (Nt.merge n m).1 (Nt.merge n m).2 w)

/-- The note that 'alive' makes. -/
def nAlive : Note := ⟨[(5, 0)], [(5, 0), (6, 1)], [], [(6, 1, 3, false)]⟩
theorem nalive_of : ofN [(5, 0)] (6, 1, 3, false) = (nAlive, 0) := by kernel_rfl
theorem nalive_fmd : Nt.fmd nAlive = true := by kernel_rfl
theorem nalive_news : (!Ve.cov (Ve.cnt nAlive.s) (Ve.cnt nAlive.e)) = true := by kernel_rfl
theorem nalive_old : (!Ve.cov (Ve.cnt nAlive.e) (Ve.cnt nAlive.e)) = false := by kernel_rfl

set_option maxRecDepth 100000 in
set_option maxHeartbeats 1600000 in
theorem nalive_any (SP : NoteSpec) (w : World) : Calls Try.prog 10 #[] w (Says (.bool true) w) := by
  have b0 := below_new (Below.refl w.heap.size w) (.cells #[.int .i64 5, .int .i64 0] 33)
  have hB := Blk.new w 33 #[.int .i64 5, .int .i64 0]
  have hO : OneL (w.alloc (.cells #[.int .i64 5, .int .i64 0] 33)) (some ⟨w.heap.size, 0, none⟩) 1 [(5, 0)] := ⟨Nat.le_refl _, by show (1 : Nat) ≤ 9223372036854775807; omega, (fun h => by cases h), fun _ => ⟨w.heap.size, 0, rfl, fun j u hu => by
    rw [Nat.zero_add]
    exact hB.cell (by simpa [stCells] using hu)⟩⟩
  have n1 := SP.of_ (some ⟨w.heap.size, 0, none⟩) 1 [(5, 0)] (6, 1, 3, false) _ (by simp) hO
  rw [nalive_of] at n1
  have N1 := Lib.hid (show Calls Try.prog 20 #[.slice (some ⟨w.heap.size, 0, none⟩) 1 1, .agg #[.int .i64 6, .int .i64 1, .int .i64 3, .bool false]] (w.alloc (.cells #[.int .i64 5, .int .i64 0] 33)) (AnsNE nAlive 0 (w.alloc (.cells #[.int .i64 5, .int .i64 0] 33))) from n1)
  clear n1 hO hB
  go_enter Try.func10, Try.ntmps10
  go_wp2_with fail
  refine N1.out.mono ?_
  rintro e w1 ⟨A1, A2, A3, A4, k1, k2, k3, k4, rfl, hN, b1⟩
  rw [show noteCells A1 A2 A3 A4 k1 k2 k3 k4 nAlive = #[.slice A1 1 k1, .slice A2 2 k2, .slice A3 0 k3, .slice A4 1 k4] from rfl]
  have bA := below_new b1 (.cells #[.slice A1 1 k1, .slice A2 2 k2, .slice A3 0 k3, .slice A4 1 k4] 26)
  have hN2 := hN.later (below_new (Below.refl _ _) (.cells #[.slice A1 1 k1, .slice A2 2 k2, .slice A3 0 k3, .slice A4 1 k4] 26))
  have HB := Lib.hid (Blk.new w1 26 #[.slice A1 1 k1, .slice A2 2 k2, .slice A3 0 k3, .slice A4 1 k4])
  obtain ⟨⟨c0, c1, c2, c3⟩, _⟩ := nt_cells HB.out
  have F := Lib.hid (fun wx hx => (show Calls Try.prog 12 #[.agg #[.slice A1 1 k1, .slice A2 2 k2, .slice A3 0 k3, .slice A4 1 k4]] wx (Says (.bool true) wx) from by have q := SP.formed A1 A2 A3 A4 k1 k2 k3 k4 nAlive wx hx; rw [nalive_fmd] at q; exact q))
  have G := Lib.hid (fun wx (hx : NoteAt wx A1 A2 A3 A4 k1 k2 k3 k4 nAlive) => (show Calls Try.prog 16 #[.agg #[.slice A1 1 k1, .slice A2 2 k2, .slice A3 0 k3, .slice A4 1 k4], .slice A1 1 k1] wx (Says (.bool true) wx) from by have q := SP.news A1 A2 A3 A4 A1 k1 k2 k3 k4 k1 nAlive nAlive.s wx hx hx.hs; rw [nalive_news] at q; exact q))
  have H := Lib.hid (fun wx (hx : NoteAt wx A1 A2 A3 A4 k1 k2 k3 k4 nAlive) => (show Calls Try.prog 16 #[.agg #[.slice A1 1 k1, .slice A2 2 k2, .slice A3 0 k3, .slice A4 1 k4], .slice A2 2 k2] wx (Says (.bool false) wx) from by have q := SP.news A1 A2 A3 A4 A2 k1 k2 k3 k4 k2 nAlive nAlive.e wx hx hx.he; rw [nalive_old] at q; exact q))
  have HN := Lib.hid hN2
  clear hN hN2 N1
  go_wp2_with fail
  refine (F.out _ HN.out).mono ?_
  rintro e w2 ⟨rfl, b2⟩
  have d0 := cell_later b2 c0
  have d1 := cell_later b2 c1
  have d2 := cell_later b2 c2
  have d3 := cell_later b2 c3
  go_wp2_with fail
  refine (G.out _ (HN.out.later b2)).mono ?_
  rintro e w3 ⟨rfl, b3⟩
  have bb3 := below_on b2 b3
  have e0 := cell_later bb3 c0
  have e1 := cell_later bb3 c1
  have e2 := cell_later bb3 c2
  have e3 := cell_later bb3 c3
  go_wp2_with fail
  refine (H.out _ (HN.out.later bb3)).mono ?_
  rintro e w4 ⟨rfl, b4⟩
  go_wp2
  go_ret
  exact ⟨rfl, below_on (below_on b0 bA) (below_on bb3 b4)⟩

end Go.Proofs.Ytoaclofobfaflaa
namespace Go.Proofs.Ytoaclofobfaflaa
open Go.RowKit

theorem noteSpec : NoteSpec where
  formed S E B V cs ce cb cv n w h := dnformed_any S E B V cs ce cb cv n w h
  fits S E B V A cs ce cb cv c n l w h1 h2 := dnfits_any S E B V A cs ce cb cv c n l w h1 h2
  news S E B V A cs ce cb cv c n l w h1 h2 := dnnews_any S E B V A cs ce cb cv c n l w h1 h2
  of_ A c l y w hl h := dnof_any A c l y w hl h
  told S E B V cs ce cb cv n o w h := dntold_any S E B V cs ce cb cv n o w h
  through S E B V I cs ce cb cv ci n it w h1 h2 h3 h4 h5 := dnthrough_any S E B V I cs ce cb cv ci n it w h1 h2 h3 h4 h5

end Go.Proofs.Ytoaclofobfaflaa
