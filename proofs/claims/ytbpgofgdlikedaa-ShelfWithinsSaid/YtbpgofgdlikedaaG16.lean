/-
  What shelf's Put answers.
  What is asked of each of span's functions (its contract), as one structure. With it: the fixed fact 'alive'.
  What span's isObject, Formed and Has answer.
  What a set's spans answers: the list of the set, in memory of its own.
-/
import Derived.Test.YtbpgofgdlikedaaG15
import Derived.Test.YtbpgofgdlikedaaG06
import Derived.Test.YtbpgofgdlikedaaG03
namespace Go.Proofs.Ytbpgofgdlikedaa
open Go.RowKit Fb

namespace Sf
/-- An array holds what is known, the zero write where nothing is. -/
def Rep (F : Nat → Wr) (m : Mp) : Prop := ∀ i, i < 256 → F i = (m i).getD Nt.zeroW
theorem rep_none : Rep (fun _ => Nt.zeroW) none_ := fun _ _ => rfl
theorem Rep.put {F : Nat → Wr} {m : Mp} (h : Rep F m) {x : Wr} (hx : right x = true) : Rep (dput F x) (put1 m x) := fun i hi => by
  have hr := (right_iff x).1 hx
  have h1 : 1 ≤ x.1 := by have := hr.2.2; unfold St.rgt at this; simp at this; omega
  obtain ⟨o, ho⟩ : ∃ o : Nat, x.2.2.1 = (o : Int) := ⟨x.2.2.1.toNat, by omega⟩
  have ho2 : x.2.2.1.toNat = o := by omega
  have hFi := h i hi
  have hd : dput F x i = if 0 < St.cmpS x.1 x.2.1 (F o).1 (F o).2.1 then (if i = o then x else F i) else F i := by
    unfold dput
    rw [ho2]
    split <;> rfl
  rw [hd]
  by_cases e : i = o
  · subst e
    have hp : put1 m x i = some (newer x (m i)) := by unfold put1; rw [if_pos ho.symm]
    rw [hp, if_pos rfl]
    show _ = newer x (m i)
    rw [hFi]
    cases hm : m i with
    | none =>
      have hc : St.cmpS x.1 x.2.1 0 0 = 1 := St.cmpS_gt (by omega)
      show (if 0 < St.cmpS x.1 x.2.1 0 0 then x else Nt.zeroW) = x
      rw [if_pos (by omega)]
    | some y =>
      have hn := St.cmpS_neg x.1 x.2.1 y.1 y.2.1
      show (if 0 < St.cmpS x.1 x.2.1 y.1 y.2.1 then x else y) = if St.cmpS y.1 y.2.1 x.1 x.2.1 < 0 then x else y
      by_cases hc : 0 < St.cmpS x.1 x.2.1 y.1 y.2.1
      · rw [if_pos hc, if_pos (by omega)]
      · rw [if_neg hc, if_neg (by omega)]
  · have hp : put1 m x i = m i := by unfold put1; rw [if_neg (by omega)]
    rw [hp, if_neg e]
    split <;> exact hFi
theorem Rep.puts {F : Nat → Wr} {m : Mp} (h : Rep F m) : ∀ (l : List Wr), (∀ x ∈ l, right x = true) → Rep (dputs F l) (Sf.puts m l)
  | [], _ => h
  | x :: r, hr => Rep.puts (F := dput F x) (m := put1 m x) (h.put (hr x List.mem_cons_self)) r fun y hy => hr y (List.mem_cons_of_mem _ hy)
theorem put_set (x : Wr) (f : Mp) (h : ∀ j : Nat, (j : Int) = x.2.2.1 → f j = none) : put1 f x = set1 f x := by
  funext j
  unfold put1 set1
  by_cases e : (j : Int) = x.2.2.1
  · rw [if_pos e, if_pos e, h j e]; rfl
  · rw [if_neg e, if_neg e]
theorem puts_sets : ∀ (r : List Wr) (f : Mp), r.Pairwise (fun x y => x.2.2.1 < y.2.2.1) → (∀ x ∈ r, ∀ j : Nat, (j : Int) = x.2.2.1 → f j = none) → Sf.puts f r = r.foldl set1 f
  | [], _, _, _ => rfl
  | x :: r, f, hp, hf => by
    have hp := List.pairwise_cons.1 hp
    show Sf.puts (put1 f x) r = r.foldl set1 (set1 f x)
    rw [put_set x f (hf x List.mem_cons_self)]
    refine puts_sets r (set1 f x) hp.2 fun y hy j hj => ?_
    unfold set1
    have := hp.1 y hy
    rw [if_neg (by omega)]
    exact hf y (List.mem_cons_of_mem _ hy) j hj
theorem puts_of {l : List Wr} (h : fmd l = true) : Sf.puts none_ l = of l := puts_sets l none_ ((fmd_list l).1 h).2 fun _ _ _ _ => rfl
theorem flt_rep {F : Nat → Wr} {m : Mp} (h : Rep F m) (hk : Keyed m) : flt (lst F) = outTo m 256 := by
  unfold flt lst outTo
  have : ∀ L : List Nat, (∀ i ∈ L, i < 256) → (L.map F).filter (fun x => St.rgt x.1 x.2.1) = L.filterMap m := by
    intro L
    induction L with
    | nil => intro _; rfl
    | cons i r ih =>
      intro hi
      have ih := ih fun j hj => hi j (List.mem_cons_of_mem _ hj)
      have hF := h i (hi i List.mem_cons_self)
      rw [List.map_cons, List.filter_cons, List.filterMap_cons, ih]
      cases hm : m i with
      | none =>
        rw [hm] at hF
        have hF : F i = Nt.zeroW := hF
        rw [hF, if_neg (by show ¬ St.rgt 0 0 = true; decide)]
      | some x =>
        rw [hm] at hF
        have hF : F i = x := hF
        have := ((right_iff x).1 (hk i x hm).2.2).2.2
        rw [hF, if_pos this]
  exact this _ fun i hi => List.mem_range.1 hi
/-- What stands in the array behind both is what Put answers. -/
theorem put_two {l r : List Wr} (hl : fmd l = true) (hr : r.all right = true) : flt (lst (dputs (dputs (fun _ => Nt.zeroW) l) r)) = outTo (Sf.puts (of l) r) 256 := by
  have h1 := rep_none.puts l ((fmd_list l).1 hl).1
  rw [puts_of hl] at h1
  exact flt_rep (h1.puts r (all_right hr)) ((keyed_of hl).puts r (all_right hr))
end Sf

set_option maxRecDepth 100000 in
set_option maxHeartbeats 3200000 in
theorem sdputs_any (A B : Option Addr) (c d : Nat) (l r : List Wr) (w : World) (h : OneW w A c l) (h2 : OneW w B d r) :
    Calls Try.prog 13 #[.slice A l.length c, .slice B r.length d] w (AnsWE (Sf.putR l r).1 (Sf.putR l r).2 w) := by
  have N1 := Lib.hid (sdformed_any A c l w h)
  have N2 := Lib.hid (fun (w' : World) (b : Below w.heap.size w w') => allRight_any B d r w' (h2.later b))
  have H1 := Lib.hid h
  have H2 := Lib.hid h2
  have hR : Sf.putR l r = if Sf.fmd l = true then (if r.all Sf.right = true then (Sf.outTo (Sf.puts (Sf.of l) r) 256, 0) else ([], 1)) else ([], 1) := rfl
  rw [hR]
  clear h h2 hR
  cases hf : Sf.fmd l with
  | false =>
    rw [hf] at N1
    rw [if_neg Bool.false_ne_true]
    clear hf
    go_enter Try.func13, Try.ntmps13
    go_wp2_with fail
    refine N1.out.mono ?_
    rintro e w1 ⟨rfl, b1⟩
    have BB := Lib.hid b1
    clear N1 N2 b1
    go_wp2
    go_ret2
    exact ⟨none, 0, rfl, OneW.nil, BB.out⟩
  | true =>
  rw [if_pos rfl]
  cases ha : r.all Sf.right with
  | false =>
    rw [hf] at N1
    rw [ha] at N2
    rw [if_neg Bool.false_ne_true]
    clear hf ha
    go_enter Try.func13, Try.ntmps13
    go_wp2_with fail
    refine N1.out.mono ?_
    rintro e w1 ⟨rfl, b1⟩
    go_wp2_with fail
    refine (N2.out w1 b1).mono ?_
    rintro e w2 ⟨rfl, b2⟩
    have BB := Lib.hid (below_on b1 b2)
    clear N1 N2 b1 b2
    go_wp2
    go_ret2
    exact ⟨none, 0, rfl, OneW.nil, BB.out⟩
  | true =>
    rw [if_pos rfl]
    have HT := Lib.hid (Sf.put_two hf ha)
    have HRL := Lib.hid ((Sf.fmd_list l).1 hf).1
    have HRR := Lib.hid (Sf.all_right ha)
    rw [hf] at N1
    rw [ha] at N2
    obtain ⟨M, hM⟩ : ∃ M, Sf.outTo (Sf.puts (Sf.of l) r) 256 = M := ⟨_, rfl⟩
    rw [hM] at HT ⊢
    clear hf ha hM
    go_enter Try.func13, Try.ntmps13
    go_wp2_with fail
    refine N1.out.mono ?_
    rintro e w1 ⟨rfl, b1⟩
    go_wp2_with fail
    refine (N2.out w1 b1).mono ?_
    rintro e w2 ⟨rfl, b2⟩
    have bb2 := below_on b1 b2
    have bz := below_new (Below.refl w2.heap.size w2) (.cells Try.zeroCells49 49)
    have BZ := Blk.new w2 49 Try.zeroCells49
    obtain ⟨W, hW⟩ : ∃ W, w2.alloc (.cells Try.zeroCells49 49) = W := ⟨_, rfl⟩
    rw [hW] at bz BZ
    rw [pls_zero] at BZ
    have N3 := Lib.hid (sdput_any w2 w2.heap.size _ A c l W (Nat.le_refl _) bz (H1.out.later bb2) HRL.out BZ)
    have HW := Lib.hid hW
    have BB2 := Lib.hid bb2
    have L2 := Lib.hid (H2.out.later bb2)
    clear N1 N2 b1 b2 bb2 bz BZ hW HRL
    go_wp2_with fail
    rw [HW.out]
    refine N3.out.mono ?_
    rintro e w3 ⟨⟨v3, rfl⟩, P3, b3⟩
    have N4 := Lib.hid (sdput_any w2 w2.heap.size _ B d r w3 (Nat.le_refl _) b3 L2.out HRR.out P3)
    clear P3 b3 N3 HW L2 HRR
    go_wp2_with fail
    refine N4.out.mono ?_
    rintro e w4 ⟨⟨v4, rfl⟩, P4, b4⟩
    have N5 := Lib.hid (sdshelf_any w2.heap.size _ w4 P4)
    rw [HT.out] at N5
    have B4 := Lib.hid (Below.trans BB2.out (b4.mono BB2.out.size))
    clear P4 b4 N4 HT BB2
    go_wp2_with fail
    refine N5.out.mono ?_
    rintro e w5 ⟨v, rfl, ho, b5⟩
    obtain ⟨VA, vc, rfl, hO⟩ := OneW.of_own ho
    have HO := Lib.hid hO
    have B5 := Lib.hid (below_on B4.out b5)
    clear ho hO b5 N5 B4
    go_wp2
    go_ret2
    exact ⟨VA, vc, rfl, HO.out, B5.out⟩
end Go.Proofs.Ytbpgofgdlikedaa
namespace Go.Proofs.Ytbpgofgdlikedaa
open Go.RowKit

theorem GivesS.ans {l : List (Int × Int)} {w w' : World} {e : Ending} (h : GivesS l w e w') : Ans l w e w' := h.one

/-- A list of numbers by value. -/
def Nums (w : World) (A : Option Addr) (c : Nat) (xs : List Int) : Prop := xs.length ≤ c ∧ c ≤ maxLen ∧ (A = none → xs.length = 0 ∧ c = 0) ∧ Lies w A (xs.map (Value.int .i64))
theorem Nums.later {w w' : World} {A : Option Addr} {c : Nat} {xs : List Int} (h : Nums w A c xs) (hb : Below w.heap.size w w') : Nums w' A c xs := ⟨h.1, h.2.1, h.2.2.1, h.2.2.2.later hb⟩
theorem Nums.len {w : World} {A : Option Addr} {c : Nat} {xs : List Int} (h : Nums w A c xs) : xs.length ≤ 9223372036854775807 := by
  have h1 := h.1
  have h2 := h.2.1
  unfold maxLen at h2
  omega

theorem salive_of : Sp.ofL (Sp.someOf [3, 1, 2, 7, 300]) = [(1, 3), (7, 7)] := by
  refine Sp.good_uniq (Sp.good_ofL _) ?_ ?_
  · intro j hj
    have : j = 0 ∨ j = 1 := by simp at hj; omega
    rcases this with rfl | rfl <;> simp
  · intro o ho
    rw [Sp.inL_ofL _ o ho]
    unfold Sp.someOf Sp.inL
    rw [Bool.eq_iff_iff]
    simp
    omega
theorem salive_7 : inOf [(1, 3), (7, 7)] 7 = true := by decide
theorem salive_300 : inOf [(1, 3), (7, 7)] 300 = false := by decide
theorem salive_sz : Sp.sz (Sp.inL [(1, 3), (7, 7)]) = 4 := by kernel_rfl

end Go.Proofs.Ytbpgofgdlikedaa
namespace Go.Proofs.Ytbpgofgdlikedaa
open Go.RowKit Fb

set_option maxHeartbeats 800000 in
theorem isObject_any (o : Int) (w : World) : Calls Try.prog 37 #[.int .i64 o] w fun e w' => e = .returned (.bool (decide (0 ≤ o ∧ o ≤ 255))) ∧ Below w.heap.size w w' := by
  by_cases h0 : 0 ≤ o
  · have d0 : decide (0 ≤ o) = true := decide_eq_true h0
    by_cases h1 : o < 256
    · have d1 : decide (o < 256) = true := decide_eq_true h1
      rw [show decide (0 ≤ o ∧ o ≤ 255) = true from decide_eq_true (by omega)]
      go_enter Try.func37, Try.ntmps37
      go_wp2
      go_ret
      exact ⟨rfl, Below.refl _ _⟩
    · have d1 : decide (o < 256) = false := decide_eq_false h1
      rw [show decide (0 ≤ o ∧ o ≤ 255) = false from decide_eq_false (by omega)]
      go_enter Try.func37, Try.ntmps37
      go_wp2
      go_ret
      exact ⟨rfl, Below.refl _ _⟩
  · have d0 : decide (0 ≤ o) = false := decide_eq_false h0
    rw [show decide (0 ≤ o ∧ o ≤ 255) = false from decide_eq_false (by omega)]
    go_enter Try.func37, Try.ntmps37
    go_wp2
    go_ret
    exact ⟨rfl, Below.refl _ _⟩

/-- A span as it must be behind those ahead of it. -/
def Sp.apt (l : List (Int × Int)) (j : Nat) : Prop := 0 ≤ (l.getD j (0, 0)).1 ∧ (l.getD j (0, 0)).1 ≤ (l.getD j (0, 0)).2 ∧ (l.getD j (0, 0)).2 < 256 ∧ (0 < j → (l.getD (j - 1) (0, 0)).2 + 1 < (l.getD j (0, 0)).1)
theorem Sp.apt_good (l : List (Int × Int)) : Sp.good 256 l ↔ ∀ j, j < l.length → Sp.apt l j := Iff.rfl
theorem Sp.fmd_no (l : List (Int × Int)) (k : Nat) (hk : k < l.length) (h : ¬ Sp.apt l k) : Sp.fmd l = false := by
  rcases Sp.two (Sp.fmd l) with h1 | h1
  · exact absurd ((Sp.fmd_iff l).1 h1 k hk) h
  · exact h1

set_option maxHeartbeats 1600000 in
theorem sphas_any (A : Option Addr) (c1 : Nat) (l : List (Int × Int)) (o : Int) (w : World) (h1 : OneL w A c1 l) :
    Calls Try.prog 28 #[.slice A l.length c1, .int .i64 o] w (Says (.bool (inOf l o)) w) := by
  have hl := h1.len
  have n1 := isObject_any o
  by_cases h0 : 0 ≤ o ∧ o ≤ 255
  · obtain ⟨p, rfl⟩ : ∃ p : Nat, o = (p : Int) := ⟨o.toNat, by omega⟩
    have hi : inOf l (p : Int) = Sp.inL l p := by unfold inOf; rw [decide_eq_true h0]; rfl
    rw [decide_eq_true h0] at n1
    rw [hi]
    have N1 := Lib.hid n1
    have HS := Lib.hid h1.stamps
    clear n1 h1 hi h0
    go_enter Try.func28, Try.ntmps28
    go_wp2_with fail
    refine (N1.out _).mono ?_
    rintro e w1 ⟨rfl, b1⟩
    clear N1
    go_wp2_with fail
    go_loopw [12] (fun s12 wr => ∃ k : Nat, k ≤ l.length ∧ s12 = .int .i64 (k : Int) ∧ Sp.inL (l.take k) p = false ∧ Below w.heap.size w wr) (fun s12 _ => l.length - (intOf s12).toNat)
    case atStart => exact ⟨0, Nat.zero_le _, rfl, rfl, b1⟩
    case round =>
      obtain ⟨k, hk, rfl, hin, hbw⟩ := hrel
      by_cases hlt : k < l.length
      · have hne : l ≠ [] := fun e => by subst e; simp at hlt
        obtain ⟨b, off, hA, hc⟩ := (HS.out.later hbw) hne
        subst hA
        obtain ⟨e0, e1⟩ := hc k hlt
        rw [List.getD_eq_getElem?_getD, List.getElem?_eq_getElem hlt, Option.getD_some] at e0 e1
        have hi0 : (0 : Int) ≤ (k : Int) := by omega
        have hi1 : (k : Int) < (l.length : Int) := by omega
        have hit := Sp.inL_take l k hlt p
        have hmem : l[k].1 ≤ (p : Int) → (p : Int) ≤ l[k].2 → Sp.inL l p = true := fun q1 q2 => (Sp.inL_iff l p).2 ⟨l[k], List.getElem_mem hlt, q1, q2⟩
        rw [hin, Bool.false_or] at hit
        obtain ⟨z, hz⟩ : ∃ z, l[k] = z := ⟨_, rfl⟩
        rw [hz] at e0 e1 hit hmem
        obtain ⟨x, y⟩ := z
        have HIT := Lib.hid (show Sp.inL (l.take (k + 1)) p = decide (x ≤ (p : Int) ∧ (p : Int) ≤ y) from hit)
        have HM := Lib.hid (show x ≤ (p : Int) → (p : Int) ≤ y → Sp.inL l p = true from hmem)
        have hbn := below_new hbw (.cells #[.int .i64 x, .int .i64 y] 66)
        clear hit hmem hz hin hc b1
        by_cases c1 : x ≤ (p : Int)
        · have d1 : decide (x ≤ (p : Int)) = true := decide_eq_true c1
          by_cases c2 : (p : Int) ≤ y
          · have d2 : decide ((p : Int) ≤ y) = true := decide_eq_true c2
            have HQ := Lib.hid (HM.out c1 c2)
            clear HM HIT
            go_wp2
            go_ret
            exact ⟨by rw [HQ.out]; rfl, hbn⟩
          · have d2 : decide ((p : Int) ≤ y) = false := decide_eq_false c2
            have HQ := Lib.hid (show Sp.inL (l.take (k + 1)) p = false from by rw [HIT.out]; exact decide_eq_false (fun h => c2 h.2))
            clear HM HIT
            go_wp2_with fail
            go_roundw
            case rel => exact ⟨k + 1, by omega, by go_num, HQ.out, hbn⟩
            case measure => simp [intOf]; omega
        · have d1 : decide (x ≤ (p : Int)) = false := decide_eq_false c1
          have HQ := Lib.hid (show Sp.inL (l.take (k + 1)) p = false from by rw [HIT.out]; exact decide_eq_false (fun h => c1 h.1))
          clear HM HIT
          go_wp2_with fail
          go_roundw
          case rel => exact ⟨k + 1, by omega, by go_num, HQ.out, hbn⟩
          case measure => simp [intOf]; omega
      · have hkl : k = l.length := by omega
        subst hkl
        rw [List.take_length] at hin
        have HQ := Lib.hid hin
        clear hin b1
        go_wp2
        go_ret
        exact ⟨by rw [HQ.out]; rfl, hbw⟩
  · have hi : inOf l o = false := by unfold inOf; rw [decide_eq_false h0]; rfl
    rw [decide_eq_false h0] at n1
    rw [hi]
    have N1 := Lib.hid n1
    clear n1 h1 hi
    go_enter Try.func28, Try.ntmps28
    go_wp2_with fail
    refine (N1.out _).mono ?_
    rintro e w1 ⟨rfl, b1⟩
    go_wp2
    go_ret
    exact ⟨rfl, b1⟩

end Go.Proofs.Ytbpgofgdlikedaa
namespace Go.Proofs.Ytbpgofgdlikedaa
open Go.RowKit Fb

theorem infoSet : (Try.prog.info? 61).map (·.size) = some 256 := by kernel_rfl

/-- One of 256 marks, by its place. -/
theorem index_set (f : Nat → Bool) (k : Nat) (hk : k < 256) (w : World) : (Instr.index 61 (.agg (Sp.arr f)) (.int .i64 (k : Int))).run Try.prog w = .ok (.bool (f k)) w := by
  have h1 := Sp.arr_get f k hk
  simp [Instr.index, asIntOf, run_underlying Try.underlying61, part, Try.isAgg4, Try.sizeOf4, h1]
  intro h
  exact absurd h (by omega)

set_option maxRecDepth 100000 in
set_option maxHeartbeats 3200000 in
theorem spans_any (f : Nat → Bool) (w : World) : Calls Try.prog 36 #[.agg (Sp.arr f)] w (GivesS (Sp.ofL f) w) := by
  obtain ⟨i0, hi, hz0, hz1, hz2⟩ := info_parts infoSp
  go_enter Try.func36, Try.ntmps36
  go_wp2_with (refine wpList_load_row rfl 61 _ rfl w.heap.size rfl 61 (Sp.arr f) (0, 0) _ (Blk.new w 61 (Sp.arr f)) Try.underlying61 rfl (by rw [Sp.arr_size]; exact infoSet) ?_)
  go_loopw [3, 7] (fun s3 s4 wr => ∃ k : Nat, k ≤ 256 ∧ s4 = .int .i64 (k : Int) ∧ wr.ownsRow (w.heap.size + 1) 66 2 s3 (Sp.ofTo f k).length (stCells (Sp.ofTo f k)) ∧ Blk wr w.heap.size 61 (Sp.arr f) ∧ Below w.heap.size w wr) (fun _ s4 _ => 256 - (intOf s4).toNat)
  case atStart => exact ⟨0, by omega, rfl, ⟨rfl, .inl ⟨rfl, rfl⟩⟩, Blk.new _ _ _, below_new (Below.refl _ _) _⟩
  case round =>
    obtain ⟨k, hk, rfl, hown, hB, hbw⟩ := hrel
    by_cases hlt : k < 256
    · have hix := fun w => index_set f k hlt w
      have hi0 : (0 : Int) ≤ (k : Int) := by omega
      have hi1 : (k : Int) < 256 := by omega
      have hln : (Sp.ofTo f k).length ≤ 256 := by have := Sp.ofTo_short f k; omega
      have hsz := hbw.size
      have HB := Lib.hid hB
      have hst := Sp.ofTo.eq_2 f k
      have his := (Sp.ofTo_is f k).2.2.1
      cases hp : f k
      · rw [hp] at hix hst
        have HST := Lib.hid (hst.trans (if_neg (by simp)))
        have HO := Lib.hid hown
        clear hown hst hp hB his
        go_wp2_with fail
        go_roundw
        case rel => exact ⟨k + 1, by omega, by go_num, by rw [HST.out]; exact HO.out, HB.out, hbw⟩
        case measure => simp [intOf]; omega
      · rw [hp] at hix hst
        rw [if_pos rfl] at hst
        by_cases hq : 0 < k ∧ f (k - 1) = true
        · rw [if_pos hq] at hst
          obtain ⟨hl0, _⟩ := his hq.1 hq.2
          obtain ⟨m, rfl⟩ : ∃ m, k = m + 1 := ⟨k - 1, by omega⟩
          have c1 := hB.marks_cell m (by omega)
          replace hix : ∀ w, (Instr.index 61 (.agg (Sp.arr f)) (.int .i64 ((m : Int) + 1))).run Try.prog w = .ok (.bool true) w := fun w => hix w
          have hfm : f m = true := hq.2
          rw [hfm] at c1
          have hm1 : ((m + 1 : Nat) : Int) - 1 = (m : Int) := by omega
          have hm0 : (0 : Int) ≤ (m : Int) := by omega
          have hm2 : (m : Int) < 256 := by omega
          have hg : decide (((m + 1 : Nat) : Int) > 0) = true := decide_eq_true (by omega)
          obtain ⟨g, cap, rfl⟩ := own_len hown hl0
          obtain ⟨hg1, hg2⟩ := own_base_le hown
          have hrc := reach_cells _ hl0 ((m + 1 : Nat) : Int)
          have hrl := Sp.reach_len _ ((m + 1 : Nat) : Int) hl0
          obtain ⟨L, hL⟩ : ∃ L, Sp.ofTo f (m + 1) = L := ⟨_, rfl⟩
          rw [hL] at hown hrc hrl hst hl0 hln
          obtain ⟨q, hq1⟩ : ∃ q, L.length = q + 1 := ⟨L.length - 1, by omega⟩
          have hcl := own_cell_at hown (i := q * 2 + 1) (stCells_get L q (by omega)).2
          have hfr := own_free_at hown (q * 2 + 1)
          have hpt := own_put hown (q * 2 + 1) (.int .i64 ((m + 1 : Nat) : Int))
          rw [hq1, show q + 1 - 1 = q from rfl] at hrc
          rw [hrc] at hpt
          rw [← hst] at hpt hrl
          rw [← hrl] at hpt
          have hq2 : ((q + 1 : Nat) : Int) - 1 = (q : Int) := by omega
          have hq3 : (0 : Int) ≤ (q : Int) := by omega
          have hq4 : (q : Int) < ((q + 1 : Nat) : Int) := by omega
          have hB2 := Lib.hid (HB.out.far (p := ⟨g, q * 2 + 1, none⟩) (by show w.heap.size ≠ g; omega) (.int .i64 ((m + 1 : Nat) : Int)))
          have hb2 := hbw.setCell (p := ⟨g, q * 2 + 1, none⟩) (by show w.heap.size ≤ g; omega) (.int .i64 ((m + 1 : Nat) : Int))
          rw [hrl, hq1] at hpt
          rw [hL, hq1]
          have HPT := Lib.hid hpt
          have HRL := Lib.hid (hrl.trans hq1)
          clear hpt hrc hst hown hB hq hp hfm hL his hl0
          go_wp2_with fail
          go_roundw
          case rel => exact ⟨m + 1 + 1, by omega, by go_num, by rw [HRL.out]; exact HPT.out, hB2.out, hb2⟩
          case measure => simp [intOf]; omega
        · have hgd : 0 < k → f (k - 1) = false := fun h0 => by
            cases hf : f (k - 1) with
            | false => rfl
            | true => exact absurd ⟨h0, hf⟩ hq
          rw [if_neg hq] at hst
          have HST := Lib.hid hst
          cases k with
          | zero =>
            replace hix : ∀ w, (Instr.index 61 (.agg (Sp.arr f)) (.int .i64 0)).run Try.prog w = .ok (.bool true) w := fun w => hix w
            clear hst hq hp hB his
            go_wp2_with (at_builtin; refine wpList_append_lies _ rfl _ _ 37 rfl (w.heap.size + 1) 66 i0 (.agg #[.int .i64 0, .int .i64 0]) 2 16 Try.underlying37 hi hz0 hz1 hz2 rfl (by decide) _ (Sp.ofTo f 0).length (stCells (Sp.ofTo f 0)) rfl (hown.alloc _) (some ⟨wr.heap.size, 0, none⟩) 1 1 (fun h => by cases h) (stCells [(0, 0)]) rfl rfl ?c1 (stCells_one _) ?c3 ?c4 ?c5 ?_)
            case c1 =>
              intro _
              refine ⟨wr.heap.size, 0, rfl, fun j u hu => ?_⟩
              rw [Nat.zero_add]
              exact (Blk.new wr 66 #[.int .i64 0, .int .i64 0]).cell (by simpa [stCells] using hu)
            case c3 => unfold maxLen; omega
            case c4 => omega
            case c5 => have := HB.out.lt; simp; omega
            intro v' w1 hown1 hg1 _
            have hB1 : Blk w1 w.heap.size 61 (Sp.arr f) := (hg1.block w.heap.size (by have := HB.out.lt; simp; omega) (fun e => by have := own_ge hown _ e.symm; omega)).trans (HB.out.alloc _)
            have hb1 : Below w.heap.size w w1 := (below_new hbw _).grown hg1 (by simp; omega) (fun k' hk' => by have := own_ge hown _ hk'; omega)
            rw [← stCells_append, show (Sp.ofTo f 0).length + 1 = (Sp.ofTo f 0 ++ [(((0 : Nat) : Int), ((0 : Nat) : Int))]).length from by simp] at hown1
            have HO := Lib.hid (show w1.ownsRow _ _ _ v' _ (stCells (Sp.ofTo f 0 ++ [(((0 : Nat) : Int), ((0 : Nat) : Int))])) from hown1)
            have HB1 := Lib.hid hB1
            clear hown1 hB1 hown hg1
            go_wp2_with fail
            go_roundw
            case rel => exact ⟨0 + 1, by omega, by go_num, by rw [HST.out]; exact HO.out, HB1.out, hb1⟩
            case measure => simp [intOf]
          | succ m =>
            have c1 := hB.marks_cell m (by omega)
            replace hix : ∀ w, (Instr.index 61 (.agg (Sp.arr f)) (.int .i64 ((m : Int) + 1))).run Try.prog w = .ok (.bool true) w := fun w => hix w
            have hfm : f m = false := hgd (by omega)
            rw [hfm] at c1
            have hm1 : ((m + 1 : Nat) : Int) - 1 = (m : Int) := by omega
            have hm0 : (0 : Int) ≤ (m : Int) := by omega
            have hm2 : (m : Int) < 256 := by omega
            have hg : decide (((m + 1 : Nat) : Int) > 0) = true := decide_eq_true (by omega)
            clear hst hq hp hB his hgd hfm
            go_wp2_with (at_builtin; refine wpList_append_lies _ rfl _ _ 37 rfl (w.heap.size + 1) 66 i0 (.agg #[.int .i64 0, .int .i64 0]) 2 16 Try.underlying37 hi hz0 hz1 hz2 rfl (by decide) _ (Sp.ofTo f (m + 1)).length (stCells (Sp.ofTo f (m + 1))) rfl (hown.alloc _) (some ⟨wr.heap.size, 0, none⟩) 1 1 (fun h => by cases h) (stCells [(((m + 1 : Nat) : Int), ((m + 1 : Nat) : Int))]) rfl rfl ?c1 (stCells_one _) ?c3 ?c4 ?c5 ?_)
            case c1 =>
              intro _
              refine ⟨wr.heap.size, 0, rfl, fun j u hu => ?_⟩
              rw [Nat.zero_add]
              exact (Blk.new wr 66 #[.int .i64 ((m + 1 : Nat) : Int), .int .i64 ((m + 1 : Nat) : Int)]).cell (by simpa [stCells] using hu)
            case c3 => unfold maxLen; omega
            case c4 => omega
            case c5 => have := HB.out.lt; simp; omega
            intro v' w1 hown1 hg1 _
            have hB1 : Blk w1 w.heap.size 61 (Sp.arr f) := (hg1.block w.heap.size (by have := HB.out.lt; simp; omega) (fun e => by have := own_ge hown _ e.symm; omega)).trans (HB.out.alloc _)
            have hb1 : Below w.heap.size w w1 := (below_new hbw _).grown hg1 (by simp; omega) (fun k' hk' => by have := own_ge hown _ hk'; omega)
            rw [← stCells_append, show (Sp.ofTo f (m + 1)).length + 1 = (Sp.ofTo f (m + 1) ++ [(((m + 1 : Nat) : Int), ((m + 1 : Nat) : Int))]).length from by simp] at hown1
            have HO := Lib.hid hown1
            have HB1 := Lib.hid hB1
            clear hown1 hB1 hown hg1
            go_wp2_with fail
            go_roundw
            case rel => exact ⟨m + 1 + 1, by omega, by go_num, by rw [HST.out]; exact HO.out, HB1.out, hb1⟩
            case measure => simp [intOf]; omega
    · have hk64 : k = 256 := by omega
      subst hk64
      have HO := Lib.hid hown
      clear hown
      go_wp2
      go_ret
      exact ⟨_, rfl, own_base HO.out (by omega), hbw⟩

end Go.Proofs.Ytbpgofgdlikedaa
