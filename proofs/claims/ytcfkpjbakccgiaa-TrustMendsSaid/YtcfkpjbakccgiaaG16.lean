/-
  What span's Join answers; and the function that All answers: whatever the loop's body does, the objects of the list come, rising.
  What is asked of each of vector's functions (its contract), as one structure: the statements are walked once from it. With it: the fixed fact 'alive'.
  What stamp.Right and its helper answer, for all stamps; each leaves the memory that was there as it was.
  Loads and stores of a whole block, within a fence; arrays of 64 numbers by the type's own name.
-/
import Derived.Test.YtcfkpjbakccgiaaG15
import Derived.Test.YtcfkpjbakccgiaaG14
import Derived.RangeFuncFrom
import Derived.RangeFuncNested
import Derived.RangeFuncBound
import Derived.RangeFuncCalls
import Derived.RangeFuncLeaves
import Derived.RangeFuncWrites
import Derived.Shelf.Abstract
import Derived.Shelf.RegionOpen
import Derived.OwnWalkIn
import Derived.TacticsInMore
import Derived.LoopNIn
import Derived.LoopIn
import Derived.WalkMore
import Derived.Test.YtcfkpjbakccgiaaG08
import Derived.Test.YtcfkpjbakccgiaaG11
import Derived.Test.YtcfkpjbakccgiaaG03
import Derived.Test.YtcfkpjbakccgiaaProg
import Derived.Test.YtcfkpjbakccgiaaG06
import Derived.Tactics
import Derived.Tactics2
import Derived.WalkKit
import Derived.WalkSpells
import Derived.OwnWalk
import Derived.Deep.QuietTactic
import Derived.BigQuiet
import Derived.Deep.RegionHeld3
import Derived.KernelRfl
import Derived.Lib.Hide
import Derived.Maps.AppendAt
import Derived.Test.YtcfkpjbakccgiaaG13
namespace Go.Proofs.Ytcfkpjbakccgiaa
open Go.RowKit Go.Shelf Fb
attribute [local go_sem] Oper.semAt_some

set_option maxHeartbeats 800000 in
theorem spjoin_any (A : Option Addr) (c : Nat) (ls : List (List (Int × Int))) (w : World) (hn : ls.length ≤ 9223372036854775807) (htot : Sp.tot ls ≤ 9223372036854775807) (h : Rows w A ls) :
    Calls Try.prog 38 #[.slice A ls.length c] w (GivesS (Sp.joinS ls) w) := by
  have N1 := Lib.hid (setOf_any A c ls w hn htot h)
  clear h
  go_enter Try.func38, Try.ntmps38
  go_wp2_with fail
  refine N1.out.mono ?_
  rintro e w1 ⟨rfl, b1⟩
  clear N1
  go_wp2_with fail
  refine (spans_any _ _).mono ?_
  rintro e w2 ⟨v, rfl, ho, b2⟩
  have HO := Lib.hid ho
  clear ho
  go_wp2
  go_ret
  exact ⟨v, rfl, own_base HO.out b1.size, below_on b1 b2⟩

theorem joinS_one (l : List (Int × Int)) : Sp.joinS [l] = Sp.ofL (Sp.inL l) := Sp.ofL_ext fun o _ => by
  show (false || Sp.inL l o) = Sp.inL l o
  rw [Bool.false_or]

theorem wp_scope_in {n : Nat} {P : Program} {Q : Exit → Act → World → Prop} {a : Act} {w : World} {c : Code} (h : c.wpIn Fence.wide n P (Exit.noGoto Q) a w) : (Code.scope c).wpIn Fence.wide n P Q a w := wpIn_wide.2 (wp_scope_straight (wpIn_wide.1 h))

set_option maxRecDepth 100000 in
set_option maxHeartbeats 3200000 in
theorem eachO_in {α : Type} (told : α → Array Value) (gg : Nat → α) (ht : ∀ k, k < 256 → told (gg k) = #[.int .i64 (k : Int)]) (f : Nat → Bool) (n : Nat) (hn : 1 ≤ n)
    (l n₀ B bc s dc : Nat) (D : Option Addr) (J Jx : List α → World → Prop) (hJa : AbidesFrom s J)
    (hY : ∀ pre x W, J pre W → pre.length < 256 → YieldAt Fence.wide (n - 1) Try.prog l (told x) W fun e W' => (e = .returned (.bool true) ∧ J (pre ++ [x]) W' ∧ KeepC n₀ B W W') ∨ (e = .returned (.bool false) ∧ Jx (pre ++ [x]) W'))
    (W : World) (hB : W.cell? ⟨bc, 0, none⟩ = some (.slice D (Sp.ofL f).length dc))
    (hL : Sp.ofL f ≠ [] → ∃ g off, D = some ⟨g, off, none⟩ ∧ B ≤ g ∧ ∀ k, k < (Sp.ofL f).length → W.cell? ⟨g, off + k * 2, none⟩ = some (.int .i64 ((Sp.ofL f).getD k (0, 0)).1) ∧ W.cell? ⟨g, off + (k * 2 + 1), none⟩ = some (.int .i64 ((Sp.ofL f).getD k (0, 0)).2))
    (hle : B ≤ W.heap.size) (h0 : J [] W) :
    CallsIn Fence.wide n Try.prog 93 #[.func (.yield l) #[] #[], .pointer (some ⟨bc, 0, none⟩)] W fun e W' => (∃ v, e = .returned v) ∧
      ((∃ ys, ys = Sp.comesO gg f 256 ∧ J ys W') ∨ (∃ pre, pre <+: Sp.comesO gg f 256 ∧ Jx pre W')) := by
  have hlen := Sp.ofL_len f
  have hst := Sp.comesO_start gg f
  have hsp := Sp.comesO_step gg f
  have hen := Sp.comesO_end gg f
  have hgd := Sp.good_ofL f
  have hpr : ∀ k, k ≤ 256 → Sp.comesO gg f k <+: Sp.comesO gg f 256 := fun k hk => Sp.comesO_pre gg f k 256 hk
  obtain ⟨L, hLL⟩ : ∃ L, Sp.ofL f = L := ⟨_, rfl⟩
  rw [hLL] at hB hL hlen hst hsp hen hgd
  have HST := Lib.hid hst
  have HSP := Lib.hid hsp
  have HEN := Lib.hid hen
  have HGD := Lib.hid hgd
  have HPR := Lib.hid hpr
  have HJA := Lib.hid hJa
  have HL := Lib.hid hL
  clear hst hsp hen hgd hpr hJa hLL hL
  refine callsIn_of_wp Try.func93 rfl trivial ?_ rfl
  simp only [Try.ntmps93, List.size_toArray, List.length_cons, List.length_nil, Nat.reduceAdd, Nat.reduceSub, Array.replicate_succ, Array.replicate_zero, List.push_toArray, List.append_toArray, List.nil_append, List.cons_append]
  refine wp_scope_in ?_
  gi_wp2
  refine wpIn_label ?_
  gi_wp2
  gi_loopw [8] (fun s8 wr => ∃ k : Nat, k ≤ L.length ∧ s8 = .int .i64 (k : Int) ∧ J (Sp.comesO gg f (Sp.endTo L k)) wr ∧ KeepC n₀ B W wr) (fun s8 _ => L.length - (intOf s8).toNat)
  case atStart => exact ⟨0, Nat.zero_le _, rfl, h0, KeepC.refl _ _ _⟩
  case round =>
    obtain ⟨k, hk, rfl, hJs, hkp⟩ := hrel
    by_cases hlt : k < L.length
    · have hne : L ≠ [] := fun e => by subst e; simp at hlt
      obtain ⟨g, off, hD, hBg, hcs⟩ := HL.out hne
      subst hD
      obtain ⟨e0, e1⟩ := hcs k hlt
      replace e0 := hkp.cell e0 (.inr hBg)
      replace e1 : wr.cell? ⟨g, off + k * 2 + 1, none⟩ = some (.int .i64 (L.getD k (0, 0)).2) := hkp.cell e1 (.inr hBg)
      obtain ⟨q1, q2, q3, -⟩ := HGD.out k hlt
      have hst2 := HST.out k hlt
      have hsp2 := HSP.out k hlt
      have hi0 : (0 : Int) ≤ (k : Int) := by omega
      have hi1 : (k : Int) < (L.length : Int) := by omega
      have hen2 : Sp.endTo L (k + 1) = ((L.getD k (0, 0)).2 + 1).toNat := rfl
      obtain ⟨z, hz⟩ : ∃ z, L.getD k (0, 0) = z := ⟨_, rfl⟩
      rw [hz] at e0 e1 q1 q2 q3 hst2 hsp2 hen2
      obtain ⟨x, y⟩ := z
      obtain ⟨p, hp⟩ : ∃ p : Nat, x = (p : Int) := ⟨x.toNat, (Int.toNat_of_nonneg q1).symm⟩
      have q2' : x ≤ y := q2
      have q3' : y < 256 := q3
      obtain ⟨q, hq⟩ : ∃ q : Nat, y = (q : Int) := ⟨y.toNat, by omega⟩
      subst hp hq
      have hst3 := hst2 p rfl
      have hen3 : Sp.endTo L (k + 1) = q + 1 := by rw [hen2]; show (((q : Int) + 1)).toNat = q + 1; omega
      have hJ1 : J (Sp.comesO gg f p) (wr.alloc (.cells #[.int .i64 (p : Int), .int .i64 (q : Int)] 55)) := by
        rw [hst3]
        exact HJA.out _ _ _ none hJs (World.grownBy_alloc _ _ none) (fun r e => by cases e)
      have hkp1 : KeepC n₀ B W (wr.alloc (.cells #[.int .i64 (p : Int), .int .i64 (q : Int)] 55)) := hkp.trans (KeepC.below (below_new (Below.refl _ _) _))
      have B2 := Blk.new wr 55 #[.int .i64 (p : Int), .int .i64 (q : Int)]
      have hgs : B ≤ wr.heap.size := Nat.le_trans hle hkp.1
      obtain ⟨gs, hgs2⟩ : ∃ gs, wr.heap.size = gs := ⟨_, rfl⟩
      obtain ⟨W1, hW1⟩ : ∃ W1, wr.alloc (.cells #[.int .i64 (p : Int), .int .i64 (q : Int)] 55) = W1 := ⟨_, rfl⟩
      rw [hW1] at hJ1 hkp1 B2
      rw [hgs2] at B2 hgs
      have g0 := B2.cell (i := 0) rfl
      have g1 := B2.cell (i := 1) rfl
      have HW1 := Lib.hid hW1
      have HSP2 := Lib.hid hsp2
      have HEN3 := Lib.hid hen3
      clear hst2 hsp2 hen2 hz hW1 hcs hJs hkp hst3 hen3 B2
      gi_wp2_with fail
      rw [HW1.out]
      gi_loopw [5] (fun s5 wr => ∃ o : Nat, p ≤ o ∧ o ≤ q + 1 ∧ s5 = .int .i64 (o : Int) ∧ J (Sp.comesO gg f o) wr ∧ KeepC n₀ B W wr ∧ wr.cell? ⟨gs, 1, none⟩ = some (.int .i64 (q : Int))) (fun s5 _ => q + 1 - (intOf s5).toNat)
      case atStart => exact ⟨p, Nat.le_refl _, by omega, rfl, hJ1, hkp1, g1⟩
      case round =>
        obtain ⟨o, ho1, ho2, rfl, hJo, hko, hgo⟩ := hrel
        clear hJ1 hkp1 g0 g1 e0 e1
        by_cases hlt2 : o ≤ q
        · obtain ⟨fn, tmps, assign, body, hy, hR⟩ := hY _ (gg o) wr hJo (by have := Sp.comesO_short gg f o; omega)
          rw [ht o (by omega)] at hy
          have hd : decide ((o : Int) ≤ (q : Int)) = true := decide_eq_true (by omega)
          have HS1 := Lib.hid (HSP2.out o (by show (p : Int) ≤ (o : Int); omega) (by show (o : Int) ≤ (q : Int); omega))
          gi_wp2
          refine hR.mono ?_
          rintro e W3 (⟨rfl, hJ3, hk3⟩ | ⟨rfl, hJx3⟩)
          · gi_wp2
            go_roundw
            case rel => exact ⟨o + 1, by omega, by omega, by go_num, by rw [HS1.out]; exact hJ3, hko.trans hk3, hk3.cell hgo (.inr hgs)⟩
            case measure => simp [intOf]; omega
          · gi_wp2
            rw [Exit.noGoto_normal]
            go_end0
            exact ⟨⟨_, rfl⟩, .inr ⟨_, by rw [← HS1.out]; exact HPR.out _ (by omega), hJx3⟩⟩
        · have hoq : o = q + 1 := by omega
          subst hoq
          have hd : decide (((q + 1 : Nat) : Int) ≤ (q : Int)) = false := decide_eq_false (by omega)
          gi_wp2
          go_roundw
          case rel => exact ⟨k + 1, by omega, by go_num, by rw [HEN3.out]; exact hJo, hko⟩
          case measure => simp [intOf]; omega
    · have hkl : k = L.length := by omega
      subst hkl
      rw [HEN.out] at hJs
      gi_wp2
      rw [Exit.noGoto_normal]
      go_end0
      exact ⟨⟨_, rfl⟩, .inl ⟨_, rfl, hJs⟩⟩

end Go.Proofs.Ytcfkpjbakccgiaa
namespace Go.Proofs.Ytcfkpjbakccgiaa
open Go.RowKit

theorem Gives.ans {l : List (Int × Int)} {w w' : World} {e : Ending} (h : Gives l w e w') : Ans l w e w' := by
  obtain ⟨v, rfl, ho, hb⟩ := h
  obtain ⟨A, c, rfl, h1⟩ := OneL.of_own ho
  exact ⟨A, c, rfl, h1, hb⟩

theorem alive_joined : Ve.joinL [[(5, 0)], [(2, 3)]] = [(5, 0), (2, 3)] := by decide
theorem alive_has1 : hasOf [(5, 0), (2, 3)] 5 0 = true := by decide
theorem alive_has2 : hasOf [(5, 0), (2, 3)] 3 3 = false := by decide

end Go.Proofs.Ytcfkpjbakccgiaa
namespace Go.Proofs.Ytcfkpjbakccgiaa
open Go.RowKit

theorem rightNode_any (n : Int) (w : World) : Calls Try.prog 87 #[.int .i64 n] w fun e w' => e = .returned (.bool (St.rgtN n)) ∧ w = w' := by
  by_cases h0 : 0 ≤ n
  · by_cases h1 : n < 64
    · go_enter Try.func87, Try.ntmps87
      go_wp2
      go_ret
      rw [show St.rgtN n = true from decide_eq_true (by omega)]; exact ⟨rfl, rfl⟩
    · go_enter Try.func87, Try.ntmps87
      go_wp2
      go_ret
      rw [show St.rgtN n = false from decide_eq_false (by omega)]; exact ⟨rfl, rfl⟩
  · go_enter Try.func87, Try.ntmps87
    go_wp2
    go_ret
    rw [show St.rgtN n = false from decide_eq_false (by omega)]; exact ⟨rfl, rfl⟩

/-- stamp.Right. -/
theorem right_any (c n : Int) (w : World) :
    Calls Try.prog 68 #[.agg #[.int .i64 c, .int .i64 n]] w fun e w' => e = .returned (.bool (St.rgt c n)) ∧ Below w.heap.size w w' := by
  by_cases h : 1 ≤ c
  · have h1 : decide (1 ≤ c) = true := decide_eq_true h
    have h2 : St.rgt c n = St.rgtN n := by unfold St.rgt St.rgtN; simp [h]
    have H2 := Lib.hid h2; clear h2
    go_enter Try.func68, Try.ntmps68
    go_wp2_with (go_at_call 87; refine (rightNode_any _ _).mono ?_; rintro e w' ⟨rfl, rfl⟩)
    go_ret
    rw [H2.out]
    exact ⟨rfl, by repeat (first | exact Below.refl _ _ | exact Nat.le_refl _ | (apply Below.drew) | (refine Below.alloc ?_ ?_ _) | (refine Below.setCell ?_ ?_ _) | (simp; done) | (simp; omega))⟩
  · have h1 : decide (1 ≤ c) = false := decide_eq_false h
    have h2 : St.rgt c n = false := by unfold St.rgt; simp [h]
    have H2 := Lib.hid h2; clear h2
    go_enter Try.func68, Try.ntmps68
    go_wp2_with (go_at_call 87; refine (rightNode_any _ _).mono ?_; rintro e w' ⟨rfl, rfl⟩)
    go_ret
    rw [H2.out]
    exact ⟨rfl, by repeat (first | exact Below.refl _ _ | exact Nat.le_refl _ | (apply Below.drew) | (refine Below.alloc ?_ ?_ _) | (refine Below.setCell ?_ ?_ _) | (simp; done) | (simp; omega))⟩

end Go.Proofs.Ytcfkpjbakccgiaa
namespace Go.Proofs.Ytcfkpjbakccgiaa
open Go.RowKit Go.Shelf
attribute [local go_sem] Oper.semAt_some

theorem infoC : (Try.prog.info? 92).map (·.size) = some 64 := by kernel_rfl

/-- One of 64 numbers, by its place. -/
theorem index_counts (f : Nat → Int) (k : Nat) (hk : k < 64) (w : World) : (Instr.index 92 (.agg (Ve.arr f)) (.int .i64 (k : Int))).run Try.prog w = .ok (.int .i64 (f k)) w := by
  have h1 := Ve.arr_get f k hk
  simp [Instr.index, asIntOf, run_underlying Try.underlying92, part, Try.isAgg3, Try.sizeOf3, h1]
  intro h
  exact absurd h (by omega)

end Go.Proofs.Ytcfkpjbakccgiaa
