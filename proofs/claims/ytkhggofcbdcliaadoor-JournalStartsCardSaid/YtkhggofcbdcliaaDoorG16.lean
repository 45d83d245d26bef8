/-
  What frame's Seal, and telltaleref07's four, length and Seal answer.
  What telltaleref09's Last, Start, Append, Drop answer.
  What pack's numberBytes answers.
  What bytes.Clone, pack's AppendNumber and AppendRow answer.
-/
import Derived.Test.YtkhggofcbdcliaaDoorG15
import Derived.Test.YtkhggofcbdcliaaDoorG10
import Derived.Test.YtkhggofcbdcliaaDoorG14
import Derived.Test.YtkhggofcbdcliaaDoorG06
import Derived.Lib.SliceRun
namespace Go.Proofs.YtkhggofcbdcliaaDoor
open Go.RowKit

/-- Bytes and an error are answered, the bytes in memory of the call's own. -/
def GivesBE (l : List Int) (k : Int) (w : World) (e : Ending) (w' : World) : Prop :=
  ∃ v, e = .returned (.tuple #[v, .int .i64 k]) ∧ w'.ownsRow w.heap.size 5 1 v l.length (bCells l) ∧ Below w.heap.size w w'
theorem none_own (w : World) (base : Nat) : w.ownsRow base 5 1 (.slice none 0 0) ([] : List Int).length (bCells []) := ⟨rfl, .inl ⟨rfl, rfl⟩⟩

set_option maxHeartbeats 800000 in
theorem rfour_any (n : Nat) (hn : n < 4294967296) (w : World) : Calls Tryd.prog 51 #[.int .u32 (n : Int)] w (GivesB (Fr.w4 n) w) := by
  go_enter Tryd.func51, Tryd.ntmps51
  go_wp2
  go_ret
  have e0 : (n : Int) / 16777216 = ((n / 16777216 % 256 : Nat) : Int) := by omega
  refine ⟨_, rfl, ⟨rfl, .inr ⟨w.heap.size, 4, _, rfl, Nat.le_refl _, heap_alloc_new w _, Nat.le_refl _, by unfold maxLen; omega, rfl, ?_⟩⟩, below_new (Below.refl _ _) _⟩
  rw [e0]
  rfl
theorem wraps_i64 (n : Int) (h₀ : 0 ≤ n) (h₁ : n < 2 ^ 63) : IntKind.i64.wrap n = n := by rw [IntKind.wrap_i64]; omega
theorem or64 (i : Nat) (x y : Int) (hx0 : 0 ≤ x) (hx1 : x < 9223372036854775808) (hx : x % 2 ^ i = 0) (hy0 : 0 ≤ y) (hy : y < 2 ^ i ∧ y < 9223372036854775808) : bits BinOp.or IntKind.i64 x y = x + y := bits_join .i64 63 (by decide) wraps_i64 i x y hx0 hx hx1 hy0 hy.1 hy.2
set_option maxRecDepth 100000 in
set_option maxHeartbeats 800000 in
theorem rlen_any (A : Option Addr) (c : Nat) (l : List Int) (w : World) (h : OneB w A c l) (h4 : 4 ≤ l.length) : Calls Tryd.prog 66 #[.slice A l.length c] w (Says (.int .i64 ((Fr.num4 l : Nat) : Int)) w) := by
  obtain ⟨g, off, rfl, hc⟩ := h.at (by intro e; rw [e] at h4; simp at h4)
  have hb0 := h.byte _ (List.getElem_mem (l := l) (n := 0) (by omega))
  have hb1 := h.byte _ (List.getElem_mem (l := l) (n := 1) (by omega))
  have hb2 := h.byte _ (List.getElem_mem (l := l) (n := 2) (by omega))
  have hb3 := h.byte _ (List.getElem_mem (l := l) (n := 3) (by omega))
  have e0 : l.getD 0 0 = l[0] := by rw [List.getD_eq_getElem?_getD, List.getElem?_eq_getElem]; rfl
  have e1 : l.getD 1 0 = l[1] := by rw [List.getD_eq_getElem?_getD, List.getElem?_eq_getElem]; rfl
  have e2 : l.getD 2 0 = l[2] := by rw [List.getD_eq_getElem?_getD, List.getElem?_eq_getElem]; rfl
  have e3 : l.getD 3 0 = l[3] := by rw [List.getD_eq_getElem?_getD, List.getElem?_eq_getElem]; rfl
  have c0 := hc 0 (by omega)
  have c1 := hc 1 (by omega)
  have c2 := hc 2 (by omega)
  have c3 := hc 3 (by omega)
  unfold Fr.num4
  rw [e0] at c0 ⊢; rw [e1] at c1 ⊢; rw [e2] at c2 ⊢; rw [e3] at c3 ⊢
  generalize l[0] = x0 at *
  generalize l[1] = x1 at *
  generalize l[2] = x2 at *
  generalize l[3] = x3 at *
  have hcap := h.cap
  have hle := h.le
  unfold maxLen at hcap
  unfold isB at hb0 hb1 hb2 hb3
  rw [Nat.add_zero] at c0
  clear h hc e0 e1 e2 e3
  have i0 : (0 : Int) < (l.length : Int) := by omega
  have i1 : (1 : Int) < (l.length : Int) := by omega
  have i2 : (2 : Int) < (l.length : Int) := by omega
  have i3 : (3 : Int) < (l.length : Int) := by omega
  obtain ⟨k, hk⟩ : ∃ k, l.length = k := ⟨_, rfl⟩
  rw [hk] at hle h4 i0 i1 i2 i3 ⊢
  clear hk
  go_enter Tryd.func66, Tryd.ntmps66
  go_wp2_with fail
  go_quiet (fail)
  go_wp2
  go_ret
  refine ⟨?_, below_drewN (Below.refl _ _) _⟩
  have j1 : bits BinOp.or IntKind.i64 (x0 * 16777216) (x1 * 65536) = x0 * 16777216 + x1 * 65536 := or64 24 _ _ (by omega) (by omega) (by omega) (by omega) (by omega)
  have j2 : bits BinOp.or IntKind.i64 (x0 * 16777216 + x1 * 65536) (x2 * 256) = x0 * 16777216 + x1 * 65536 + x2 * 256 := or64 16 _ _ (by omega) (by omega) (by omega) (by omega) (by omega)
  have j3 : bits BinOp.or IntKind.i64 (x0 * 16777216 + x1 * 65536 + x2 * 256) x3 = x0 * 16777216 + x1 * 65536 + x2 * 256 + x3 := or64 8 _ _ (by omega) (by omega) (by omega) (by omega) (by omega)
  rw [show ((x0.toNat * 16777216 + x1.toNat * 65536 + x2.toNat * 256 + x3.toNat : Nat) : Int) = x0 * 16777216 + x1 * 65536 + x2 * 256 + x3 by omega, ← j3, ← j2, ← j1]
  rfl

/-- What Seal answers. -/
def Fr.sealed (p : List Int) : List Int × Int := if p.length ≤ 1048576 then (Fr.frm p, 0) else ([], 1)

set_option maxRecDepth 100000 in
set_option maxHeartbeats 6400000 in
theorem dseal_any (A : Option Addr) (c : Nat) (p : List Int) (w : World) (h : OneB w A c p) (hH : Halves w) :
    Calls Tryd.prog 27 #[.slice A p.length c] w (GivesBE (Fr.sealed p).1 (Fr.sealed p).2 w) := by
  have hl := h.len
  unfold Fr.sealed
  by_cases hp : p.length ≤ 1048576
  · rw [if_pos hp]
    have hd : decide ((1048576 : Int) < (p.length : Int)) = false := decide_eq_false (by omega)
    have N1 := Lib.hid (fword_any p.length (by omega) w)
    have HB := Lib.hid h; have HH := Lib.hid hH
    have hs := Fr.seal_len p
    have hfin : [Fr.w4 p.length, Fr.w4 (Fr.sum (Fr.w4 p.length ++ p)), p].flatten = Fr.frm p := by unfold Fr.frm; simp
    have hfin2 : [Fr.w4 p.length, p].flatten = Fr.w4 p.length ++ p := by simp
    obtain ⟨sm, hsm⟩ : ∃ sm, Fr.sum (Fr.w4 p.length ++ p) = sm := ⟨_, rfl⟩
    have hslt := Fr.sum_lt (Fr.w4 p.length ++ p)
    rw [hsm] at hfin hslt
    have HF := Lib.hid hfin; have HF2 := Lib.hid hfin2; have HSM := Lib.hid hsm
    have hfl : (Fr.frm p).length ≤ 140737488355328 := by omega
    rw [← hfin] at hfl ⊢
    clear h hH hfin hfin2 hsm hs
    go_enter Tryd.func27, Tryd.ntmps27
    go_wp2_with fail
    refine N1.out.mono ?_
    rintro e w1 ⟨v1, rfl, ho1, b1⟩
    obtain ⟨A1, c1, rfl, hO1⟩ := OneB.of_own ho1 (Fr.w4_byte _)
    have HO1 := Lib.hid hO1
    have bn := below_new (Below.refl w1.heap.size w1) (.cells #[.slice A1 (Fr.w4 p.length).length c1, .slice A p.length c] 25)
    have N2 := fsum_any w1.heap.size 2 (by omega) [(A1, c1), (A, c)] [Fr.w4 p.length, p] (w1.alloc (.cells #[.slice A1 (Fr.w4 p.length).length c1, .slice A p.length c] 25)) rfl rfl (Blk.new w1 _ _) (fun k hk => by
      have hk2 : k = 0 ∨ k = 1 := by simp at hk; omega
      rcases hk2 with rfl | rfl
      · exact HO1.out.later bn
      · exact (HB.out.later b1).later bn) ((HH.out.later b1).later bn)
    rw [HF2.out, HSM.out] at N2
    have N22 := Lib.hid N2; have BN := Lib.hid bn
    clear N2 bn ho1 hO1
    go_wp2_with fail
    refine N22.out.mono ?_
    rintro e w3 ⟨rfl, b3⟩
    have bb3 := below_on b1 (below_on BN.out b3)
    have N3 := Lib.hid (fword_any sm hslt w3)
    go_wp2_with fail
    refine N3.out.mono ?_
    rintro e w4 ⟨v4, rfl, ho4, b4⟩
    obtain ⟨A4, c4, rfl, hO4⟩ := OneB.of_own ho4 (Fr.w4_byte _)
    have HO4 := Lib.hid hO4
    have bb4 := below_on bb3 b4
    have bn := below_new (Below.refl w4.heap.size w4) (.cells #[.slice A1 (Fr.w4 p.length).length c1, .slice A4 (Fr.w4 sm).length c4, .slice A p.length c] 25)
    have N5 := concatB_any w4.heap.size 3 (by omega) [(A1, c1), (A4, c4), (A, c)] [Fr.w4 p.length, Fr.w4 sm, p] (w4.alloc (.cells #[.slice A1 (Fr.w4 p.length).length c1, .slice A4 (Fr.w4 sm).length c4, .slice A p.length c] 25)) rfl rfl (Blk.new w4 _ _) (fun k hk => by
      have hk2 : k = 0 ∨ k = 1 ∨ k = 2 := by simp at hk; omega
      rcases hk2 with rfl | rfl | rfl
      · exact ((HO1.out.later (below_on BN.out b3)).later b4).later bn
      · exact HO4.out.later bn
      · exact (HB.out.later bb4).later bn) hfl
    have N52 := Lib.hid N5; have BN5 := Lib.hid bn
    clear N5 bn ho4 hO4
    go_wp2_with fail
    refine N52.out.mono ?_
    rintro e w6 ⟨v6, rfl, ho6, b6⟩
    have HO6 := Lib.hid (own_base ho6 (show w.heap.size ≤ (w4.alloc (.cells #[.slice A1 (Fr.w4 p.length).length c1, .slice A4 (Fr.w4 sm).length c4, .slice A p.length c] 25)).heap.size by have := bb4.size; simp; omega))
    have BB6 := Lib.hid (below_on bb4 (below_on BN5.out b6))
    clear ho6
    go_wp2
    go_ret2
    exact ⟨_, rfl, HO6.out, BB6.out⟩
  · rw [if_neg hp]
    have hd : decide ((1048576 : Int) < (p.length : Int)) = true := decide_eq_true (by omega)
    clear h hH hp
    go_enter Tryd.func27, Tryd.ntmps27
    go_wp2
    go_ret2
    exact ⟨_, rfl, none_own _ _, Below.refl _ _⟩

set_option maxRecDepth 100000 in
set_option maxHeartbeats 6400000 in
theorem rseal_any (A : Option Addr) (c : Nat) (p : List Int) (w : World) (h : OneB w A c p) :
    Calls Tryd.prog 32 #[.slice A p.length c] w (GivesBE (Fr.sealed p).1 (Fr.sealed p).2 w) := by
  obtain ⟨i0, hi, hz0, hz1, hz2⟩ := info_parts infoBy
  have hl := h.len
  unfold Fr.sealed
  by_cases hp : p.length ≤ 1048576
  · rw [if_pos hp]
    have hd : decide ((1048576 : Int) < (p.length : Int)) = false := decide_eq_false (by omega)
    have N1 := Lib.hid (rfour_any p.length (by omega) w)
    have HB := Lib.hid h
    have hby := h.byte
    obtain ⟨q, hq⟩ : ∃ q, Fr.w4 p.length = q := ⟨_, rfl⟩
    have hql : q.length = 4 := by rw [← hq]; rfl
    have hqb : ∀ x ∈ q, isB x := by rw [← hq]; exact Fr.w4_byte _
    obtain ⟨sm, hsm⟩ : ∃ sm, Fr.sum (q ++ p) = sm := ⟨_, rfl⟩
    have hslt := Fr.sum_lt (q ++ p)
    rw [hsm] at hslt
    have hfin : Fr.frm p = (q ++ Fr.w4 sm) ++ p := by unfold Fr.frm; rw [hq, hsm, List.append_assoc]
    rw [hq] at N1
    rw [hfin]
    obtain ⟨q2, hq2⟩ : ∃ q2, Fr.w4 sm = q2 := ⟨_, rfl⟩
    have hql2 : q2.length = 4 := by rw [← hq2]; rfl
    have hqb2 : ∀ x ∈ q2, isB x := by rw [← hq2]; exact Fr.w4_byte _
    have N3 := fun wx => rfour_any sm hslt wx
    simp only [hq2] at N3
    rw [hq2]
    have HSM := Lib.hid hsm; have HQB := Lib.hid hqb; have HQB2 := Lib.hid hqb2; have HBY := Lib.hid hby; have N3 := Lib.hid N3; have HQL := Lib.hid hql; have HQL2 := Lib.hid hql2
    have hq4 : q.length ≤ 4 := by omega
    have hq24 : q2.length ≤ 4 := by omega
    clear h hfin hsm hq hq2 hqb hqb2 hby hql hql2
    go_enter Tryd.func32, Tryd.ntmps32
    go_wp2_with fail
    refine N1.out.mono ?_
    rintro e w1 ⟨v1, rfl, ho1, b1⟩
    obtain ⟨A1, c1, rfl, hO1⟩ := OneB.of_own ho1 HQB.out
    have C1 := Lib.hid (bcopy_any A1 c1 q w1 (by omega) hO1)
    have HO1 := Lib.hid hO1
    clear ho1 hO1
    go_wp2_with fail
    refine C1.out.mono ?_
    rintro e w2 ⟨v2, rfl, ho2, b2⟩
    have bb2 := below_on b1 b2
    have C2 := Lib.hid (bcopy_any A1 c1 q w2 (by omega) (HO1.out.later b2))
    have HO2 := Lib.hid ho2
    clear ho2
    go_wp2_with fail
    refine C2.out.mono ?_
    rintro e w3 ⟨v3, rfl, ho3, b3⟩
    have bb3 := below_on bb2 b3
    have hz3 := b3.size
    have hne : ∀ k, v2.ownBlock = some k → k < w2.heap.size := fun k hk => own_lt HO2.out k hk
    have NE := Lib.hid hne
    have HO3 := Lib.hid ho3
    clear ho3 hne
    go_wp2_with (at_builtin; refine wpList_append_lies _ rfl _ _ 25 rfl w2.heap.size 5 i0 (.int .u8 0) 1 1 Tryd.underlying25 hi hz0 hz1 hz2 rfl (by decide) _ q.length (bCells q) rfl HO3.out A p.length c (HB.out.later bb3).noA (bCells p) rfl (by rw [bCells_length, Nat.mul_one]) (HB.out.later bb3).lies (bCells_one p) ?c3 ?c4 ?c5 ?_)
    case c3 => unfold maxLen; omega
    case c4 => omega
    case c5 => exact hz3
    intro v4 w4 ho4 hg4 _
    have b4 : Below w2.heap.size w2 w4 := b3.grown hg4 hz3 (fun k' hk' => own_ge HO3.out k' hk')
    rw [← bCells_append, ← List.length_append] at ho4
    obtain ⟨A4, c4, rfl, hO4⟩ := OneB.of_own ho4 (fun x hx => (List.mem_append.1 hx).elim (HQB.out x) (HBY.out x))
    have CS := rsum_any A4 c4 (q ++ p) w4 hO4
    rw [HSM.out, List.length_append] at CS
    have CS2 := Lib.hid CS; have B4 := Lib.hid b4
    clear CS ho4 hg4 b4 hO4
    try rw [List.length_append]
    go_wp2_with fail
    refine CS2.out.mono ?_
    rintro e w5 ⟨rfl, b5⟩
    go_wp2_with fail
    refine (N3.out w5).mono ?_
    rintro e w6 ⟨v6, rfl, ho6, b6⟩
    obtain ⟨A6, c6, rfl, hO6⟩ := OneB.of_own ho6 HQB2.out
    have b26 : Below w2.heap.size w2 w6 := B4.out.trans ((below_on b5 b6).mono B4.out.size)
    have bb6 := below_on bb2 b26
    have ho2' := own_stays HO2.out (fun k hk => b26.block k (NE.out k hk))
    have HO26 := Lib.hid ho2'; have HO6 := Lib.hid hO6
    have hz6 := bb6.size
    have hz61 : w1.heap.size ≤ w6.heap.size := by have := b2.size; have := b26.size; omega
    clear ho6 hO6 ho2'
    go_wp2_with (at_builtin; refine wpList_append_lies _ rfl _ _ 25 rfl w1.heap.size 5 i0 (.int .u8 0) 1 1 Tryd.underlying25 hi hz0 hz1 hz2 rfl (by decide) _ q.length (bCells q) rfl HO26.out A6 q2.length c6 HO6.out.noA (bCells q2) rfl (by rw [bCells_length, Nat.mul_one]) HO6.out.lies (bCells_one q2) ?c3 ?c4 ?c5 ?_)
    case c3 => unfold maxLen; omega
    case c4 => omega
    case c5 => exact hz61
    intro v7 w7 ho7 hg7 _
    have b7 : Below w1.heap.size w1 w7 := (below_on b2 b26).grown hg7 hz61 (fun k' hk' => own_ge HO26.out k' hk')
    have bb7 := below_on b1 b7
    rw [← bCells_append, ← List.length_append] at ho7
    have HO7 := Lib.hid ho7
    have hl7 : (q ++ q2).length ≤ 8 := by rw [List.length_append]; omega
    have hz7 := b7.size
    obtain ⟨q3, hq3⟩ : ∃ q3, q ++ q2 = q3 := ⟨_, rfl⟩
    rw [hq3] at HO7 hl7
    have HQ3 := Lib.hid hq3
    clear ho7 hg7 b7 hq3
    go_wp2_with (at_builtin; refine wpList_append_lies _ rfl _ _ 25 rfl w1.heap.size 5 i0 (.int .u8 0) 1 1 Tryd.underlying25 hi hz0 hz1 hz2 rfl (by decide) _ q3.length (bCells q3) rfl HO7.out A p.length c (HB.out.later bb7).noA (bCells p) rfl (by rw [bCells_length, Nat.mul_one]) (HB.out.later bb7).lies (bCells_one p) ?c3 ?c4 ?c5 ?_)
    case c3 => unfold maxLen; omega
    case c4 => omega
    case c5 => exact hz7
    intro v8 w8 ho8 hg8 _
    have bb8 : Below w.heap.size w w8 := bb7.grown hg8 bb7.size (fun k' hk' => by have := own_ge HO7.out k' hk'; have := b1.size; omega)
    rw [← bCells_append, ← List.length_append] at ho8
    have HO8 := Lib.hid (own_base ho8 b1.size); have BB8 := Lib.hid bb8
    clear ho8 hg8 bb8
    go_wp2
    go_ret2
    exact ⟨_, rfl, by rw [HQ3.out]; exact HO8.out, BB8.out⟩
  · rw [if_neg hp]
    have hd : decide ((1048576 : Int) < (p.length : Int)) = true := decide_eq_true (by omega)
    clear h hp
    go_enter Tryd.func32, Tryd.ntmps32
    go_wp2
    go_ret2
    exact ⟨_, rfl, none_own _ _, Below.refl _ _⟩
end Go.Proofs.YtkhggofcbdcliaaDoor
namespace Go.Proofs.YtkhggofcbdcliaaDoor
open Go.RowKit

theorem OneD.lastOf {w : World} {g c m : Nat} {L : List Fc} {y : Fc} (h : OneD w (some ⟨g, 0, none⟩) c L) (hm : L.length = m + 1) (hy : L[m]? = some y) : OneD w (some ⟨g, m * 3, none⟩) (c - m) [y] := by
  have hl := lies_drop h m
  have hd : L.drop m = [y] := by
    obtain ⟨h1, h2⟩ := List.getElem?_eq_some_iff.1 hy
    rw [List.drop_eq_getElem_cons h1, h2, List.drop_of_length_le (by omega)]
  rw [hd, Go.WideShapes.add_plain, Nat.zero_add] at hl
  have h1 := h.le
  have h2 := h.cap
  exact ⟨by show 1 ≤ c - m; omega, by omega, (fun e => by cases e), hl, fun f hf => by
    rw [List.mem_singleton] at hf
    subst hf
    exact h.one hy⟩

set_option maxRecDepth 100000 in
set_option maxHeartbeats 1600000 in
theorem rlast_any (room : Int) (A : Option Addr) (c : Nat) (L : List Fc) (w : World) (h : OneD w A c L) :
    Calls Tryd.prog 14 #[.agg #[.int .i64 room, .slice A L.length c]] w (Says (.int .i64 (Jn.lastR room (L.map Fc.fi))) w) := by
  have bn := below_new (Below.refl w.heap.size w) (.cells #[.int .i64 room, .slice A L.length c] 24)
  have N := rformed_any room A c L _ (h.later bn)
  have B0 := Lib.hid (Blk.new w 24 #[.int .i64 room, .slice A L.length c])
  have HD := Lib.hid (h.later bn)
  have BN := Lib.hid bn
  have hlen := h.len
  clear h bn
  cases hq : Dk.fmd room (L.map Fc.fi) with
  | false =>
    have hR : Jn.lastR room (L.map Fc.fi) = -1 := by unfold Jn.lastR; rw [if_neg (by rw [hq]; exact Bool.false_ne_true)]
    rw [hR]
    rw [hq] at N
    have NN := Lib.hid N
    clear N hR hq HD
    go_enter Tryd.func14, Tryd.ntmps14
    go_wp2_with fail
    refine NN.out.mono ?_
    rintro e w1 ⟨rfl, b1⟩
    have BB := Lib.hid (below_on BN.out b1)
    clear b1
    go_wp2
    go_ret
    exact ⟨rfl, BB.out⟩
  | true =>
    rw [hq] at N
    have NN := Lib.hid N
    clear N
    by_cases hL : L = []
    · have hR : Jn.lastR room (L.map Fc.fi) = -1 := by unfold Jn.lastR; rw [if_pos hq, hL]; rfl
      rw [hR]
      clear hR hq HD
      subst hL
      go_enter Tryd.func14, Tryd.ntmps14
      go_wp2_with fail
      refine NN.out.mono ?_
      rintro e w1 ⟨rfl, b1⟩
      have BB := Lib.hid (below_on BN.out b1)
      have c0 := (B0.out.later b1).cell (i := 0) rfl
      have c1 := (B0.out.later b1).cell (i := 1) rfl
      clear b1 B0
      go_wp2
      go_ret
      exact ⟨rfl, BB.out⟩
    · obtain ⟨x, hx, hx2⟩ := Jn.getLast_at hL
      have hR : Jn.lastR room (L.map Fc.fi) = x.num := by unfold Jn.lastR; rw [if_pos hq, List.getLast?_map, hx2]; rfl
      rw [hR]
      have hl0 : 0 < L.length := List.length_pos_iff.2 hL
      obtain ⟨b, off, hA, hc⟩ := HD.out.at hL
      obtain ⟨u0, -, -⟩ := hc _ _ hx
      subst hA
      have U0 := Lib.hid u0
      clear hR hq HD hc hx hx2 u0 hL
      obtain ⟨m, hm⟩ : ∃ m, L.length = m + 1 := ⟨L.length - 1, by omega⟩
      rw [hm] at NN B0 U0 BN ⊢
      have hm0 : m + 1 ≤ 9223372036854775807 := by omega
      rw [Nat.add_sub_cancel] at U0
      clear hm hl0 hlen
      have hz : ((m + 1 : Nat) : Int) - 1 = (m : Int) := by omega
      have i0 : (0 : Int) ≤ (m : Int) := by omega
      have i1 : (m : Int) < ((m + 1 : Nat) : Int) := by omega
      have ne0 : decide (((m + 1 : Nat) : Int) = 0) = false := decide_eq_false (by omega)
      have ne1 : (((m + 1 : Nat) : Int) == 0) = false := by rw [beq_eq_false_iff_ne]; omega
      go_enter Tryd.func14, Tryd.ntmps14
      go_wp2_with fail
      refine NN.out.mono ?_
      rintro e w1 ⟨rfl, b1⟩
      have BB := Lib.hid (below_on BN.out b1)
      have c0 := (B0.out.later b1).cell (i := 0) rfl
      have c1 := (B0.out.later b1).cell (i := 1) rfl
      have u0 := cell_later b1 U0.out
      clear b1 B0 U0
      go_wp2
      go_ret
      exact ⟨rfl, BB.out⟩

set_option maxRecDepth 100000 in
set_option maxHeartbeats 6400000 in
theorem rstart_any (room : Int) (A B : Option Addr) (c cb : Nat) (L : List Fc) (p : List Int) (w : World) (h : OneD w A c L) (hb : OneB w B cb p) :
    Calls Tryd.prog 16 #[.agg #[.int .i64 room, .slice A L.length c], .slice B p.length cb] w (GivesDE (Jn.startR room (L.map Fc.fi) p) w) := by
  have bn := below_new (below_new (Below.refl w.heap.size w) (.cells #[.int .i64 room, .slice A L.length c] 24)) (.cells #[.int .i64 0, .slice none 0 0] 24)
  have N := rformed_any room A c L _ (h.later bn)
  have B0 := Lib.hid ((Blk.new w 24 #[.int .i64 room, .slice A L.length c]).alloc (.cells #[.int .i64 0, .slice none 0 0] 24))
  have B1 := Lib.hid (show Blk _ (w.heap.size + 1) 24 #[.int .i64 0, .slice none 0 0] from by simpa using Blk.new (w.alloc (.cells #[.int .i64 room, .slice A L.length c] 24)) 24 #[.int .i64 0, .slice none 0 0])
  have HD := Lib.hid h
  have HBB := Lib.hid hb
  have hbl := hb.len
  have hlen := h.len
  clear h hb
  cases hq : Dk.fmd room (L.map Fc.fi) with
  | false =>
    have hR : Jn.startR room (L.map Fc.fi) p = (0, [], 1) := by unfold Jn.startR; rw [if_neg (fun h => by rw [hq] at h; exact absurd h.1 Bool.false_ne_true)]
    rw [hR]
    rw [hq] at N
    clear hq hR HD B0
    go_enter Tryd.func16, Tryd.ntmps16
    go_wp2_with fail
    refine N.mono ?_
    rintro e w1 ⟨rfl, b1⟩
    have z' := B1.out.later b1
    have y0 := z'.cell (i := 0) rfl
    have y1 := z'.cell (i := 1) rfl
    have s0 := z'.free 0
    have s1 := z'.free 1
    have hz := (z'.put 0 (.int .i64 0)).put 1 (.slice none 0 0)
    have z0 := Lib.hid (hz.cell (i := 0) rfl)
    have z1 := Lib.hid (hz.cell (i := 1) rfl)
    have hbz := ((below_on bn b1).setCell (p := ⟨w.heap.size + 1, 0, none⟩) (by show w.heap.size ≤ w.heap.size + 1; omega) (.int .i64 0)).setCell (p := ⟨w.heap.size + 1, 1, none⟩) (by show w.heap.size ≤ w.heap.size + 1; omega) (.slice none 0 0)
    have FIN := Lib.hid (GivesDE.err 1 hbz)
    clear z' hz hbz 
    go_wp2
    have z0 := z0.out
    have z1 := z1.out
    exact bodyPost_ret (v := .tuple #[.agg #[.int .i64 0, .slice none 0 0], .int .i64 1]) (by simp [results, Tryd.results16, go_sem, z0, z1]) rfl FIN.out
  | true =>
    rw [hq] at N
    have NN := Lib.hid N
    have BN := Lib.hid bn
    clear N bn
    by_cases hp : p.length ≤ 1048576
    · have dp : decide ((1048576 : Int) < (p.length : Int)) = false := decide_eq_false (by omega)
      obtain ⟨n, hn⟩ : ∃ n, Jn.lastR room (L.map Fc.fi) = n := ⟨_, rfl⟩
      have hn0 : -1 ≤ n ∧ n ≤ 1048576 := by rw [← hn]; exact Jn.last_le
      have HN := Lib.hid hn
      have HQ := Lib.hid hq
      clear hn hq
      by_cases hm : n = 1048576
      · have hR : Jn.startR room (L.map Fc.fi) p = (0, [], 15) := by unfold Jn.startR; rw [if_pos ⟨HQ.out, hp⟩, if_pos (by rw [HN.out]; exact hm)]
        rw [hR]
        subst hm
        clear hR
        go_enter Tryd.func16, Tryd.ntmps16
        go_wp2_with fail
        refine NN.out.mono ?_
        rintro e w1 ⟨rfl, b1⟩
        have bb := below_on BN.out b1
        have LA := rlast_any room A c L w1 (HD.out.later bb)
        rw [HN.out] at LA
        have LL := Lib.hid LA
        have c0 := (B0.out.later b1).cell (i := 0) rfl
        have c1 := (B0.out.later b1).cell (i := 1) rfl
        clear LA
        go_wp2_with fail
        refine LL.out.mono ?_
        rintro e w2 ⟨rfl, b2⟩
        have bb2 := below_on bb b2
        have hB1 := (B1.out.later b1).later b2
        clear c0 c1 bb LL NN B0
        have z' := hB1
        have y0 := z'.cell (i := 0) rfl
        have y1 := z'.cell (i := 1) rfl
        have s0 := z'.free 0
        have s1 := z'.free 1
        have hz := (z'.put 0 (.int .i64 0)).put 1 (.slice none 0 0)
        have z0 := Lib.hid (hz.cell (i := 0) rfl)
        have z1 := Lib.hid (hz.cell (i := 1) rfl)
        have hbz := ((bb2).setCell (p := ⟨w.heap.size + 1, 0, none⟩) (by show w.heap.size ≤ w.heap.size + 1; omega) (.int .i64 0)).setCell (p := ⟨w.heap.size + 1, 1, none⟩) (by show w.heap.size ≤ w.heap.size + 1; omega) (.slice none 0 0)
        have FIN := Lib.hid (GivesDE.err 15 hbz)
        clear z' hz hbz 
        go_wp2
        have z0 := z0.out
        have z1 := z1.out
        exact bodyPost_ret (v := .tuple #[.agg #[.int .i64 0, .slice none 0 0], .int .i64 15]) (by simp [results, Tryd.results16, go_sem, z0, z1]) rfl FIN.out
      · by_cases hneg : n < 0
        · have hR : Jn.startR room (L.map Fc.fi) p = Dk.appR room ((L.map Fc.fi).map Dk.syn1) (0 + 1) (Fr.frm p) := by unfold Jn.startR; rw [if_pos ⟨HQ.out, hp⟩, if_neg (by rw [HN.out]; exact hm), HN.out, if_pos hneg]
          rw [hR]
          clear hR
          obtain ⟨⟨rm, fs2, kr⟩, hA⟩ : ∃ r, Dk.appR room ((L.map Fc.fi).map Dk.syn1) (0 + 1) (Fr.frm p) = r := ⟨_, rfl⟩
          rw [hA]
          have HA := Lib.hid hA
          clear hA
          have dm : decide (n = 1048576) = false := decide_eq_false hm
          have dm2 : (n == 1048576) = false := by rw [beq_eq_false_iff_ne]; exact hm
          have dn : decide (n < 0) = true := decide_eq_true hneg
          go_enter Tryd.func16, Tryd.ntmps16
          go_wp2_with fail
          refine NN.out.mono ?_
          rintro e w1 ⟨rfl, b1⟩
          have bb := below_on BN.out b1
          have LA := rlast_any room A c L w1 (HD.out.later bb)
          rw [HN.out] at LA
          have LL := Lib.hid LA
          have c0 := (B0.out.later b1).cell (i := 0) rfl
          have c1 := (B0.out.later b1).cell (i := 1) rfl
          clear LA
          go_wp2_with fail
          refine LL.out.mono ?_
          rintro e w2 ⟨rfl, b2⟩
          have bb2 := below_on bb b2
          have SE := rseal_any B cb p w2 (HBB.out.later bb2)
          rw [show Fr.sealed p = (Fr.frm p, 0) from by unfold Fr.sealed; rw [if_pos hp]] at SE
          have SS := Lib.hid SE
          have BB2 := Lib.hid bb2
          have hB0 := Lib.hid ((B0.out.later b1).later b2)
          have hB1 := Lib.hid ((B1.out.later b1).later b2)
          clear c0 c1 bb LL NN B0 SE bb2 b1 b2
          go_wp2_with fail
          refine SS.out.mono ?_
          rintro e w3 ⟨v3, rfl, ho3, b3⟩
          obtain ⟨F3, f3, rfl, hF3⟩ := OneB.of_own ho3 (Fr.seal_byte HBB.out.byte)
          have BB3 := Lib.hid (below_on BB2.out b3)
          have hB0 := Lib.hid (hB0.out.later b3)
          have hB1 := Lib.hid (hB1.out.later b3)
          have HF3 := Lib.hid hF3
          have SY := rsync_any room A c L w3 (HD.out.later BB3.out)
          rw [show Dk.synR room (L.map Fc.fi) = (room, (L.map Fc.fi).map Dk.syn1, 0) from by unfold Dk.synR; rw [if_pos HQ.out]] at SY
          have SS2 := Lib.hid SY
          have c0 := hB0.out.cell (i := 0) rfl
          have c1 := hB0.out.cell (i := 1) rfl
          clear ho3 b3 hF3 SY SS BB2
          go_wp2_with fail
          refine SS2.out.mono ?_
          intro e w4 h
          obtain ⟨A4, c4, L4, rfl, hO4, hf4, b4⟩ := h.open
          have bs := below_new (Below.refl w4.heap.size w4) (.cells #[.int .i64 room, .slice A4 L4.length c4] 24)
          have BB4 := Lib.hid (below_on (below_on BB3.out b4) bs)
          have hB1 := Lib.hid ((hB1.out.later b4).later bs)
          have HF4 := Lib.hid ((HF3.out.later b4).later bs)
          have S4 := Lib.hid (Blk.new w4 24 #[.int .i64 room, .slice A4 L4.length c4])
          have RA := rappend_any room (0 + 1) A4 F3 c4 f3 L4 (Fr.frm p) _ (hO4.oneD.later bs) HF4.out
          rw [hf4, HA.out] at RA
          have RR := Lib.hid RA
          clear h hO4 hf4 b4 bs RA c0 c1 BB3 HF3 SS2 hB0
          have c0 := S4.out.cell (i := 0) rfl
          have c1 := S4.out.cell (i := 1) rfl
          go_wp2_with fail
          refine RR.out.mono ?_
          intro e w5 h
          obtain ⟨A5, c5, L5, rfl, hO5, hf5, b5⟩ := h.open
          have BB5 := Lib.hid (below_on BB4.out b5)
          have hB5 := Lib.hid (hB1.out.later b5)
          have hsz5 : w.heap.size + 1 < (w4.alloc (.cells #[.int .i64 room, .slice A4 L4.length c4] 24)).heap.size := hB1.out.lt
          clear h b5 RR c0 c1 hB1 BB4
          have z' := hB5.out
          have y0 := z'.cell (i := 0) rfl
          have y1 := z'.cell (i := 1) rfl
          have s0 := z'.free 0
          have s1 := z'.free 1
          have hz := (z'.put 0 (.int .i64 rm)).put 1 (.slice A5 L5.length c5)
          have z0 := Lib.hid (hz.cell (i := 0) rfl)
          have z1 := Lib.hid (hz.cell (i := 1) rfl)
          have hbz := ((BB5.out).setCell (p := ⟨w.heap.size + 1, 0, none⟩) (by show w.heap.size ≤ w.heap.size + 1; omega) (.int .i64 rm)).setCell (p := ⟨w.heap.size + 1, 1, none⟩) (by show w.heap.size ≤ w.heap.size + 1; omega) (.slice A5 L5.length c5)
          have hO2 := (((hO5).low (p := ⟨w.heap.size + 1, 0, none⟩) (by show w.heap.size + 1 < _; omega) (.int .i64 rm)).low (p := ⟨w.heap.size + 1, 1, none⟩) (by show w.heap.size + 1 < _; omega) (.slice A5 L5.length c5)).lower (base' := w.heap.size) (by omega)
          have FIN := Lib.hid (show GivesDE (rm, fs2, kr) w (.returned (.tuple #[.agg #[.int .i64 rm, .slice A5 L5.length c5], .int .i64 kr])) _ from ⟨_, L5, rfl, hO2, hf5, hbz⟩)
          clear z' hz hbz hO5 hf5 hO2
          go_wp2
          have z0 := z0.out
          have z1 := z1.out
          exact bodyPost_ret (v := .tuple #[.agg #[.int .i64 rm, .slice A5 L5.length c5], .int .i64 kr]) (by simp [results, Tryd.results16, go_sem, z0, z1]) rfl FIN.out
        · have hR : Jn.startR room (L.map Fc.fi) p = Dk.appR room ((L.map Fc.fi).map Dk.syn1) (n + 1) (Fr.frm p) := by unfold Jn.startR; rw [if_pos ⟨HQ.out, hp⟩, if_neg (by rw [HN.out]; exact hm), HN.out, if_neg hneg]
          rw [hR]
          clear hR
          obtain ⟨⟨rm, fs2, kr⟩, hA⟩ : ∃ r, Dk.appR room ((L.map Fc.fi).map Dk.syn1) (n + 1) (Fr.frm p) = r := ⟨_, rfl⟩
          rw [hA]
          have HA := Lib.hid hA
          clear hA
          have dm : decide (n = 1048576) = false := decide_eq_false hm
          have dm2 : (n == 1048576) = false := by rw [beq_eq_false_iff_ne]; exact hm
          have dn : decide (n < 0) = false := decide_eq_false hneg
          go_enter Tryd.func16, Tryd.ntmps16
          go_wp2_with fail
          refine NN.out.mono ?_
          rintro e w1 ⟨rfl, b1⟩
          have bb := below_on BN.out b1
          have LA := rlast_any room A c L w1 (HD.out.later bb)
          rw [HN.out] at LA
          have LL := Lib.hid LA
          have c0 := (B0.out.later b1).cell (i := 0) rfl
          have c1 := (B0.out.later b1).cell (i := 1) rfl
          clear LA
          go_wp2_with fail
          refine LL.out.mono ?_
          rintro e w2 ⟨rfl, b2⟩
          have bb2 := below_on bb b2
          have SE := rseal_any B cb p w2 (HBB.out.later bb2)
          rw [show Fr.sealed p = (Fr.frm p, 0) from by unfold Fr.sealed; rw [if_pos hp]] at SE
          have SS := Lib.hid SE
          have BB2 := Lib.hid bb2
          have hB0 := Lib.hid ((B0.out.later b1).later b2)
          have hB1 := Lib.hid ((B1.out.later b1).later b2)
          clear c0 c1 bb LL NN B0 SE bb2 b1 b2
          go_wp2_with fail
          refine SS.out.mono ?_
          rintro e w3 ⟨v3, rfl, ho3, b3⟩
          obtain ⟨F3, f3, rfl, hF3⟩ := OneB.of_own ho3 (Fr.seal_byte HBB.out.byte)
          have BB3 := Lib.hid (below_on BB2.out b3)
          have hB0 := Lib.hid (hB0.out.later b3)
          have hB1 := Lib.hid (hB1.out.later b3)
          have HF3 := Lib.hid hF3
          have SY := rsync_any room A c L w3 (HD.out.later BB3.out)
          rw [show Dk.synR room (L.map Fc.fi) = (room, (L.map Fc.fi).map Dk.syn1, 0) from by unfold Dk.synR; rw [if_pos HQ.out]] at SY
          have SS2 := Lib.hid SY
          have c0 := hB0.out.cell (i := 0) rfl
          have c1 := hB0.out.cell (i := 1) rfl
          clear ho3 b3 hF3 SY SS BB2
          go_wp2_with fail
          refine SS2.out.mono ?_
          intro e w4 h
          obtain ⟨A4, c4, L4, rfl, hO4, hf4, b4⟩ := h.open
          have bs := below_new (Below.refl w4.heap.size w4) (.cells #[.int .i64 room, .slice A4 L4.length c4] 24)
          have BB4 := Lib.hid (below_on (below_on BB3.out b4) bs)
          have hB1 := Lib.hid ((hB1.out.later b4).later bs)
          have HF4 := Lib.hid ((HF3.out.later b4).later bs)
          have S4 := Lib.hid (Blk.new w4 24 #[.int .i64 room, .slice A4 L4.length c4])
          have RA := rappend_any room (n + 1) A4 F3 c4 f3 L4 (Fr.frm p) _ (hO4.oneD.later bs) HF4.out
          rw [hf4, HA.out] at RA
          have RR := Lib.hid RA
          clear h hO4 hf4 b4 bs RA c0 c1 BB3 HF3 SS2 hB0
          have c0 := S4.out.cell (i := 0) rfl
          have c1 := S4.out.cell (i := 1) rfl
          go_wp2_with fail
          refine RR.out.mono ?_
          intro e w5 h
          obtain ⟨A5, c5, L5, rfl, hO5, hf5, b5⟩ := h.open
          have BB5 := Lib.hid (below_on BB4.out b5)
          have hB5 := Lib.hid (hB1.out.later b5)
          have hsz5 : w.heap.size + 1 < (w4.alloc (.cells #[.int .i64 room, .slice A4 L4.length c4] 24)).heap.size := hB1.out.lt
          clear h b5 RR c0 c1 hB1 BB4
          have z' := hB5.out
          have y0 := z'.cell (i := 0) rfl
          have y1 := z'.cell (i := 1) rfl
          have s0 := z'.free 0
          have s1 := z'.free 1
          have hz := (z'.put 0 (.int .i64 rm)).put 1 (.slice A5 L5.length c5)
          have z0 := Lib.hid (hz.cell (i := 0) rfl)
          have z1 := Lib.hid (hz.cell (i := 1) rfl)
          have hbz := ((BB5.out).setCell (p := ⟨w.heap.size + 1, 0, none⟩) (by show w.heap.size ≤ w.heap.size + 1; omega) (.int .i64 rm)).setCell (p := ⟨w.heap.size + 1, 1, none⟩) (by show w.heap.size ≤ w.heap.size + 1; omega) (.slice A5 L5.length c5)
          have hO2 := (((hO5).low (p := ⟨w.heap.size + 1, 0, none⟩) (by show w.heap.size + 1 < _; omega) (.int .i64 rm)).low (p := ⟨w.heap.size + 1, 1, none⟩) (by show w.heap.size + 1 < _; omega) (.slice A5 L5.length c5)).lower (base' := w.heap.size) (by omega)
          have FIN := Lib.hid (show GivesDE (rm, fs2, kr) w (.returned (.tuple #[.agg #[.int .i64 rm, .slice A5 L5.length c5], .int .i64 kr])) _ from ⟨_, L5, rfl, hO2, hf5, hbz⟩)
          clear z' hz hbz hO5 hf5 hO2
          go_wp2
          have z0 := z0.out
          have z1 := z1.out
          exact bodyPost_ret (v := .tuple #[.agg #[.int .i64 rm, .slice A5 L5.length c5], .int .i64 kr]) (by simp [results, Tryd.results16, go_sem, z0, z1]) rfl FIN.out
    · have hR : Jn.startR room (L.map Fc.fi) p = (0, [], 1) := by unfold Jn.startR; rw [if_neg (fun h => hp h.2)]
      have dp : decide ((1048576 : Int) < (p.length : Int)) = true := decide_eq_true (by omega)
      rw [hR]
      clear hq hR HD
      go_enter Tryd.func16, Tryd.ntmps16
      go_wp2_with fail
      refine NN.out.mono ?_
      rintro e w1 ⟨rfl, b1⟩
      have bb := below_on BN.out b1
      have hB1 := B1.out.later b1
      have c0 := (B0.out.later b1).cell (i := 0) rfl
      have c1 := (B0.out.later b1).cell (i := 1) rfl
      have z' := hB1
      have y0 := z'.cell (i := 0) rfl
      have y1 := z'.cell (i := 1) rfl
      have s0 := z'.free 0
      have s1 := z'.free 1
      have hz := (z'.put 0 (.int .i64 0)).put 1 (.slice none 0 0)
      have z0 := Lib.hid (hz.cell (i := 0) rfl)
      have z1 := Lib.hid (hz.cell (i := 1) rfl)
      have hbz := ((bb).setCell (p := ⟨w.heap.size + 1, 0, none⟩) (by show w.heap.size ≤ w.heap.size + 1; omega) (.int .i64 0)).setCell (p := ⟨w.heap.size + 1, 1, none⟩) (by show w.heap.size ≤ w.heap.size + 1; omega) (.slice none 0 0)
      have FIN := Lib.hid (GivesDE.err 1 hbz)
      clear z' hz hbz NN BN
      go_wp2
      have z0 := z0.out
      have z1 := z1.out
      exact bodyPost_ret (v := .tuple #[.agg #[.int .i64 0, .slice none 0 0], .int .i64 1]) (by simp [results, Tryd.results16, go_sem, z0, z1]) rfl FIN.out

set_option maxRecDepth 100000 in
set_option maxHeartbeats 6400000 in
theorem rappJ_any (room : Int) (A B : Option Addr) (c cb : Nat) (L : List Fc) (p : List Int) (w : World) (h : OneD w A c L) (hb : OneB w B cb p) :
    Calls Tryd.prog 11 #[.agg #[.int .i64 room, .slice A L.length c], .slice B p.length cb] w (GivesDE (Jn.appJR room (L.map Fc.fi) p) w) := by
  have bn := below_new (below_new (Below.refl w.heap.size w) (.cells #[.int .i64 room, .slice A L.length c] 24)) (.cells #[.int .i64 0, .slice none 0 0] 24)
  have N := rformed_any room A c L _ (h.later bn)
  have B0 := Lib.hid ((Blk.new w 24 #[.int .i64 room, .slice A L.length c]).alloc (.cells #[.int .i64 0, .slice none 0 0] 24))
  have B1 := Lib.hid (show Blk _ (w.heap.size + 1) 24 #[.int .i64 0, .slice none 0 0] from by simpa using Blk.new (w.alloc (.cells #[.int .i64 room, .slice A L.length c] 24)) 24 #[.int .i64 0, .slice none 0 0])
  have HD := Lib.hid h
  have HBB := Lib.hid hb
  have hbl := hb.len
  clear hb
  have hlen := h.len
  clear h
  cases hq : Dk.fmd room (L.map Fc.fi) with
  | false =>
    have hR : Jn.appJR room (L.map Fc.fi) p = (0, [], 1) := by unfold Jn.appJR; rw [if_neg (fun h => by rw [hq] at h; exact absurd h.1 Bool.false_ne_true)]
    rw [hR]
    rw [hq] at N
    clear hq hR HD B0
    go_enter Tryd.func11, Tryd.ntmps11
    go_wp2_with fail
    refine N.mono ?_
    rintro e w1 ⟨rfl, b1⟩
    have z' := B1.out.later b1
    have y0 := z'.cell (i := 0) rfl
    have y1 := z'.cell (i := 1) rfl
    have s0 := z'.free 0
    have s1 := z'.free 1
    have hz := (z'.put 0 (.int .i64 0)).put 1 (.slice none 0 0)
    have z0 := Lib.hid (hz.cell (i := 0) rfl)
    have z1 := Lib.hid (hz.cell (i := 1) rfl)
    have hbz := ((below_on bn b1).setCell (p := ⟨w.heap.size + 1, 0, none⟩) (by show w.heap.size ≤ w.heap.size + 1; omega) (.int .i64 0)).setCell (p := ⟨w.heap.size + 1, 1, none⟩) (by show w.heap.size ≤ w.heap.size + 1; omega) (.slice none 0 0)
    have FIN := Lib.hid (GivesDE.err 1 hbz)
    clear z' hz hbz 
    go_wp2
    have z0 := z0.out
    have z1 := z1.out
    exact bodyPost_ret (v := .tuple #[.agg #[.int .i64 0, .slice none 0 0], .int .i64 1]) (by simp [results, Tryd.results11, go_sem, z0, z1]) rfl FIN.out
  | true =>
    rw [hq] at N
    have NN := Lib.hid N
    have BN := Lib.hid bn
    have HQ := Lib.hid hq
    clear N bn
    by_cases hp : p.length ≤ 1048576
    · have dp : decide ((1048576 : Int) < (p.length : Int)) = false := decide_eq_false (by omega)
      by_cases hL : L = []
      · have hR : Jn.appJR room (L.map Fc.fi) p = Jn.startR room (L.map Fc.fi) p := by unfold Jn.appJR; rw [if_pos ⟨HQ.out, hp⟩, if_pos (by subst hL; rfl)]
        rw [hR]
        clear hR hq
        obtain ⟨⟨rm, fs2, kr⟩, hA⟩ : ∃ r, Jn.startR room (L.map Fc.fi) p = r := ⟨_, rfl⟩
        rw [hA]
        have HA := Lib.hid hA
        clear hA HQ
        subst hL
        go_enter Tryd.func11, Tryd.ntmps11
        go_wp2_with fail
        refine NN.out.mono ?_
        rintro e w1 ⟨rfl, b1⟩
        have bb := below_on BN.out b1
        have hB0 := Lib.hid (B0.out.later b1)
        have hB1 := Lib.hid (B1.out.later b1)
        have c0 := hB0.out.cell (i := 0) rfl
        have c1 := hB0.out.cell (i := 1) rfl
        have BB := Lib.hid bb
        clear b1 NN B0 B1 BN bb
        have SA := rstart_any room A B c cb [] p w1 (HD.out.later BB.out) (HBB.out.later BB.out)
        rw [HA.out] at SA
        have RR := Lib.hid SA
        clear SA
        go_wp2_with fail
        refine RR.out.mono ?_
        intro e w5 h
        obtain ⟨A5, c5, L5, rfl, hO5, hf5, b5⟩ := h.open
        have BB5 := Lib.hid (below_on BB.out b5)
        have hB5 := Lib.hid (hB1.out.later b5)
        have hsz5 : w.heap.size + 1 < w1.heap.size := hB1.out.lt
        clear h b5 RR c0 c1 hB1
        have z' := hB5.out
        have y0 := z'.cell (i := 0) rfl
        have y1 := z'.cell (i := 1) rfl
        have s0 := z'.free 0
        have s1 := z'.free 1
        have hz := (z'.put 0 (.int .i64 rm)).put 1 (.slice A5 L5.length c5)
        have z0 := Lib.hid (hz.cell (i := 0) rfl)
        have z1 := Lib.hid (hz.cell (i := 1) rfl)
        have hbz := ((BB5.out).setCell (p := ⟨w.heap.size + 1, 0, none⟩) (by show w.heap.size ≤ w.heap.size + 1; omega) (.int .i64 rm)).setCell (p := ⟨w.heap.size + 1, 1, none⟩) (by show w.heap.size ≤ w.heap.size + 1; omega) (.slice A5 L5.length c5)
        have hO2 := (((hO5).low (p := ⟨w.heap.size + 1, 0, none⟩) (by show w.heap.size + 1 < _; omega) (.int .i64 rm)).low (p := ⟨w.heap.size + 1, 1, none⟩) (by show w.heap.size + 1 < _; omega) (.slice A5 L5.length c5)).lower (base' := w.heap.size) (by omega)
        have FIN := Lib.hid (show GivesDE (rm, fs2, kr) w (.returned (.tuple #[.agg #[.int .i64 rm, .slice A5 L5.length c5], .int .i64 kr])) _ from ⟨_, L5, rfl, hO2, hf5, hbz⟩)
        clear z' hz hbz hO5 hf5 hO2
        go_wp2
        have z0 := z0.out
        have z1 := z1.out
        exact bodyPost_ret (v := .tuple #[.agg #[.int .i64 rm, .slice A5 L5.length c5], .int .i64 kr]) (by simp [results, Tryd.results11, go_sem, z0, z1]) rfl FIN.out
      · obtain ⟨x, hx, hx2⟩ := Jn.getLast_at hL
        have hfr : Jn.fresh (L.map Fc.fi) p = decide (0 < x.l.length ∧ 512 < x.l.length + p.length + 8) := by unfold Jn.fresh; rw [List.getLast?_map, hx2]; rfl
        have hla : Jn.lastR room (L.map Fc.fi) = x.num := by unfold Jn.lastR; rw [if_pos hq, List.getLast?_map, hx2]; rfl
        have hxl : (x.l.length : Int) ≤ 16777216 := by
          have h1 := Dk.used_mem (List.mem_map.2 ⟨x, List.mem_of_getElem? hx, rfl⟩ : x.fi ∈ L.map Fc.fi)
          have h2 := (Dk.fmd_facts hq).use
          have h3 := (Dk.fmd_facts hq).r1
          have h4 : (x.fi.2.1.length : Int) = (x.l.length : Int) := rfl
          omega
        have hl0 : 0 < L.length := List.length_pos_iff.2 hL
        obtain ⟨b, off, hA, hc⟩ := HD.out.at hL
        obtain ⟨u0, u1, u2⟩ := hc _ _ hx
        subst hA
        have U0 := Lib.hid u0
        have U1 := Lib.hid u1
        have U2 := Lib.hid u2
        obtain ⟨m, hm⟩ : ∃ m, L.length = m + 1 := ⟨L.length - 1, by omega⟩
        have HM := Lib.hid hm
        rw [hm] at NN B0 B1 U0 U1 U2 BN ⊢
        have hm0 : m + 1 ≤ 9223372036854775807 := by omega
        rw [Nat.add_sub_cancel] at U0 U1 U2
        have HFR := Lib.hid hfr
        have HLA := Lib.hid hla
        clear hc hx hx2 u0 u1 u2 hm hl0 hlen hfr hla hL hq
        have hz : ((m + 1 : Nat) : Int) - 1 = (m : Int) := by omega
        have i0 : (0 : Int) ≤ (m : Int) := by omega
        have i1 : (m : Int) < ((m + 1 : Nat) : Int) := by omega
        have ne0 : decide (((m + 1 : Nat) : Int) = 0) = false := decide_eq_false (by omega)
        have ne1 : (((m + 1 : Nat) : Int) == 0) = false := by rw [beq_eq_false_iff_ne]; omega
        by_cases h1 : 0 < x.l.length
        · have d1 : decide ((0 : Int) < (x.l.length : Int)) = true := decide_eq_true (by omega)
          by_cases h2 : 512 < x.l.length + p.length + 8
          · have hR : Jn.appJR room (L.map Fc.fi) p = Jn.startR room (L.map Fc.fi) p := by unfold Jn.appJR; rw [if_pos ⟨HQ.out, hp⟩, HFR.out, if_pos (decide_eq_true ⟨h1, h2⟩)]
            rw [hR]
            clear hR
            obtain ⟨⟨rm, fs2, kr⟩, hA⟩ : ∃ r, Jn.startR room (L.map Fc.fi) p = r := ⟨_, rfl⟩
            rw [hA]
            have HA := Lib.hid hA
            clear hA HQ HFR HLA
            have d2 : decide ((512 : Int) < (x.l.length : Int) + (p.length : Int) + 8) = true := decide_eq_true (by omega)
            go_enter Tryd.func11, Tryd.ntmps11
            go_wp2_with fail
            refine NN.out.mono ?_
            rintro e w1 ⟨rfl, b1⟩
            have bb := below_on BN.out b1
            have hB0 := Lib.hid (B0.out.later b1)
            have hB1 := Lib.hid (B1.out.later b1)
            have c0 := hB0.out.cell (i := 0) rfl
            have c1 := hB0.out.cell (i := 1) rfl
            have BB := Lib.hid bb
            clear b1 NN B0 B1 BN bb
            have u0 := cell_later BB.out U0.out
            have u1 := cell_later BB.out U1.out
            have u2 := cell_later BB.out U2.out
            have bf := below_new (Below.refl w1.heap.size w1) (.cells #[.int .i64 x.num, .slice x.X x.l.length x.c, .int .i64 x.s] 50)
            have BBF := Lib.hid (below_on BB.out bf)
            have hB0f := Lib.hid (hB0.out.later bf)
            have hB1f := Lib.hid (hB1.out.later bf)
            have SA := rstart_any room (some ⟨b, off, none⟩) B c cb L p _ (HD.out.later BBF.out) (HBB.out.later BBF.out)
            rw [HA.out, HM.out] at SA
            have RR := Lib.hid SA
            clear SA bf hB0
            have k0 := hB0f.out.cell (i := 0) rfl
            have k1 := hB0f.out.cell (i := 1) rfl
            go_wp2_with fail
            refine RR.out.mono ?_
            intro e w5 h
            obtain ⟨A5, c5, L5, rfl, hO5, hf5, b5⟩ := h.open
            clear k0 k1
            have BB5 := Lib.hid (below_on BBF.out b5)
            have hB5 := Lib.hid (hB1f.out.later b5)
            have hsz5 : w.heap.size + 1 < (w1.alloc (.cells #[.int .i64 x.num, .slice x.X x.l.length x.c, .int .i64 x.s] 50)).heap.size := hB1f.out.lt
            clear h b5 RR c0 c1 hB1 hB0f hB1f u0 u1 u2
            have z' := hB5.out
            have y0 := z'.cell (i := 0) rfl
            have y1 := z'.cell (i := 1) rfl
            have s0 := z'.free 0
            have s1 := z'.free 1
            have hz := (z'.put 0 (.int .i64 rm)).put 1 (.slice A5 L5.length c5)
            have z0 := Lib.hid (hz.cell (i := 0) rfl)
            have z1 := Lib.hid (hz.cell (i := 1) rfl)
            have hbz := ((BB5.out).setCell (p := ⟨w.heap.size + 1, 0, none⟩) (by show w.heap.size ≤ w.heap.size + 1; omega) (.int .i64 rm)).setCell (p := ⟨w.heap.size + 1, 1, none⟩) (by show w.heap.size ≤ w.heap.size + 1; omega) (.slice A5 L5.length c5)
            have hO2 := (((hO5).low (p := ⟨w.heap.size + 1, 0, none⟩) (by show w.heap.size + 1 < _; omega) (.int .i64 rm)).low (p := ⟨w.heap.size + 1, 1, none⟩) (by show w.heap.size + 1 < _; omega) (.slice A5 L5.length c5)).lower (base' := w.heap.size) (by omega)
            have FIN := Lib.hid (show GivesDE (rm, fs2, kr) w (.returned (.tuple #[.agg #[.int .i64 rm, .slice A5 L5.length c5], .int .i64 kr])) _ from ⟨_, L5, rfl, hO2, hf5, hbz⟩)
            clear z' hz hbz hO5 hf5 hO2
            go_wp2
            have z0 := z0.out
            have z1 := z1.out
            exact bodyPost_ret (v := .tuple #[.agg #[.int .i64 rm, .slice A5 L5.length c5], .int .i64 kr]) (by simp [results, Tryd.results11, go_sem, z0, z1]) rfl FIN.out
          · have hno : ¬ (0 < x.l.length ∧ 512 < x.l.length + p.length + 8) := fun h => h2 h.2
            have hR : Jn.appJR room (L.map Fc.fi) p = Dk.appR room (L.map Fc.fi) x.num (Fr.frm p) := by unfold Jn.appJR; rw [if_pos ⟨HQ.out, hp⟩, HFR.out, if_neg (fun h => hno (of_decide_eq_true h)), HLA.out]
            rw [hR]
            clear hR
            obtain ⟨⟨rm, fs2, kr⟩, hA⟩ : ∃ r, Dk.appR room (L.map Fc.fi) x.num (Fr.frm p) = r := ⟨_, rfl⟩
            rw [hA]
            have HA := Lib.hid hA
            clear hA HQ HFR HLA
            have d2 : decide ((512 : Int) < (x.l.length : Int) + (p.length : Int) + 8) = false := decide_eq_false (by omega)
            go_enter Tryd.func11, Tryd.ntmps11
            go_wp2_with fail
            refine NN.out.mono ?_
            rintro e w1 ⟨rfl, b1⟩
            have bb := below_on BN.out b1
            have hB0 := Lib.hid (B0.out.later b1)
            have hB1 := Lib.hid (B1.out.later b1)
            have c0 := hB0.out.cell (i := 0) rfl
            have c1 := hB0.out.cell (i := 1) rfl
            have BB := Lib.hid bb
            clear b1 NN B0 B1 BN bb
            have u0 := cell_later BB.out U0.out
            have u1 := cell_later BB.out U1.out
            have u2 := cell_later BB.out U2.out
            have bf := below_new (Below.refl w1.heap.size w1) (.cells #[.int .i64 x.num, .slice x.X x.l.length x.c, .int .i64 x.s] 50)
            have BBF := Lib.hid (below_on BB.out bf)
            have hB0f := Lib.hid (hB0.out.later bf)
            have hB1f := Lib.hid (hB1.out.later bf)
            have FB := Lib.hid (Blk.new w1 50 #[.int .i64 x.num, .slice x.X x.l.length x.c, .int .i64 x.s])
            have SE := rseal_any B cb p _ (HBB.out.later BBF.out)
            rw [show Fr.sealed p = (Fr.frm p, 0) from by unfold Fr.sealed; rw [if_pos hp]] at SE
            have SS := Lib.hid SE
            clear SE bf hB0
            go_wp2_with fail
            refine SS.out.mono ?_
            rintro e w3 ⟨v3, rfl, ho3, b3⟩
            obtain ⟨F3, f3, rfl, hF3⟩ := OneB.of_own ho3 (Fr.seal_byte HBB.out.byte)
            have BB3 := Lib.hid (below_on BBF.out b3)
            have hB03 := Lib.hid (hB0f.out.later b3)
            have hB13 := Lib.hid (hB1f.out.later b3)
            have FB3 := Lib.hid (FB.out.later b3)
            have RA := rappend_any room x.num (some ⟨b, off, none⟩) F3 c f3 L (Fr.frm p) w3 (HD.out.later BB3.out) hF3
            rw [HA.out, HM.out] at RA
            have RR := Lib.hid RA
            clear RA ho3 hF3 b3 c0 c1 u0 u1 u2 SS hB0f hB1f hB1 FB
            have c0 := hB03.out.cell (i := 0) rfl
            have c1 := hB03.out.cell (i := 1) rfl
            have k0 := FB3.out.cell (i := 0) rfl
            go_wp2_with fail
            refine RR.out.mono ?_
            intro e w5 h
            obtain ⟨A5, c5, L5, rfl, hO5, hf5, b5⟩ := h.open
            have BB5 := Lib.hid (below_on BB3.out b5)
            have hB5 := Lib.hid (hB13.out.later b5)
            have hsz5 : w.heap.size + 1 < w3.heap.size := hB13.out.lt
            clear h b5 RR c0 c1 k0 hB03 hB13 FB3
            have z' := hB5.out
            have y0 := z'.cell (i := 0) rfl
            have y1 := z'.cell (i := 1) rfl
            have s0 := z'.free 0
            have s1 := z'.free 1
            have hz := (z'.put 0 (.int .i64 rm)).put 1 (.slice A5 L5.length c5)
            have z0 := Lib.hid (hz.cell (i := 0) rfl)
            have z1 := Lib.hid (hz.cell (i := 1) rfl)
            have hbz := ((BB5.out).setCell (p := ⟨w.heap.size + 1, 0, none⟩) (by show w.heap.size ≤ w.heap.size + 1; omega) (.int .i64 rm)).setCell (p := ⟨w.heap.size + 1, 1, none⟩) (by show w.heap.size ≤ w.heap.size + 1; omega) (.slice A5 L5.length c5)
            have hO2 := (((hO5).low (p := ⟨w.heap.size + 1, 0, none⟩) (by show w.heap.size + 1 < _; omega) (.int .i64 rm)).low (p := ⟨w.heap.size + 1, 1, none⟩) (by show w.heap.size + 1 < _; omega) (.slice A5 L5.length c5)).lower (base' := w.heap.size) (by omega)
            have FIN := Lib.hid (show GivesDE (rm, fs2, kr) w (.returned (.tuple #[.agg #[.int .i64 rm, .slice A5 L5.length c5], .int .i64 kr])) _ from ⟨_, L5, rfl, hO2, hf5, hbz⟩)
            clear z' hz hbz hO5 hf5 hO2
            go_wp2
            have z0 := z0.out
            have z1 := z1.out
            exact bodyPost_ret (v := .tuple #[.agg #[.int .i64 rm, .slice A5 L5.length c5], .int .i64 kr]) (by simp [results, Tryd.results11, go_sem, z0, z1]) rfl FIN.out
        · have d1 : decide ((0 : Int) < (x.l.length : Int)) = false := decide_eq_false (by omega)
          have hno : ¬ (0 < x.l.length ∧ 512 < x.l.length + p.length + 8) := fun h => h1 h.1
          have hR : Jn.appJR room (L.map Fc.fi) p = Dk.appR room (L.map Fc.fi) x.num (Fr.frm p) := by unfold Jn.appJR; rw [if_pos ⟨HQ.out, hp⟩, HFR.out, if_neg (fun h => hno (of_decide_eq_true h)), HLA.out]
          rw [hR]
          clear hR
          obtain ⟨⟨rm, fs2, kr⟩, hA⟩ : ∃ r, Dk.appR room (L.map Fc.fi) x.num (Fr.frm p) = r := ⟨_, rfl⟩
          rw [hA]
          have HA := Lib.hid hA
          clear hA HQ HFR HLA
          have h1' := Nat.not_lt.1 h1
          clear h1
          go_enter Tryd.func11, Tryd.ntmps11
          go_wp2_with fail
          refine NN.out.mono ?_
          rintro e w1 ⟨rfl, b1⟩
          have bb := below_on BN.out b1
          have hB0 := Lib.hid (B0.out.later b1)
          have hB1 := Lib.hid (B1.out.later b1)
          have c0 := hB0.out.cell (i := 0) rfl
          have c1 := hB0.out.cell (i := 1) rfl
          have BB := Lib.hid bb
          clear b1 NN B0 B1 BN bb
          have u0 := cell_later BB.out U0.out
          have u1 := cell_later BB.out U1.out
          have u2 := cell_later BB.out U2.out
          have bf := below_new (Below.refl w1.heap.size w1) (.cells #[.int .i64 x.num, .slice x.X x.l.length x.c, .int .i64 x.s] 50)
          have BBF := Lib.hid (below_on BB.out bf)
          have hB0f := Lib.hid (hB0.out.later bf)
          have hB1f := Lib.hid (hB1.out.later bf)
          have FB := Lib.hid (Blk.new w1 50 #[.int .i64 x.num, .slice x.X x.l.length x.c, .int .i64 x.s])
          have SE := rseal_any B cb p _ (HBB.out.later BBF.out)
          rw [show Fr.sealed p = (Fr.frm p, 0) from by unfold Fr.sealed; rw [if_pos hp]] at SE
          have SS := Lib.hid SE
          clear SE bf hB0
          go_wp2_with fail
          refine SS.out.mono ?_
          rintro e w3 ⟨v3, rfl, ho3, b3⟩
          obtain ⟨F3, f3, rfl, hF3⟩ := OneB.of_own ho3 (Fr.seal_byte HBB.out.byte)
          have BB3 := Lib.hid (below_on BBF.out b3)
          have hB03 := Lib.hid (hB0f.out.later b3)
          have hB13 := Lib.hid (hB1f.out.later b3)
          have FB3 := Lib.hid (FB.out.later b3)
          have RA := rappend_any room x.num (some ⟨b, off, none⟩) F3 c f3 L (Fr.frm p) w3 (HD.out.later BB3.out) hF3
          rw [HA.out, HM.out] at RA
          have RR := Lib.hid RA
          clear RA ho3 hF3 b3 c0 c1 u0 u1 u2 SS hB0f hB1f hB1 FB
          have c0 := hB03.out.cell (i := 0) rfl
          have c1 := hB03.out.cell (i := 1) rfl
          have k0 := FB3.out.cell (i := 0) rfl
          go_wp2_with fail
          refine RR.out.mono ?_
          intro e w5 h
          obtain ⟨A5, c5, L5, rfl, hO5, hf5, b5⟩ := h.open
          have BB5 := Lib.hid (below_on BB3.out b5)
          have hB5 := Lib.hid (hB13.out.later b5)
          have hsz5 : w.heap.size + 1 < w3.heap.size := hB13.out.lt
          clear h b5 RR c0 c1 k0 hB03 hB13 FB3
          have z' := hB5.out
          have y0 := z'.cell (i := 0) rfl
          have y1 := z'.cell (i := 1) rfl
          have s0 := z'.free 0
          have s1 := z'.free 1
          have hz := (z'.put 0 (.int .i64 rm)).put 1 (.slice A5 L5.length c5)
          have z0 := Lib.hid (hz.cell (i := 0) rfl)
          have z1 := Lib.hid (hz.cell (i := 1) rfl)
          have hbz := ((BB5.out).setCell (p := ⟨w.heap.size + 1, 0, none⟩) (by show w.heap.size ≤ w.heap.size + 1; omega) (.int .i64 rm)).setCell (p := ⟨w.heap.size + 1, 1, none⟩) (by show w.heap.size ≤ w.heap.size + 1; omega) (.slice A5 L5.length c5)
          have hO2 := (((hO5).low (p := ⟨w.heap.size + 1, 0, none⟩) (by show w.heap.size + 1 < _; omega) (.int .i64 rm)).low (p := ⟨w.heap.size + 1, 1, none⟩) (by show w.heap.size + 1 < _; omega) (.slice A5 L5.length c5)).lower (base' := w.heap.size) (by omega)
          have FIN := Lib.hid (show GivesDE (rm, fs2, kr) w (.returned (.tuple #[.agg #[.int .i64 rm, .slice A5 L5.length c5], .int .i64 kr])) _ from ⟨_, L5, rfl, hO2, hf5, hbz⟩)
          clear z' hz hbz hO5 hf5 hO2
          go_wp2
          have z0 := z0.out
          have z1 := z1.out
          exact bodyPost_ret (v := .tuple #[.agg #[.int .i64 rm, .slice A5 L5.length c5], .int .i64 kr]) (by simp [results, Tryd.results11, go_sem, z0, z1]) rfl FIN.out
    · have hR : Jn.appJR room (L.map Fc.fi) p = (0, [], 1) := by unfold Jn.appJR; rw [if_neg (fun h => hp h.2)]
      have dp : decide ((1048576 : Int) < (p.length : Int)) = true := decide_eq_true (by omega)
      rw [hR]
      clear hq hR HD
      go_enter Tryd.func11, Tryd.ntmps11
      go_wp2_with fail
      refine NN.out.mono ?_
      rintro e w1 ⟨rfl, b1⟩
      have bb := below_on BN.out b1
      have hB0 := Lib.hid (B0.out.later b1)
      have hB1 := Lib.hid (B1.out.later b1)
      have c0 := hB0.out.cell (i := 0) rfl
      have c1 := hB0.out.cell (i := 1) rfl
      have BB := Lib.hid bb
      clear b1 NN B0 B1 BN bb
      have z' := hB1.out
      have y0 := z'.cell (i := 0) rfl
      have y1 := z'.cell (i := 1) rfl
      have s0 := z'.free 0
      have s1 := z'.free 1
      have hz := (z'.put 0 (.int .i64 0)).put 1 (.slice none 0 0)
      have z0 := Lib.hid (hz.cell (i := 0) rfl)
      have z1 := Lib.hid (hz.cell (i := 1) rfl)
      have hbz := ((BB.out).setCell (p := ⟨w.heap.size + 1, 0, none⟩) (by show w.heap.size ≤ w.heap.size + 1; omega) (.int .i64 0)).setCell (p := ⟨w.heap.size + 1, 1, none⟩) (by show w.heap.size ≤ w.heap.size + 1; omega) (.slice none 0 0)
      have FIN := Lib.hid (GivesDE.err 1 hbz)
      clear z' hz hbz 
      go_wp2
      have z0 := z0.out
      have z1 := z1.out
      exact bodyPost_ret (v := .tuple #[.agg #[.int .i64 0, .slice none 0 0], .int .i64 1]) (by simp [results, Tryd.results11, go_sem, z0, z1]) rfl FIN.out

set_option maxRecDepth 100000 in
set_option maxHeartbeats 6400000 in
theorem rdrop_any (room : Int) (A : Option Addr) (c : Nat) (L : List Fc) (w : World) (h : OneD w A c L)  :
    Calls Tryd.prog 18 #[.agg #[.int .i64 room, .slice A L.length c]] w (GivesDO (Jn.dropR room (L.map Fc.fi)) w) := by
  have bn := below_new (below_new (Below.refl w.heap.size w) (.cells #[.int .i64 room, .slice A L.length c] 24)) (.cells #[.int .i64 0, .slice none 0 0] 24)
  have N := rformed_any room A c L _ (h.later bn)
  have B0 := Lib.hid ((Blk.new w 24 #[.int .i64 room, .slice A L.length c]).alloc (.cells #[.int .i64 0, .slice none 0 0] 24))
  have B1 := Lib.hid (show Blk _ (w.heap.size + 1) 24 #[.int .i64 0, .slice none 0 0] from by simpa using Blk.new (w.alloc (.cells #[.int .i64 room, .slice A L.length c] 24)) 24 #[.int .i64 0, .slice none 0 0])
  have HD := Lib.hid h
  have hlen := h.len
  clear h
  cases hq : Dk.fmd room (L.map Fc.fi) with
  | false =>
    have hR : Jn.dropR room (L.map Fc.fi) = (0, [], 1) := by unfold Jn.dropR; rw [if_neg (fun h => by rw [hq] at h; exact absurd h Bool.false_ne_true)]
    rw [hR]
    rw [hq] at N
    clear hq hR HD B0
    go_enter Tryd.func18, Tryd.ntmps18
    go_wp2_with fail
    refine N.mono ?_
    rintro e w1 ⟨rfl, b1⟩
    have z' := B1.out.later b1
    have y0 := z'.cell (i := 0) rfl
    have y1 := z'.cell (i := 1) rfl
    have s0 := z'.free 0
    have s1 := z'.free 1
    have hz := (z'.put 0 (.int .i64 0)).put 1 (.slice none 0 0)
    have z0 := Lib.hid (hz.cell (i := 0) rfl)
    have z1 := Lib.hid (hz.cell (i := 1) rfl)
    have hbz := ((below_on bn b1).setCell (p := ⟨w.heap.size + 1, 0, none⟩) (by show w.heap.size ≤ w.heap.size + 1; omega) (.int .i64 0)).setCell (p := ⟨w.heap.size + 1, 1, none⟩) (by show w.heap.size ≤ w.heap.size + 1; omega) (.slice none 0 0)
    have FIN := Lib.hid (show GivesDO (0, [], 1) w (.returned (.tuple #[.agg #[.int .i64 0, .slice none 0 0], .int .i64 1])) _ from ⟨none, 0, [], rfl, OneD.nil _, rfl, hbz⟩)
    clear z' hz hbz 
    go_wp2
    have z0 := z0.out
    have z1 := z1.out
    exact bodyPost_ret (v := .tuple #[.agg #[.int .i64 0, .slice none 0 0], .int .i64 1]) (by simp [results, Tryd.results18, go_sem, z0, z1]) rfl FIN.out
  | true =>
    rw [hq] at N
    have NN := Lib.hid N
    have BN := Lib.hid bn
    have HQ := Lib.hid hq
    clear N bn
    by_cases hL : L = []
    · have hR : Jn.dropR room (L.map Fc.fi) = (0, [], 16) := by unfold Jn.dropR; rw [if_pos HQ.out, hL]; rfl
      rw [hR]
      clear hR hq HQ
      subst hL
      go_enter Tryd.func18, Tryd.ntmps18
      go_wp2_with fail
      refine NN.out.mono ?_
      rintro e w1 ⟨rfl, b1⟩
      have bb := below_on BN.out b1
      have hB0 := Lib.hid (B0.out.later b1)
      have hB1 := Lib.hid (B1.out.later b1)
      have c0 := hB0.out.cell (i := 0) rfl
      have c1 := hB0.out.cell (i := 1) rfl
      have BB := Lib.hid bb
      clear b1 NN B0 B1 BN bb
      have z' := hB1.out
      have y0 := z'.cell (i := 0) rfl
      have y1 := z'.cell (i := 1) rfl
      have s0 := z'.free 0
      have s1 := z'.free 1
      have hz := (z'.put 0 (.int .i64 0)).put 1 (.slice none 0 0)
      have z0 := Lib.hid (hz.cell (i := 0) rfl)
      have z1 := Lib.hid (hz.cell (i := 1) rfl)
      have hbz := ((BB.out).setCell (p := ⟨w.heap.size + 1, 0, none⟩) (by show w.heap.size ≤ w.heap.size + 1; omega) (.int .i64 0)).setCell (p := ⟨w.heap.size + 1, 1, none⟩) (by show w.heap.size ≤ w.heap.size + 1; omega) (.slice none 0 0)
      have FIN := Lib.hid (show GivesDO (0, [], 16) w (.returned (.tuple #[.agg #[.int .i64 0, .slice none 0 0], .int .i64 16])) _ from ⟨none, 0, [], rfl, OneD.nil _, rfl, hbz⟩)
      clear z' hz hbz 
      go_wp2
      have z0 := z0.out
      have z1 := z1.out
      exact bodyPost_ret (v := .tuple #[.agg #[.int .i64 0, .slice none 0 0], .int .i64 16]) (by simp [results, Tryd.results18, go_sem, z0, z1]) rfl FIN.out
    · obtain ⟨x, hx, hx2⟩ := Jn.getLast_at hL
      have hR : Jn.dropR room (L.map Fc.fi) = (room, [x.fi], 0) := by unfold Jn.dropR; rw [if_pos hq, List.getLast?_map, hx2]; rfl
      rw [hR]
      have HFIT := Lib.hid (Dk.fit hq)
      clear hR hq HQ
      have hl0 : 0 < L.length := List.length_pos_iff.2 hL
      have ne0 : decide ((L.length : Int) = 0) = false := decide_eq_false (by omega)
      have ne1 : ((L.length : Int) == 0) = false := by rw [beq_eq_false_iff_ne]; omega
      go_enter Tryd.func18, Tryd.ntmps18
      go_wp2_with fail
      refine NN.out.mono ?_
      rintro e w1 ⟨rfl, b1⟩
      have bb := below_on BN.out b1
      have hB0 := Lib.hid (B0.out.later b1)
      have hB1 := Lib.hid (B1.out.later b1)
      have c0 := hB0.out.cell (i := 0) rfl
      have c1 := hB0.out.cell (i := 1) rfl
      have BB := Lib.hid bb
      clear b1 NN B0 B1 BN bb
      have CP := rcopyD_any room A c L w1 (HD.out.later BB.out) HFIT.out
      have RR := Lib.hid CP
      clear CP
      go_wp2_with fail
      refine RR.out.mono ?_
      rintro e w2 ⟨v, L2, rfl, hO, hf, b2⟩
      have hn2 : L2.length = L.length := by have := congrArg List.length hf; simpa using this
      have hl2 : 0 < L2.length := by omega
      obtain ⟨g, cap, hgv⟩ := own_len hO.row hl2
      subst hgv
      have hO1 := hO.oneD
      obtain ⟨y, hy, hy2⟩ := Jn.getLast_at (List.length_pos_iff.1 hl2)
      have hyx : y.fi = x.fi := by
        have e1 := congrArg List.getLast? hf
        rw [List.getLast?_map, List.getLast?_map, hx2, hy2] at e1
        simpa using e1
      have hB02 := Lib.hid (hB1.out.later b2)
      have bo := below_new (Below.refl w2.heap.size w2) (.cells #[.int .i64 room, .slice (some ⟨g, 0, none⟩) L2.length cap] 24)
      have hB1o := Lib.hid (hB02.out.later bo)
      have BB2 := Lib.hid (below_on (below_on BB.out b2) bo)
      have OD := Lib.hid (hO1.later bo)
      obtain ⟨m, hm⟩ : ∃ m, L2.length = m + 1 := ⟨L2.length - 1, by omega⟩
      rw [hm, Nat.add_sub_cancel] at hy
      have hcap := hO1.le
      have hcm := hO1.cap
      unfold maxLen at hcm
      have HY := Lib.hid hy
      have HYX := Lib.hid hyx
      have HM := Lib.hid hm
      have OB := Lib.hid (Blk.new w2 24 #[.int .i64 room, .slice (some ⟨g, 0, none⟩) L2.length cap])
      have LW := Lib.hid (show w.heap.size ≤ w2.heap.size from (below_on BB.out b2).size)
      have LW1 := Lib.hid hB1.out.lt
      have bo2 := below_new (Below.refl w2.heap.size w2) (.cells #[.int .i64 room, .slice (some ⟨g, m * 3, none⟩) 1 (cap - m)] 24)
      have BB2 := Lib.hid (below_on (below_on BB.out b2) bo2)
      have hB5 := Lib.hid (hB02.out.later bo2)
      have OB2 := Lib.hid (Blk.new w2 24 #[.int .i64 room, .slice (some ⟨g, m * 3, none⟩) 1 (cap - m)])
      have HO := Lib.hid (hO.later bo2)
      rw [hm] at hcap OB
      clear hO hO1 hf b2 bo hy hy2 hyx hB1 hB02 hB1o c0 c1 RR hx hx2 hn2 hl2 hm hl0 ne0 ne1 HFIT hL OD bo2
      have hz : ((m + 1 : Nat) : Int) - 1 = (m : Int) := by omega
      have i0 : (0 : Int) ≤ (m : Int) := by omega
      have i1 : (m : Int) ≤ ((m + 1 : Nat) : Int) := by omega
      have i2 : ((m + 1 : Nat) : Int) ≤ (cap : Int) := by omega
      rw [HM.out]
      go_upto_region 7 with (fail)
      have k0 := OB2.out.cell (i := 0) rfl
      have k1 := OB2.out.cell (i := 1) rfl
      obtain ⟨W7, hW7⟩ : ∃ W7, w2.alloc (.cells #[.int .i64 room, .slice (some ⟨g, m * 3, none⟩) 1 (cap - m)] 24) = W7 := ⟨_, rfl⟩
      rw [hW7] at BB2 hB5 OB2 HO k0 k1 ⊢
      clear hW7 OB hB0 BB
      have z' := hB5.out
      have y0 := z'.cell (i := 0) rfl
      have y1 := z'.cell (i := 1) rfl
      have s0 := z'.free 0
      have s1 := z'.free 1
      have hz := (z'.put 0 (.int .i64 room)).put 1 (.slice (some ⟨g, m * 3, none⟩) 1 (cap - m))
      have z0 := Lib.hid (hz.cell (i := 0) rfl)
      have z1 := Lib.hid (hz.cell (i := 1) rfl)
      have hbz := ((BB2.out).setCell (p := ⟨w.heap.size + 1, 0, none⟩) (by show w.heap.size ≤ w.heap.size + 1; omega) (.int .i64 room)).setCell (p := ⟨w.heap.size + 1, 1, none⟩) (by show w.heap.size ≤ w.heap.size + 1; omega) (.slice (some ⟨g, m * 3, none⟩) 1 (cap - m))
      have hO2 := (((HO.out.low (p := ⟨w.heap.size + 1, 0, none⟩) LW1.out (.int .i64 room)).low (p := ⟨w.heap.size + 1, 1, none⟩) LW1.out (.slice (some ⟨g, m * 3, none⟩) 1 (cap - m))).oneD).lastOf HM.out HY.out
      have FIN := Lib.hid (show GivesDO (room, [x.fi], 0) w (.returned (.tuple #[.agg #[.int .i64 room, .slice (some ⟨g, m * 3, none⟩) 1 (cap - m)], .int .i64 0])) _ from ⟨some ⟨g, m * 3, none⟩, cap - m, [y], rfl, hO2, by rw [← HYX.out]; rfl, hbz⟩)
      clear z' hz hbz hO2
      go_wp2
      have z0 := z0.out
      have z1 := z1.out
      exact bodyPost_ret (v := .tuple #[.agg #[.int .i64 room, .slice (some ⟨g, m * 3, none⟩) 1 (cap - m)], .int .i64 0]) (by simp [results, Tryd.results18, go_sem, z0, z1]) rfl FIN.out
end Go.Proofs.YtkhggofcbdcliaaDoor
namespace Go.Proofs.YtkhggofcbdcliaaDoor
open Go.RowKit

namespace Pk
theorem or_128 (m : Nat) : bits BinOp.or IntKind.u8 ((m : Int) % 256) 128 = (m : Int) % 128 + 128 := by
  have h : ∀ n : Fin 256, bits BinOp.or IntKind.u8 ((n.val : Nat) : Int) 128 = ((n.val % 128 + 128 : Nat) : Int) := by decide +kernel
  have k := h ⟨m % 256, by omega⟩
  simp only at k
  rw [show ((m : Int) % 256) = ((m % 256 : Nat) : Int) from by omega, k]
  omega
end Pk

end Go.Proofs.YtkhggofcbdcliaaDoor
namespace Go.Proofs.YtkhggofcbdcliaaDoor
open Go.RowKit

namespace Pk
theorem nb_le : ∀ f n, n < 128 ^ (f + 1) → (nb (f + 1) n).length ≤ f + 1
  | 0, n, h => by
    unfold nb
    rw [if_pos (by simpa using h)]
    simp
  | f + 1, n, h => by
    unfold nb
    split
    · simp
    · have := nb_le f (n / 128) (by
        rw [Nat.div_lt_iff_lt_mul (by omega)]
        rw [Nat.pow_succ] at h
        exact h)
      simp
      omega
end Pk
theorem bytesOf_le9 (n : Nat) (h : n ≤ 9223372036854775807) : (Pk.bytesOf n).length ≤ 9 := Pk.nb_le 8 n (Nat.lt_of_le_of_lt h (by decide))

end Go.Proofs.YtkhggofcbdcliaaDoor
