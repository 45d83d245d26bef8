/-
  What frame's Seal, and telltaleref07's four, length and Seal answer.
-/
import Derived.Test.YtobgbaejdamecaaDoorFrSum
namespace Go.Proofs.YtobgbaejdamecaaDoor
open Go.RowKit

/-- Bytes and an error are answered, the bytes in memory of the call's own. -/
def GivesBE (l : List Int) (k : Int) (w : World) (e : Ending) (w' : World) : Prop :=
  ∃ v, e = .returned (.tuple #[v, .int .i64 k]) ∧ w'.ownsRow w.heap.size 5 1 v l.length (bCells l) ∧ Below w.heap.size w w'
theorem none_own (w : World) (base : Nat) : w.ownsRow base 5 1 (.slice none 0 0) ([] : List Int).length (bCells []) := ⟨rfl, .inl ⟨rfl, rfl⟩⟩

set_option maxHeartbeats 800000 in
theorem rfour_any (n : Nat) (hn : n < 4294967296) (w : World) : Calls Tryd.prog 26 #[.int .u32 (n : Int)] w (GivesB (Fr.w4 n) w) := by
  go_enter Tryd.func26, Tryd.ntmps26
  go_wp2
  go_ret
  have e0 : (n : Int) / 16777216 = ((n / 16777216 % 256 : Nat) : Int) := by omega
  refine ⟨_, rfl, ⟨rfl, .inr ⟨w.heap.size, 4, _, rfl, Nat.le_refl _, heap_alloc_new w _, Nat.le_refl _, by unfold maxLen; omega, rfl, ?_⟩⟩, below_new (Below.refl _ _) _⟩
  rw [e0]
  rfl
theorem wraps_i64 (n : Int) (h₀ : 0 ≤ n) (h₁ : n < 2 ^ 63) : IntKind.i64.wrap n = n := by rw [IntKind.wrap_i64]; omega
theorem or64 (i : Nat) (x y : Int) (hx0 : 0 ≤ x) (hx1 : x < 9223372036854775808) (hx : x % 2 ^ i = 0) (hy0 : 0 ≤ y) (hy : y < 2 ^ i ∧ y < 9223372036854775808) : bits BinOp.or IntKind.i64 x y = x + y := bits_join .i64 63 (by decide) wraps_i64 i x y hx0 hx hx1 hy0 hy.1 hy.2
set_option maxRecDepth 100000 in
set_option maxHeartbeats 800000 in
theorem rlen_any (A : Option Addr) (c : Nat) (l : List Int) (w : World) (h : OneB w A c l) (h4 : 4 ≤ l.length) : Calls Tryd.prog 29 #[.slice A l.length c] w (Says (.int .i64 ((Fr.num4 l : Nat) : Int)) w) := by
  obtain ⟨g, off, rfl, hc⟩ := h.at (by intro e; rw [e] at h4; simp at h4)
  have hb0 := h.byte _ (List.getElem_mem (l := l) (n := 0) (by omega))
  have hb1 := h.byte _ (List.getElem_mem (l := l) (n := 1) (by omega))
  have hb2 := h.byte _ (List.getElem_mem (l := l) (n := 2) (by omega))
  have hb3 := h.byte _ (List.getElem_mem (l := l) (n := 3) (by omega))
  have e0 : l.getD 0 0 = l[0] := by rw [List.getD_eq_getElem?_getD, List.getElem?_eq_getElem]; rfl
  have e1 : l.getD 1 0 = l[1] := by rw [List.getD_eq_getElem?_getD, List.getElem?_eq_getElem]; rfl
  have e2 : l.getD 2 0 = l[2] := by rw [List.getD_eq_getElem?_getD, List.getElem?_eq_getElem]; rfl
  have e3 : l.getD 3 0 = l[3] := by rw [List.getD_eq_getElem?_getD, List.getElem?_eq_getElem]; rfl
  have c0 := hc 0 (by omega)
  have c1 := hc 1 (by omega)
  have c2 := hc 2 (by omega)
  have c3 := hc 3 (by omega)
  unfold Fr.num4
  rw [e0] at c0 ⊢; rw [e1] at c1 ⊢; rw [e2] at c2 ⊢; rw [e3] at c3 ⊢
  generalize l[0] = x0 at *
  generalize l[1] = x1 at *
  generalize l[2] = x2 at *
  generalize l[3] = x3 at *
  have hcap := h.cap
  have hle := h.le
  unfold maxLen at hcap
  unfold isB at hb0 hb1 hb2 hb3
  rw [Nat.add_zero] at c0
  clear h hc e0 e1 e2 e3
  have i0 : (0 : Int) < (l.length : Int) := by omega
  have i1 : (1 : Int) < (l.length : Int) := by omega
  have i2 : (2 : Int) < (l.length : Int) := by omega
  have i3 : (3 : Int) < (l.length : Int) := by omega
  obtain ⟨k, hk⟩ : ∃ k, l.length = k := ⟨_, rfl⟩
  rw [hk] at hle h4 i0 i1 i2 i3 ⊢
  clear hk
  go_enter Tryd.func29, Tryd.ntmps29
  go_wp2_with fail
  go_quiet (fail)
  go_wp2
  go_ret
  refine ⟨?_, below_drewN (Below.refl _ _) _⟩
  have j1 : bits BinOp.or IntKind.i64 (x0 * 16777216) (x1 * 65536) = x0 * 16777216 + x1 * 65536 := or64 24 _ _ (by omega) (by omega) (by omega) (by omega) (by omega)
  have j2 : bits BinOp.or IntKind.i64 (x0 * 16777216 + x1 * 65536) (x2 * 256) = x0 * 16777216 + x1 * 65536 + x2 * 256 := or64 16 _ _ (by omega) (by omega) (by omega) (by omega) (by omega)
  have j3 : bits BinOp.or IntKind.i64 (x0 * 16777216 + x1 * 65536 + x2 * 256) x3 = x0 * 16777216 + x1 * 65536 + x2 * 256 + x3 := or64 8 _ _ (by omega) (by omega) (by omega) (by omega) (by omega)
  rw [show ((x0.toNat * 16777216 + x1.toNat * 65536 + x2.toNat * 256 + x3.toNat : Nat) : Int) = x0 * 16777216 + x1 * 65536 + x2 * 256 + x3 by omega, ← j3, ← j2, ← j1]
  rfl

/-- What Seal answers. -/
def Fr.sealed (p : List Int) : List Int × Int := if p.length ≤ 1048576 then (Fr.frm p, 0) else ([], 1)

set_option maxRecDepth 100000 in
set_option maxHeartbeats 6400000 in
theorem dseal_any (A : Option Addr) (c : Nat) (p : List Int) (w : World) (h : OneB w A c p) (hH : Halves w) :
    Calls Tryd.prog 13 #[.slice A p.length c] w (GivesBE (Fr.sealed p).1 (Fr.sealed p).2 w) := by
  have hl := h.len
  unfold Fr.sealed
  by_cases hp : p.length ≤ 1048576
  · rw [if_pos hp]
    have hd : decide ((1048576 : Int) < (p.length : Int)) = false := decide_eq_false (by omega)
    have N1 := Lib.hid (fword_any p.length (by omega) w)
    have HB := Lib.hid h; have HH := Lib.hid hH
    have hs := Fr.seal_len p
    have hfin : [Fr.w4 p.length, Fr.w4 (Fr.sum (Fr.w4 p.length ++ p)), p].flatten = Fr.frm p := by unfold Fr.frm; simp
    have hfin2 : [Fr.w4 p.length, p].flatten = Fr.w4 p.length ++ p := by simp
    obtain ⟨sm, hsm⟩ : ∃ sm, Fr.sum (Fr.w4 p.length ++ p) = sm := ⟨_, rfl⟩
    have hslt := Fr.sum_lt (Fr.w4 p.length ++ p)
    rw [hsm] at hfin hslt
    have HF := Lib.hid hfin; have HF2 := Lib.hid hfin2; have HSM := Lib.hid hsm
    have hfl : (Fr.frm p).length ≤ 140737488355328 := by omega
    rw [← hfin] at hfl ⊢
    clear h hH hfin hfin2 hsm hs
    go_enter Tryd.func13, Tryd.ntmps13
    go_wp2_with fail
    refine N1.out.mono ?_
    rintro e w1 ⟨v1, rfl, ho1, b1⟩
    obtain ⟨A1, c1, rfl, hO1⟩ := OneB.of_own ho1 (Fr.w4_byte _)
    have HO1 := Lib.hid hO1
    have bn := below_new (Below.refl w1.heap.size w1) (.cells #[.slice A1 (Fr.w4 p.length).length c1, .slice A p.length c] 22)
    have N2 := fsum_any w1.heap.size 2 (by omega) [(A1, c1), (A, c)] [Fr.w4 p.length, p] (w1.alloc (.cells #[.slice A1 (Fr.w4 p.length).length c1, .slice A p.length c] 22)) rfl rfl (Blk.new w1 _ _) (fun k hk => by
      have hk2 : k = 0 ∨ k = 1 := by simp at hk; omega
      rcases hk2 with rfl | rfl
      · exact HO1.out.later bn
      · exact (HB.out.later b1).later bn) ((HH.out.later b1).later bn)
    rw [HF2.out, HSM.out] at N2
    have N22 := Lib.hid N2; have BN := Lib.hid bn
    clear N2 bn ho1 hO1
    go_wp2_with fail
    refine N22.out.mono ?_
    rintro e w3 ⟨rfl, b3⟩
    have bb3 := below_on b1 (below_on BN.out b3)
    have N3 := Lib.hid (fword_any sm hslt w3)
    go_wp2_with fail
    refine N3.out.mono ?_
    rintro e w4 ⟨v4, rfl, ho4, b4⟩
    obtain ⟨A4, c4, rfl, hO4⟩ := OneB.of_own ho4 (Fr.w4_byte _)
    have HO4 := Lib.hid hO4
    have bb4 := below_on bb3 b4
    have bn := below_new (Below.refl w4.heap.size w4) (.cells #[.slice A1 (Fr.w4 p.length).length c1, .slice A4 (Fr.w4 sm).length c4, .slice A p.length c] 22)
    have N5 := concatB_any w4.heap.size 3 (by omega) [(A1, c1), (A4, c4), (A, c)] [Fr.w4 p.length, Fr.w4 sm, p] (w4.alloc (.cells #[.slice A1 (Fr.w4 p.length).length c1, .slice A4 (Fr.w4 sm).length c4, .slice A p.length c] 22)) rfl rfl (Blk.new w4 _ _) (fun k hk => by
      have hk2 : k = 0 ∨ k = 1 ∨ k = 2 := by simp at hk; omega
      rcases hk2 with rfl | rfl | rfl
      · exact ((HO1.out.later (below_on BN.out b3)).later b4).later bn
      · exact HO4.out.later bn
      · exact (HB.out.later bb4).later bn) hfl
    have N52 := Lib.hid N5; have BN5 := Lib.hid bn
    clear N5 bn ho4 hO4
    go_wp2_with fail
    refine N52.out.mono ?_
    rintro e w6 ⟨v6, rfl, ho6, b6⟩
    have HO6 := Lib.hid (own_base ho6 (show w.heap.size ≤ (w4.alloc (.cells #[.slice A1 (Fr.w4 p.length).length c1, .slice A4 (Fr.w4 sm).length c4, .slice A p.length c] 22)).heap.size by have := bb4.size; simp; omega))
    have BB6 := Lib.hid (below_on bb4 (below_on BN5.out b6))
    clear ho6
    go_wp2
    go_ret2
    exact ⟨_, rfl, HO6.out, BB6.out⟩
  · rw [if_neg hp]
    have hd : decide ((1048576 : Int) < (p.length : Int)) = true := decide_eq_true (by omega)
    clear h hH hp
    go_enter Tryd.func13, Tryd.ntmps13
    go_wp2
    go_ret2
    exact ⟨_, rfl, none_own _ _, Below.refl _ _⟩

set_option maxRecDepth 100000 in
set_option maxHeartbeats 6400000 in
theorem rseal_any (A : Option Addr) (c : Nat) (p : List Int) (w : World) (h : OneB w A c p) :
    Calls Tryd.prog 14 #[.slice A p.length c] w (GivesBE (Fr.sealed p).1 (Fr.sealed p).2 w) := by
  obtain ⟨i0, hi, hz0, hz1, hz2⟩ := info_parts infoBy
  have hl := h.len
  unfold Fr.sealed
  by_cases hp : p.length ≤ 1048576
  · rw [if_pos hp]
    have hd : decide ((1048576 : Int) < (p.length : Int)) = false := decide_eq_false (by omega)
    have N1 := Lib.hid (rfour_any p.length (by omega) w)
    have HB := Lib.hid h
    have hby := h.byte
    obtain ⟨q, hq⟩ : ∃ q, Fr.w4 p.length = q := ⟨_, rfl⟩
    have hql : q.length = 4 := by rw [← hq]; rfl
    have hqb : ∀ x ∈ q, isB x := by rw [← hq]; exact Fr.w4_byte _
    obtain ⟨sm, hsm⟩ : ∃ sm, Fr.sum (q ++ p) = sm := ⟨_, rfl⟩
    have hslt := Fr.sum_lt (q ++ p)
    rw [hsm] at hslt
    have hfin : Fr.frm p = (q ++ Fr.w4 sm) ++ p := by unfold Fr.frm; rw [hq, hsm, List.append_assoc]
    rw [hq] at N1
    rw [hfin]
    obtain ⟨q2, hq2⟩ : ∃ q2, Fr.w4 sm = q2 := ⟨_, rfl⟩
    have hql2 : q2.length = 4 := by rw [← hq2]; rfl
    have hqb2 : ∀ x ∈ q2, isB x := by rw [← hq2]; exact Fr.w4_byte _
    have N3 := fun wx => rfour_any sm hslt wx
    simp only [hq2] at N3
    rw [hq2]
    have HSM := Lib.hid hsm; have HQB := Lib.hid hqb; have HQB2 := Lib.hid hqb2; have HBY := Lib.hid hby; have N3 := Lib.hid N3; have HQL := Lib.hid hql; have HQL2 := Lib.hid hql2
    have hq4 : q.length ≤ 4 := by omega
    have hq24 : q2.length ≤ 4 := by omega
    clear h hfin hsm hq hq2 hqb hqb2 hby hql hql2
    go_enter Tryd.func14, Tryd.ntmps14
    go_wp2_with fail
    refine N1.out.mono ?_
    rintro e w1 ⟨v1, rfl, ho1, b1⟩
    obtain ⟨A1, c1, rfl, hO1⟩ := OneB.of_own ho1 HQB.out
    have C1 := Lib.hid (bcopy_any A1 c1 q w1 (by omega) hO1)
    have HO1 := Lib.hid hO1
    clear ho1 hO1
    go_wp2_with fail
    refine C1.out.mono ?_
    rintro e w2 ⟨v2, rfl, ho2, b2⟩
    have bb2 := below_on b1 b2
    have C2 := Lib.hid (bcopy_any A1 c1 q w2 (by omega) (HO1.out.later b2))
    have HO2 := Lib.hid ho2
    clear ho2
    go_wp2_with fail
    refine C2.out.mono ?_
    rintro e w3 ⟨v3, rfl, ho3, b3⟩
    have bb3 := below_on bb2 b3
    have hz3 := b3.size
    have hne : ∀ k, v2.ownBlock = some k → k < w2.heap.size := fun k hk => own_lt HO2.out k hk
    have NE := Lib.hid hne
    have HO3 := Lib.hid ho3
    clear ho3 hne
    go_wp2_with (at_builtin; refine wpList_append_lies _ rfl _ _ 22 rfl w2.heap.size 5 i0 (.int .u8 0) 1 1 Tryd.underlying22 hi hz0 hz1 hz2 rfl (by decide) _ q.length (bCells q) rfl HO3.out A p.length c (HB.out.later bb3).noA (bCells p) rfl (by rw [bCells_length, Nat.mul_one]) (HB.out.later bb3).lies (bCells_one p) ?c3 ?c4 ?c5 ?_)
    case c3 => unfold maxLen; omega
    case c4 => omega
    case c5 => exact hz3
    intro v4 w4 ho4 hg4 _
    have b4 : Below w2.heap.size w2 w4 := b3.grown hg4 hz3 (fun k' hk' => own_ge HO3.out k' hk')
    rw [← bCells_append, ← List.length_append] at ho4
    obtain ⟨A4, c4, rfl, hO4⟩ := OneB.of_own ho4 (fun x hx => (List.mem_append.1 hx).elim (HQB.out x) (HBY.out x))
    have CS := rsum_any A4 c4 (q ++ p) w4 hO4
    rw [HSM.out, List.length_append] at CS
    have CS2 := Lib.hid CS; have B4 := Lib.hid b4
    clear CS ho4 hg4 b4 hO4
    try rw [List.length_append]
    go_wp2_with fail
    refine CS2.out.mono ?_
    rintro e w5 ⟨rfl, b5⟩
    go_wp2_with fail
    refine (N3.out w5).mono ?_
    rintro e w6 ⟨v6, rfl, ho6, b6⟩
    obtain ⟨A6, c6, rfl, hO6⟩ := OneB.of_own ho6 HQB2.out
    have b26 : Below w2.heap.size w2 w6 := B4.out.trans ((below_on b5 b6).mono B4.out.size)
    have bb6 := below_on bb2 b26
    have ho2' := own_stays HO2.out (fun k hk => b26.block k (NE.out k hk))
    have HO26 := Lib.hid ho2'; have HO6 := Lib.hid hO6
    have hz6 := bb6.size
    have hz61 : w1.heap.size ≤ w6.heap.size := by have := b2.size; have := b26.size; omega
    clear ho6 hO6 ho2'
    go_wp2_with (at_builtin; refine wpList_append_lies _ rfl _ _ 22 rfl w1.heap.size 5 i0 (.int .u8 0) 1 1 Tryd.underlying22 hi hz0 hz1 hz2 rfl (by decide) _ q.length (bCells q) rfl HO26.out A6 q2.length c6 HO6.out.noA (bCells q2) rfl (by rw [bCells_length, Nat.mul_one]) HO6.out.lies (bCells_one q2) ?c3 ?c4 ?c5 ?_)
    case c3 => unfold maxLen; omega
    case c4 => omega
    case c5 => exact hz61
    intro v7 w7 ho7 hg7 _
    have b7 : Below w1.heap.size w1 w7 := (below_on b2 b26).grown hg7 hz61 (fun k' hk' => own_ge HO26.out k' hk')
    have bb7 := below_on b1 b7
    rw [← bCells_append, ← List.length_append] at ho7
    have HO7 := Lib.hid ho7
    have hl7 : (q ++ q2).length ≤ 8 := by rw [List.length_append]; omega
    have hz7 := b7.size
    obtain ⟨q3, hq3⟩ : ∃ q3, q ++ q2 = q3 := ⟨_, rfl⟩
    rw [hq3] at HO7 hl7
    have HQ3 := Lib.hid hq3
    clear ho7 hg7 b7 hq3
    go_wp2_with (at_builtin; refine wpList_append_lies _ rfl _ _ 22 rfl w1.heap.size 5 i0 (.int .u8 0) 1 1 Tryd.underlying22 hi hz0 hz1 hz2 rfl (by decide) _ q3.length (bCells q3) rfl HO7.out A p.length c (HB.out.later bb7).noA (bCells p) rfl (by rw [bCells_length, Nat.mul_one]) (HB.out.later bb7).lies (bCells_one p) ?c3 ?c4 ?c5 ?_)
    case c3 => unfold maxLen; omega
    case c4 => omega
    case c5 => exact hz7
    intro v8 w8 ho8 hg8 _
    have bb8 : Below w.heap.size w w8 := bb7.grown hg8 bb7.size (fun k' hk' => by have := own_ge HO7.out k' hk'; have := b1.size; omega)
    rw [← bCells_append, ← List.length_append] at ho8
    have HO8 := Lib.hid (own_base ho8 b1.size); have BB8 := Lib.hid bb8
    clear ho8 hg8 bb8
    go_wp2
    go_ret2
    exact ⟨_, rfl, by rw [HQ3.out]; exact HO8.out, BB8.out⟩
  · rw [if_neg hp]
    have hd : decide ((1048576 : Int) < (p.length : Int)) = true := decide_eq_true (by omega)
    clear h hp
    go_enter Tryd.func14, Tryd.ntmps14
    go_wp2
    go_ret2
    exact ⟨_, rfl, none_own _ _, Below.refl _ _⟩
end Go.Proofs.YtobgbaejdamecaaDoor
