/-
  The law ShelfWalks over the contracts of shelf's functions and of All.
  For any list of writes and any number, the law ShelfWalks returns true and leaves its arguments as they were. No condition.
-/
import Derived.Test.YtbpgofgdlikedaaG19
import Derived.Test.YtbpgofgdlikedaaG14
import Derived.Test.YtbpgofgdlikedaaG11
import Derived.Test.YtbpgofgdlikedaaRows
import Derived.Test.YtbpgofgdlikedaaG09
import Derived.Test.YtbpgofgdlikedaaG01
import Derived.OpenShut
import Derived.WalkKit
import Derived.ProofKit
import Derived.SizedLaws
namespace Go.Proofs.Ytbpgofgdlikedaa
open Go.RowKit Go.Shelf
attribute [local go_sem] Oper.semAt_some

theorem wr_ne {x0 x1 x2 y0 y1 y2 : Int} {x3 y3 : Bool} (h : ¬ ((x0, x1, x2, x3) : Wr) = (y0, y1, y2, y3)) : (x0 == y0) = false ∨ (x0 = y0 ∧ (x1 == y1) = false) ∨ (x0 = y0 ∧ x1 = y1 ∧ (x2 == y2) = false) ∨ (x0 = y0 ∧ x1 = y1 ∧ x2 = y2 ∧ (x3 == y3) = false) := by
  by_cases q1 : x0 = y0
  · by_cases q2 : x1 = y1
    · by_cases q3 : x2 = y2
      · exact .inr (.inr (.inr ⟨q1, q2, q3, beq_eq_false_iff_ne.2 (fun e => h (by rw [q1, q2, q3, e]))⟩))
      · exact .inr (.inr (.inl ⟨q1, q2, beq_eq_false_iff_ne.2 q3⟩))
    · exact .inr (.inl ⟨q1, beq_eq_false_iff_ne.2 q2⟩)
  · exact .inl (beq_eq_false_iff_ne.2 q1)
theorem pre_next {l pre : List Wr} (h : pre <+: l) (hlt : pre.length < l.length) (x : Wr) : pre ++ [x] <+: l ↔ x = l.getD pre.length Nt.zeroW := by
  obtain ⟨t, rfl⟩ := h
  cases t with
  | nil => rw [List.append_nil] at hlt; exact absurd hlt (Nat.lt_irrefl _)
  | cons y r =>
    have hg : (pre ++ y :: r).getD pre.length Nt.zeroW = y := by rw [List.getD_eq_getElem?_getD, List.getElem?_append_right (Nat.le_refl _), Nat.sub_self]; rfl
    rw [hg, List.prefix_append_right_inj]
    constructor
    · rintro ⟨s, hs⟩
      injection hs
    · rintro rfl
      exact ⟨r, rfl⟩

set_option maxRecDepth 100000 in
set_option maxHeartbeats 6400000 in
theorem lawSfWalks_any (SS : ShelfSpec) (T : ShelfAllSpec) (A : Option Addr) (c : Nat) (l : List Wr) (most : Int) (w : World) (h1 : OneW w A c l) :
    Calls Try.prog 6 #[.slice A l.length c, .int .i64 most] w (Says (.bool true) w) := by
  refine (callsIn_wide (n := 3)).1 ?_
  refine callsIn_of_wp_marks Try.func6 rfl trivial ?_ rfl
  simp only [Try.ntmps6, List.size_toArray, List.length_cons, List.length_nil, Nat.reduceAdd, Nat.reduceSub, Array.replicate_succ, Array.replicate_zero, List.push_toArray, List.append_toArray, List.nil_append, List.cons_append]
  have N0 := Lib.hid (fun wx => sfalive_any SS wx)
  have N2 := Lib.hid (fun w' hb => T A c l w w' h1 hb)
  have NF0 := Lib.hid (fun w' (hb : Below w.heap.size w w') => fformed_any A c l w' (h1.later hb))
  have hll := h1.len
  have H1 := Lib.hid h1
  have b0 := below_new (below_new (below_new (Below.refl w.heap.size w) (.cells #[.slice A l.length c] 22)) (.cells #[.int .i64 most] 3)) (.cells #[.bool false] 4)
  have L0 := ((Blk.new w 22 #[.slice A l.length c]).alloc (.cells #[.int .i64 most] 3)).alloc (.cells #[.bool false] 4)
  have M0 := (Blk.new (w.alloc (.cells #[.slice A l.length c] 22)) 3 #[.int .i64 most]).alloc (.cells #[.bool false] 4)
  have R0 := Blk.new ((w.alloc (.cells #[.slice A l.length c] 22)).alloc (.cells #[.int .i64 most] 3)) 4 #[.bool false]
  simp only [World.size_alloc] at M0 R0
  obtain ⟨W, hW⟩ : ∃ W, ((w.alloc (.cells #[.slice A l.length c] 22)).alloc (.cells #[.int .i64 most] 3)).alloc (.cells #[.bool false] 4) = W := ⟨_, rfl⟩
  rw [hW] at b0 L0 M0 R0
  have HW := Lib.hid hW
  clear h1 hW
  gi_wp2_with fail
  rw [HW.out]
  refine ⟨trivial, (callsIn_wide.2 (N0.out _)).mono ?_⟩
  rintro e w1 ⟨rfl, b1⟩
  have bb1 := below_on b0 b1
  have L1 := (L0.later b1).alloc (.cells #[.int .i64 0] 3)
  have M1 := (M0.later b1).alloc (.cells #[.int .i64 0] 3)
  have R1 := (R0.later b1).alloc (.cells #[.int .i64 0] 3)
  have K1 := Blk.new w1 3 #[.int .i64 0]
  have bb2 := below_new bb1 (.cells #[.int .i64 0] 3)
  have hz1 := bb1.size
  have hr1 := (R0.later b1).lt
  obtain ⟨w2, hw2⟩ : ∃ w2, w1.alloc (.cells #[.int .i64 0] 3) = w2 := ⟨_, rfl⟩
  have hz2 : w1.heap.size + 1 = w2.heap.size := by rw [← hw2]; simp
  rw [hw2] at L1 M1 R1 K1 bb2
  obtain ⟨kb, hkb⟩ : ∃ kb, w1.heap.size = kb := ⟨_, rfl⟩
  rw [hkb] at K1 hz1 hr1 hz2
  have HW2 := Lib.hid hw2
  have HKBN := Lib.hid hkb
  have l1 : (w1.alloc (.cells #[.int .i64 0] 3)).cell? ⟨w.heap.size, 0, none⟩ = some (.slice A l.length c) := by rw [hw2]; exact L1.cell (i := 0) rfl
  clear b0 L0 M0 R0 N0 HW b1 bb1 hw2 hkb
  gi_wp2_with fail
  rw [HW2.out]
  refine ⟨trivial, (callsIn_wide.2 (N2.out w2 bb2)).mono ?_⟩
  rintro e w4 ⟨gf, lb, rfl, b4, hent, hseq⟩
  have L4 := L1.later b4
  have M4 := M1.later b4
  have R4 := R1.later b4
  have K4 := K1.later b4
  have bb4 := below_on bb2 b4
  have hz4 := b4.size
  have NF := Lib.hid (fun w' (hb : Below w.heap.size w w') => NF0.out w' hb)
  clear L1 M1 R1 K1 l1 N2 NF0 HW2
  gi_wp2_with fail
  rw [HKBN.out]
  refine wpIn_rangeFunc_ownH rfl (by omega) (gf := gf) (lb := lb) rfl trivial hent hseq KeepC.trans (fun W l' o o' _ h1 h2 _ => KeepC.mark W l' o o' h1 h2) (Below.refl _ _) (fun _ => rfl)
    (fun pre W => ((((pre <+: Sf.tell l ∧ Blk W w.heap.size 22 #[.slice A l.length c]) ∧ Blk W (w.heap.size + 1) 3 #[.int .i64 most]) ∧ Blk W (w.heap.size + 1 + 1) 4 #[.bool false]) ∧ Blk W kb 3 #[.int .i64 (pre.length : Int)]) ∧ (Below w.heap.size w W ∧ w2.heap.size ≤ W.heap.size))
    (fun c pre W => (c = .ret ∧ (pre <+: Sf.tell l → W.cell? ⟨w.heap.size + 1 + 1, 0, none⟩ = some (.bool true))) ∧ Below w.heap.size w W)
    ?hI ?hIx ⟨⟨⟨⟨⟨List.nil_prefix, L4⟩, M4⟩, R4⟩, K4⟩, bb4, hz4⟩
    (fun x a' W => ∃ Bx, w2.heap.size ≤ Bx ∧ Blk W Bx 27 (Nt.wrArr x) ∧ a' = { tmps := #[.slice A l.length c, .int .i64 most, .pointer (some ⟨w.heap.size, 0, none⟩), .pointer (some ⟨w.heap.size + 1, 0, none⟩), .pointer (some ⟨w.heap.size + 1 + 1, 0, none⟩), .pointer (some ⟨kb, 0, none⟩), .int .i64 x.2.2.1, .pointer (some ⟨Bx, 0, none⟩), .bool true, .bool false, .slice A l.length c, .func (.func gf) #[] lb, .int .i64 x.2.2.1, Nt.wrV x, undef, undef, undef, undef, undef, undef, undef, undef, undef, undef, undef, undef, undef, undef, undef, undef, undef, undef, undef, undef, undef, undef, undef, undef, undef, undef, undef, undef, undef, undef, undef, undef, undef, undef, undef, undef, undef], defers := [] })
    ?hAx ?assign ?body ?done ?stop
  case hI => exact OwnFrom.and (OwnFrom.and (OwnFrom.and (OwnFrom.and (OwnFrom.and (ownFrom_pure _ _) (Own.from (blk_own _ _ fun _ => #[.slice A l.length c]) _)) (Own.from (blk_own _ _ fun _ => #[.int .i64 most]) _)) (Own.from (blk_own _ _ fun _ => #[.bool false]) _)) (Own.from (blk_own _ _ fun (pre : List Wr) => #[.int .i64 (pre.length : Int)]) _)) (OwnFrom.and (ownFrom_below (Nat.le_refl _) (by omega)) (fun _ X Y row hs hg _ => Nat.le_trans hs hg.size))
  case hIx => exact fun c' => OwnFrom.and (Own.from (fun s A B row hs hg hr => ⟨hs.1, fun h => cell_kept (hs.2 h) hg hr⟩) _) (ownFrom_below (Nat.le_refl _) (by omega))
  case hAx => exact fun x a' _ X Y row ⟨Bx, h0, h1, h2⟩ hg hr => ⟨Bx, h0, blk_own _ _ (fun (_ : Unit) => Nt.wrArr x) () X Y row h1 hg (fun r e => (hr r e).2), h2⟩
  case assign =>
    rintro l' pre x W K ⟨⟨⟨⟨⟨i0, i1⟩, i2⟩, i3⟩, i4⟩, i5, i6⟩ hK
    obtain ⟨x0, x1, x2, x3⟩ := x
    unfold toldW Nt.wrV
    unfold Nt.wrV Nt.wrArr at hK
    dsimp only at hK ⊢
    have bN := below_new (Below.refl W.heap.size W) (.cells #[.int .i64 x0, .int .i64 x1, .int .i64 x2, .bool x3] 27)
    have HK := Lib.hid hK
    have F0 := Lib.hid i0
    have F1 := Lib.hid (i1.later bN)
    have F2 := Lib.hid (i2.later bN)
    have F3 := Lib.hid (i3.later bN)
    have F4 := Lib.hid (i4.later bN)
    have F5 := Lib.hid (below_on i5 bN)
    have F6 := Lib.hid (Blk.new W 27 #[.int .i64 x0, .int .i64 x1, .int .i64 x2, .bool x3])
    have F7 := Lib.hid bN
    have F8 := Lib.hid i6
    have F9 := Lib.hid (Nat.le_trans i6 bN.size)
    clear hK i0 i1 i2 i3 i4 i5 bN hseq L4 M4 R4 K4 i6
    gi_wp2
    exact HK.out _ _ (keepsF_below F7.out) (KeepC.below F7.out) ⟨⟨⟨⟨⟨F0.out, F1.out⟩, F2.out⟩, F3.out⟩, F4.out⟩, F5.out, F9.out⟩ ⟨_, F8.out, F6.out, rfl⟩
  case body =>
    rintro l' pre x a' W hl _ ⟨⟨⟨⟨⟨i0, i1⟩, i2⟩, i3⟩, i4⟩, i5, i6⟩ ⟨Bx, hBx, hX, rfl⟩ hlt
    cases hf : Sf.fmd l with
    | false =>
      unfold Sf.tell at hlt
      rw [if_neg (by rw [hf]; exact Bool.false_ne_true)] at hlt
      exact absurd hlt (Nat.not_lt_zero _)
    | true =>
    have htl : Sf.tell l = l := by unfold Sf.tell; rw [if_pos hf]
    rw [htl] at hlt i0
    have HTL := Lib.hid htl
    have hnx := pre_next i0 hlt x
    have hne : l ≠ [] := fun e => by subst e; exact absurd hlt (Nat.not_lt_zero _)
    obtain ⟨b, off, hA, hcA⟩ := (H1.out.later i5).at hne
    have hNF := NF.out
    rw [hf] at hNF
    subst hA
    obtain ⟨e0, e1, e2, e3⟩ := hcA pre.length hlt
    obtain ⟨m, hm⟩ : ∃ m, pre.length = m := ⟨_, rfl⟩
    rw [hm] at i4 e0 e1 e2 e3 hnx hlt
    obtain ⟨y, hy⟩ : ∃ y, l.getD m Nt.zeroW = y := ⟨_, rfl⟩
    rw [hy] at e0 e1 e2 e3 hnx
    have HMP := Lib.hid hm
    have HLB := Lib.hid i1
    have HMB := Lib.hid i2
    have HRB := Lib.hid i3
    have HKB := Lib.hid i4
    have HB := Lib.hid i5
    have HS := Lib.hid i6
    have HNX := Lib.hid hnx
    have HNF := Lib.hid (fun w' (hb : Below W.heap.size W w') => hNF w' (below_on i5 hb))
    obtain ⟨x0, x1, x2, x3⟩ := x
    obtain ⟨y0, y1, y2, y3⟩ := y
    unfold Nt.wrArr at hX
    unfold Nt.wrV
    dsimp only at hX e0 e1 e2 e3 ⊢
    have HX := Lib.hid hX
    have HE := Lib.hid (And.intro e0 (And.intro e1 (And.intro e2 e3)))
    have hi0 : (0 : Int) ≤ (m : Int) := by omega
    have hi1 : (m : Int) < (l.length : Int) := by omega
    have hdk : decide ((l.length : Int) ≤ (m : Int)) = false := decide_eq_false (by omega)
    have hkw : kb < w2.heap.size := by omega
    have hrk : w.heap.size + 1 + 1 ≠ kb := by omega
    have hlk : w.heap.size ≠ kb := by omega
    have hmk : w.heap.size + 1 ≠ kb := by omega
    have hnk : w.heap.size ≤ kb := by omega
    clear i0 i1 i2 i3 i4 i5 i6 hX e0 e1 e2 e3 hcA hne hnx hNF NF hf htl hm hy hseq L4 M4 R4 K4 hl bb2 bb4 b4
    by_cases hxy : ((x0, x1, x2, x3) : Wr) = (y0, y1, y2, y3)
    · have HPX := Lib.hid (HNX.out.2 hxy)
      injection hxy with q0 hxy
      injection hxy with q1 hxy
      injection hxy with q2 q3
      subst q0 q1 q2 q3
      clear HNX
      gi_wp2_with fail
      refine wpIn_region_facts 22 (by kernel_rfl) (by kernel_rfl) (by kernel_rfl) ?letsoutS
        (fun v => { tmps := #[.slice (some ⟨b, off, none⟩) l.length c, .int .i64 most, .pointer (some ⟨w.heap.size, 0, none⟩), .pointer (some ⟨w.heap.size + 1, 0, none⟩), .pointer (some ⟨w.heap.size + 1 + 1, 0, none⟩), .pointer (some ⟨kb, 0, none⟩), .int .i64 x2, .pointer (some ⟨Bx, 0, none⟩), .bool true, .bool false, .slice (some ⟨b, off, none⟩) l.length c, .func (.func gf) #[] lb, .int .i64 x2, .agg #[.int .i64 x0, .int .i64 x1, .int .i64 x2, .bool x3], v 0, v 1, v 2, v 3, v 4, v 5, v 6, v 7, v 8, v 9, v 10, v 11, v 12, v 13, v 14, v 15, v 16, v 17, v 18, v 19, v 20, v 21, undef, undef, undef, undef, undef, undef, undef, undef, undef, undef, undef, undef, undef, undef, undef], defers := [] }) (fun _ => undef)
        (fun i x wx => match i with
          | 0 => x = .slice (some ⟨b, off, none⟩) l.length c
          | 1 => x = .bool true
          | 2 => x = .bool false
          | 3 => x = .bool false
          | 4 => x = .int .i64 (m : Int)
          | 5 => x = .slice (some ⟨b, off, none⟩) l.length c
          | 6 => x = .int .i64 (l.length : Int)
          | 7 => x = .bool false
          | 8 => x = .bool false
          | 9 => x = .bool false
          | 10 => x = .agg #[.int .i64 x0, .int .i64 x1, .int .i64 x2, .bool x3]
          | 11 => x = .slice (some ⟨b, off, none⟩) l.length c
          | 12 => x = .int .i64 (m : Int)
          | 13 => x = .pointer (some ⟨b, off + m * 4, none⟩)
          | 14 => x = .agg #[.int .i64 x0, .int .i64 x1, .int .i64 x2, .bool x3]
          | 15 => x = .bool false
          | 16 => x = .bool false
          | 17 => x = .bool false
          | 18 => x = .int .i64 x2
          | 19 => x = .pointer (some ⟨Bx, 2, none⟩)
          | 20 => x = .int .i64 x2
          | 21 => x = .bool false
          | _ => True)
        (fun w1 w2 => Below w1.heap.size w1 w2) (fun h1 h2 => below_on h1 h2) (fun _ => Below.refl _ _) (Below.drew (Below.refl _ _)) ?stabS ?stepS ?doneS
      case letsoutS => exact fun ⟨_, _, h⟩ => h
      case stabS =>
        rintro i x w1 w2 h hb
        match i, h with
        | 0, h => exact h
        | 1, h => exact h
        | 2, h => exact h
        | 3, h => exact h
        | 4, h => exact h
        | 5, h => exact h
        | 6, h => exact h
        | 7, h => exact h
        | 8, h => exact h
        | 9, h => exact h
        | 10, h => exact h
        | 11, h => exact h
        | 12, h => exact h
        | 13, h => exact h
        | 14, h => exact h
        | 15, h => exact h
        | 16, h => exact h
        | 17, h => exact h
        | 18, h => exact h
        | 19, h => exact h
        | 20, h => exact h
        | 21, h => exact h
        | i + 22, _ => trivial
      case stepS =>
        intro i hi v w' hb hd
        match i, hi with
        | 0, _ =>
          refine wpOp_oneK rfl (fun KK hKK => ?_)
          have HKK := Lib.hid hKK
          clear hKK hd
          have q0 := cell_later hb (HLB.out.cell (i := 0) rfl)
          go_wp2
          exact HKK.out _ _ ⟨_, (by simp [upd]; done), Below.refl _ _, rfl⟩
        | 1, _ =>
          have h0 : v 0 = _ := hd 0 (List.elem_iff.1 (by kernel_rfl))
          refine wpOp_oneK rfl (fun KK hKK => ?_)
          have HKK := Lib.hid hKK
          clear hKK hd
          rw [h0]
          go_wp2_with fail
          refine (HNF.out _ hb).mono ?_
          rintro e w'' ⟨rfl, b⟩
          go_wp2
          exact HKK.out _ _ ⟨_, (by simp [upd, h0]; done), b, rfl⟩
        | 2, _ =>
          have h1 : v 1 = _ := hd 1 (List.elem_iff.1 (by kernel_rfl))
          refine wpOp_oneK rfl (fun KK hKK => ?_)
          have HKK := Lib.hid hKK
          clear hKK hd
          rw [h1]
          go_wp2
          exact HKK.out _ _ ⟨_, (by simp [upd, h1]; done), Below.refl _ _, rfl⟩
        | 3, _ =>
          have h2 : v 2 = _ := hd 2 (List.elem_iff.1 (by kernel_rfl))
          refine wpOp_oneK rfl (fun KK hKK => ?_)
          have HKK := Lib.hid hKK
          clear hKK hd
          rw [h2]
          go_wp2
          exact HKK.out _ _ ⟨_, (by simp [upd, h2]; done), Below.refl _ _, rfl⟩
        | 4, _ =>
          have h3 : v 3 = _ := hd 3 (List.elem_iff.1 (by kernel_rfl))
          refine wpOp_oneK rfl (fun KK hKK => ?_)
          have HKK := Lib.hid hKK
          clear hKK hd
          rw [h3]
          have q0 := cell_later hb (HKB.out.cell (i := 0) rfl)
          go_wp2
          exact HKK.out _ _ ⟨_, (by simp [upd, h3]; done), Below.refl _ _, rfl⟩
        | 5, _ =>
          have h3 : v 3 = _ := hd 3 (List.elem_iff.1 (by kernel_rfl))
          refine wpOp_oneK rfl (fun KK hKK => ?_)
          have HKK := Lib.hid hKK
          clear hKK hd
          rw [h3]
          have q0 := cell_later hb (HLB.out.cell (i := 0) rfl)
          go_wp2
          exact HKK.out _ _ ⟨_, (by simp [upd, h3]; done), Below.refl _ _, rfl⟩
        | 6, _ =>
          have h3 : v 3 = _ := hd 3 (List.elem_iff.1 (by kernel_rfl))
          have h5 : v 5 = _ := hd 5 (List.elem_iff.1 (by kernel_rfl))
          refine wpOp_oneK rfl (fun KK hKK => ?_)
          have HKK := Lib.hid hKK
          clear hKK hd
          rw [h3, h5]
          go_wp2
          exact HKK.out _ _ ⟨_, (by simp [upd, h3, h5]; done), Below.refl _ _, rfl⟩
        | 7, _ =>
          have h3 : v 3 = _ := hd 3 (List.elem_iff.1 (by kernel_rfl))
          have h4 : v 4 = _ := hd 4 (List.elem_iff.1 (by kernel_rfl))
          have h6 : v 6 = _ := hd 6 (List.elem_iff.1 (by kernel_rfl))
          refine wpOp_oneK rfl (fun KK hKK => ?_)
          have HKK := Lib.hid hKK
          clear hKK hd
          rw [h3, h4, h6]
          go_wp2
          exact HKK.out _ _ ⟨.bool false, (by simp [upd, h3, h4, h6]; omega), Below.refl _ _, rfl⟩
        | 8, _ =>
          have h3 : v 3 = _ := hd 3 (List.elem_iff.1 (by kernel_rfl))
          have h7 : v 7 = _ := hd 7 (List.elem_iff.1 (by kernel_rfl))
          refine wpOp_oneK rfl (fun KK hKK => ?_)
          have HKK := Lib.hid hKK
          clear hKK hd
          rw [h3, h7]
          go_wp2
          exact HKK.out _ _ ⟨_, (by simp [upd, h3, h7]; done), Below.refl _ _, rfl⟩
        | 9, _ =>
          have h8 : v 8 = _ := hd 8 (List.elem_iff.1 (by kernel_rfl))
          refine wpOp_oneK rfl (fun KK hKK => ?_)
          have HKK := Lib.hid hKK
          clear hKK hd
          rw [h8]
          go_wp2
          exact HKK.out _ _ ⟨_, (by simp [upd, h8]; done), Below.refl _ _, rfl⟩
        | 10, _ =>
          have h9 : v 9 = _ := hd 9 (List.elem_iff.1 (by kernel_rfl))
          refine wpOp_oneK rfl (fun KK hKK => ?_)
          have HKK := Lib.hid hKK
          clear hKK hd
          rw [h9]
          have q0 := cell_later hb (HX.out.cell (i := 0) rfl)
          have q1 := cell_later hb (HX.out.cell (i := 1) rfl)
          have q2 := cell_later hb (HX.out.cell (i := 2) rfl)
          have q3 := cell_later hb (HX.out.cell (i := 3) rfl)
          go_wp2
          exact HKK.out _ _ ⟨_, (by simp [upd, h9]; done), Below.refl _ _, rfl⟩
        | 11, _ =>
          have h9 : v 9 = _ := hd 9 (List.elem_iff.1 (by kernel_rfl))
          refine wpOp_oneK rfl (fun KK hKK => ?_)
          have HKK := Lib.hid hKK
          clear hKK hd
          rw [h9]
          have q0 := cell_later hb (HLB.out.cell (i := 0) rfl)
          go_wp2
          exact HKK.out _ _ ⟨_, (by simp [upd, h9]; done), Below.refl _ _, rfl⟩
        | 12, _ =>
          have h9 : v 9 = _ := hd 9 (List.elem_iff.1 (by kernel_rfl))
          refine wpOp_oneK rfl (fun KK hKK => ?_)
          have HKK := Lib.hid hKK
          clear hKK hd
          rw [h9]
          have q0 := cell_later hb (HKB.out.cell (i := 0) rfl)
          go_wp2
          exact HKK.out _ _ ⟨_, (by simp [upd, h9]; done), Below.refl _ _, rfl⟩
        | 13, _ =>
          have h9 : v 9 = _ := hd 9 (List.elem_iff.1 (by kernel_rfl))
          have h11 : v 11 = _ := hd 11 (List.elem_iff.1 (by kernel_rfl))
          have h12 : v 12 = _ := hd 12 (List.elem_iff.1 (by kernel_rfl))
          refine wpOp_oneK rfl (fun KK hKK => ?_)
          have HKK := Lib.hid hKK
          clear hKK hd
          rw [h9, h11, h12]
          go_wp2
          exact HKK.out _ _ ⟨_, (by simp [upd, h9, h11, h12]; done), Below.refl _ _, rfl⟩
        | 14, _ =>
          have h9 : v 9 = _ := hd 9 (List.elem_iff.1 (by kernel_rfl))
          have h13 : v 13 = _ := hd 13 (List.elem_iff.1 (by kernel_rfl))
          refine wpOp_oneK rfl (fun KK hKK => ?_)
          have HKK := Lib.hid hKK
          clear hKK hd
          rw [h9, h13]
          have q0 := cell_later hb HE.out.1
          have q1 := cell_later hb HE.out.2.1
          have q2 := cell_later hb HE.out.2.2.1
          have q3 := cell_later hb HE.out.2.2.2
          go_wp2
          exact HKK.out _ _ ⟨_, (by simp [upd, h9, h13]; done), Below.refl _ _, rfl⟩
        | 15, _ =>
          have h9 : v 9 = _ := hd 9 (List.elem_iff.1 (by kernel_rfl))
          have h10 : v 10 = _ := hd 10 (List.elem_iff.1 (by kernel_rfl))
          have h14 : v 14 = _ := hd 14 (List.elem_iff.1 (by kernel_rfl))
          refine wpOp_oneK rfl (fun KK hKK => ?_)
          have HKK := Lib.hid hKK
          clear hKK hd
          rw [h9, h10, h14]
          go_wp2
          exact HKK.out _ _ ⟨_, (by simp [upd, h9, h10, h14]; done), Below.refl _ _, rfl⟩
        | 16, _ =>
          have h9 : v 9 = _ := hd 9 (List.elem_iff.1 (by kernel_rfl))
          have h15 : v 15 = _ := hd 15 (List.elem_iff.1 (by kernel_rfl))
          refine wpOp_oneK rfl (fun KK hKK => ?_)
          have HKK := Lib.hid hKK
          clear hKK hd
          rw [h9, h15]
          go_wp2
          exact HKK.out _ _ ⟨_, (by simp [upd, h9, h15]; done), Below.refl _ _, rfl⟩
        | 17, _ =>
          have h16 : v 16 = _ := hd 16 (List.elem_iff.1 (by kernel_rfl))
          refine wpOp_oneK rfl (fun KK hKK => ?_)
          have HKK := Lib.hid hKK
          clear hKK hd
          rw [h16]
          go_wp2
          exact HKK.out _ _ ⟨_, (by simp [upd, h16]; done), Below.refl _ _, rfl⟩
        | 18, _ =>
          have h17 : v 17 = _ := hd 17 (List.elem_iff.1 (by kernel_rfl))
          refine wpOp_oneK rfl (fun KK hKK => ?_)
          have HKK := Lib.hid hKK
          clear hKK hd
          rw [h17]
          go_wp2
          exact HKK.out _ _ ⟨_, (by simp [upd, h17]; done), Below.refl _ _, rfl⟩
        | 19, _ =>
          have h17 : v 17 = _ := hd 17 (List.elem_iff.1 (by kernel_rfl))
          refine wpOp_oneK rfl (fun KK hKK => ?_)
          have HKK := Lib.hid hKK
          clear hKK hd
          rw [h17]
          go_wp2
          exact HKK.out _ _ ⟨_, (by simp [upd, h17]; done), Below.refl _ _, rfl⟩
        | 20, _ =>
          have h17 : v 17 = _ := hd 17 (List.elem_iff.1 (by kernel_rfl))
          have h19 : v 19 = _ := hd 19 (List.elem_iff.1 (by kernel_rfl))
          refine wpOp_oneK rfl (fun KK hKK => ?_)
          have HKK := Lib.hid hKK
          clear hKK hd
          rw [h17, h19]
          have q0 := cell_later hb (HX.out.cell (i := 2) rfl)
          go_wp2
          exact HKK.out _ _ ⟨_, (by simp [upd, h17, h19]; done), Below.refl _ _, rfl⟩
        | 21, _ =>
          have h17 : v 17 = _ := hd 17 (List.elem_iff.1 (by kernel_rfl))
          have h18 : v 18 = _ := hd 18 (List.elem_iff.1 (by kernel_rfl))
          have h20 : v 20 = _ := hd 20 (List.elem_iff.1 (by kernel_rfl))
          refine wpOp_oneK rfl (fun KK hKK => ?_)
          have HKK := Lib.hid hKK
          clear hKK hd
          rw [h17, h18, h20]
          go_wp2
          exact HKK.out _ _ ⟨_, (by simp [upd, h17, h18, h20]; done), Below.refl _ _, rfl⟩
        | k + 22, hk => exact absurd hk (by omega)
      case doneS =>
        intro v w5 hb hf
        have h17 : v 17 = _ := hf 17 (by decide)
        have h21 : v 21 = _ := hf 21 (by decide)
        clear hf
        rw [h17, h21]
        have HBB := Lib.hid hb
        have k5 := (HKB.out.later hb).cell (i := 0) rfl
        have kf5 := (HKB.out.later hb).free 0
        clear hb
        have hw1 : IntKind.i64.wrap ((m : Int) + 1) = (m : Int) + 1 := IntWalk.i64_in _ (by omega)
        have k6 : (w5.setCell ⟨kb, 0, none⟩ (.int .i64 ((m : Int) + 1))).cell? ⟨kb, 0, none⟩ = some (.int .i64 ((m : Int) + 1)) := ((HKB.out.later HBB.out).put 0 (.int .i64 ((m : Int) + 1))).cell rfl
        have m6 : (w5.setCell ⟨kb, 0, none⟩ (.int .i64 ((m : Int) + 1))).cell? ⟨w.heap.size + 1, 0, none⟩ = some (.int .i64 most) := ((HMB.out.later HBB.out).far (p := ⟨kb, 0, none⟩) hmk _).cell (i := 0) rfl
        have r6 := ((HRB.out.later HBB.out).far (p := ⟨kb, 0, none⟩) hrk (.int .i64 ((m : Int) + 1)))
        have rc6 := r6.cell (i := 0) rfl
        have rf6 := r6.free 0
        by_cases hmost : (m : Int) + 1 = most
        · have hmb : ((m : Int) + 1 == most) = true := beq_iff_eq.2 hmost
          have FIN := Lib.hid (And.intro (KeepsFrom.trans (keepsF_below (n0 := w4.heap.size) HBB.out) (((KeepsOthers.setCell w5 ⟨kb, 0, none⟩ (.int .i64 ((m : Int) + 1))).trans (KeepsOthers.setCell _ ⟨w.heap.size + 1 + 1, 0, none⟩ (.bool true))).from _)) (And.intro (show (((w5.setCell ⟨kb, 0, none⟩ (.int .i64 ((m : Int) + 1))).setCell ⟨w.heap.size + 1 + 1, 0, none⟩ (.bool true)).cell? ⟨w.heap.size + 1 + 1, 0, none⟩ = some (.bool true)) from (r6.put 0 (.bool true)).cell rfl) (((below_on HB.out HBB.out).setCell (p := ⟨kb, 0, none⟩) hnk (.int .i64 ((m : Int) + 1))).setCell (p := ⟨w.heap.size + 1 + 1, 0, none⟩) (by show w.heap.size ≤ w.heap.size + 1 + 1; omega) (.bool true))))
          clear hmost r6
          go_wp2_with fail
          gi_wp2
          exact ⟨FIN.out.1, ⟨rfl, fun _ => FIN.out.2.1⟩, FIN.out.2.2⟩
        · have hmb : ((m : Int) + 1 == most) = false := beq_eq_false_iff_ne.2 hmost
          have FIN := Lib.hid (And.intro (KeepsFrom.trans (keepsF_below (n0 := w4.heap.size) HBB.out) ((KeepsOthers.setCell w5 ⟨kb, 0, none⟩ (.int .i64 ((m : Int) + 1))).from _)) (And.intro ((KeepC.below (n₀ := w.heap.size) (B := w2.heap.size) HBB.out).trans (KeepC.set w5 ⟨kb, 0, none⟩ (.int .i64 ((m : Int) + 1)) hnk hkw)) (And.intro (And.intro (And.intro (And.intro ((HLB.out.later HBB.out).far (p := ⟨kb, 0, none⟩) hlk (.int .i64 ((m : Int) + 1))) ((HMB.out.later HBB.out).far (p := ⟨kb, 0, none⟩) hmk (.int .i64 ((m : Int) + 1)))) r6) ((HKB.out.later HBB.out).put 0 (.int .i64 ((m : Int) + 1)))) (And.intro ((below_on HB.out HBB.out).setCell (p := ⟨kb, 0, none⟩) hnk (.int .i64 ((m : Int) + 1))) (Nat.le_trans HS.out (Nat.le_trans HBB.out.size (KeepsOthers.setCell w5 ⟨kb, 0, none⟩ (.int .i64 ((m : Int) + 1))).size))))))
          clear hmost r6
          go_wp2_with fail
          gi_wp2
          exact ⟨FIN.out.1, FIN.out.2.1, ⟨⟨⟨⟨by rw [HTL.out]; exact HPX.out, FIN.out.2.2.1.1.1.1⟩, FIN.out.2.2.1.1.1.2⟩, FIN.out.2.2.1.1.2⟩, by rw [List.length_append, HMP.out]; exact FIN.out.2.2.1.2⟩, FIN.out.2.2.2⟩
    · have HPX := Lib.hid (fun h => hxy (HNX.out.1 h))
      have HALL := Lib.hid (wr_ne hxy)
      clear HNX hxy
      gi_wp2_with fail
      refine wpIn_region_facts 22 (by kernel_rfl) (by kernel_rfl) (by kernel_rfl) ?letsoutD
        (fun v => { tmps := #[.slice (some ⟨b, off, none⟩) l.length c, .int .i64 most, .pointer (some ⟨w.heap.size, 0, none⟩), .pointer (some ⟨w.heap.size + 1, 0, none⟩), .pointer (some ⟨w.heap.size + 1 + 1, 0, none⟩), .pointer (some ⟨kb, 0, none⟩), .int .i64 x2, .pointer (some ⟨Bx, 0, none⟩), .bool true, .bool false, .slice (some ⟨b, off, none⟩) l.length c, .func (.func gf) #[] lb, .int .i64 x2, .agg #[.int .i64 x0, .int .i64 x1, .int .i64 x2, .bool x3], v 0, v 1, v 2, v 3, v 4, v 5, v 6, v 7, v 8, v 9, v 10, v 11, v 12, v 13, v 14, v 15, v 16, v 17, v 18, v 19, v 20, v 21, undef, undef, undef, undef, undef, undef, undef, undef, undef, undef, undef, undef, undef, undef, undef], defers := [] }) (fun _ => undef)
        (fun i x wx => match i with
          | 0 => x = .slice (some ⟨b, off, none⟩) l.length c
          | 1 => x = .bool true
          | 2 => x = .bool false
          | 3 => x = .bool false
          | 4 => x = .int .i64 (m : Int)
          | 5 => x = .slice (some ⟨b, off, none⟩) l.length c
          | 6 => x = .int .i64 (l.length : Int)
          | 7 => x = .bool false
          | 8 => x = .bool false
          | 9 => x = .bool false
          | 10 => x = .agg #[.int .i64 x0, .int .i64 x1, .int .i64 x2, .bool x3]
          | 11 => x = .slice (some ⟨b, off, none⟩) l.length c
          | 12 => x = .int .i64 (m : Int)
          | 13 => x = .pointer (some ⟨b, off + m * 4, none⟩)
          | 14 => x = .agg #[.int .i64 y0, .int .i64 y1, .int .i64 y2, .bool y3]
          | 15 => x = .bool true
          | 16 => x = .bool true
          | 17 => x = .bool true
          | 18 => x = undef
          | 19 => x = undef
          | 20 => x = undef
          | 21 => x = undef
          | _ => True)
        (fun w1 w2 => Below w1.heap.size w1 w2) (fun h1 h2 => below_on h1 h2) (fun _ => Below.refl _ _) (Below.drew (Below.refl _ _)) ?stabD ?stepD ?doneD
      case letsoutD => exact fun ⟨_, _, h⟩ => h
      case stabD =>
        rintro i x w1 w2 h hb
        match i, h with
        | 0, h => exact h
        | 1, h => exact h
        | 2, h => exact h
        | 3, h => exact h
        | 4, h => exact h
        | 5, h => exact h
        | 6, h => exact h
        | 7, h => exact h
        | 8, h => exact h
        | 9, h => exact h
        | 10, h => exact h
        | 11, h => exact h
        | 12, h => exact h
        | 13, h => exact h
        | 14, h => exact h
        | 15, h => exact h
        | 16, h => exact h
        | 17, h => exact h
        | 18, h => exact h
        | 19, h => exact h
        | 20, h => exact h
        | 21, h => exact h
        | i + 22, _ => trivial
      case stepD =>
        intro i hi v w' hb hd
        match i, hi with
        | 0, _ =>
          refine wpOp_oneK rfl (fun KK hKK => ?_)
          have HKK := Lib.hid hKK
          clear hKK hd
          have q0 := cell_later hb (HLB.out.cell (i := 0) rfl)
          go_wp2
          exact HKK.out _ _ ⟨_, (by simp [upd]; done), Below.refl _ _, rfl⟩
        | 1, _ =>
          have h0 : v 0 = _ := hd 0 (List.elem_iff.1 (by kernel_rfl))
          refine wpOp_oneK rfl (fun KK hKK => ?_)
          have HKK := Lib.hid hKK
          clear hKK hd
          rw [h0]
          go_wp2_with fail
          refine (HNF.out _ hb).mono ?_
          rintro e w'' ⟨rfl, b⟩
          go_wp2
          exact HKK.out _ _ ⟨_, (by simp [upd, h0]; done), b, rfl⟩
        | 2, _ =>
          have h1 : v 1 = _ := hd 1 (List.elem_iff.1 (by kernel_rfl))
          refine wpOp_oneK rfl (fun KK hKK => ?_)
          have HKK := Lib.hid hKK
          clear hKK hd
          rw [h1]
          go_wp2
          exact HKK.out _ _ ⟨_, (by simp [upd, h1]; done), Below.refl _ _, rfl⟩
        | 3, _ =>
          have h2 : v 2 = _ := hd 2 (List.elem_iff.1 (by kernel_rfl))
          refine wpOp_oneK rfl (fun KK hKK => ?_)
          have HKK := Lib.hid hKK
          clear hKK hd
          rw [h2]
          go_wp2
          exact HKK.out _ _ ⟨_, (by simp [upd, h2]; done), Below.refl _ _, rfl⟩
        | 4, _ =>
          have h3 : v 3 = _ := hd 3 (List.elem_iff.1 (by kernel_rfl))
          refine wpOp_oneK rfl (fun KK hKK => ?_)
          have HKK := Lib.hid hKK
          clear hKK hd
          rw [h3]
          have q0 := cell_later hb (HKB.out.cell (i := 0) rfl)
          go_wp2
          exact HKK.out _ _ ⟨_, (by simp [upd, h3]; done), Below.refl _ _, rfl⟩
        | 5, _ =>
          have h3 : v 3 = _ := hd 3 (List.elem_iff.1 (by kernel_rfl))
          refine wpOp_oneK rfl (fun KK hKK => ?_)
          have HKK := Lib.hid hKK
          clear hKK hd
          rw [h3]
          have q0 := cell_later hb (HLB.out.cell (i := 0) rfl)
          go_wp2
          exact HKK.out _ _ ⟨_, (by simp [upd, h3]; done), Below.refl _ _, rfl⟩
        | 6, _ =>
          have h3 : v 3 = _ := hd 3 (List.elem_iff.1 (by kernel_rfl))
          have h5 : v 5 = _ := hd 5 (List.elem_iff.1 (by kernel_rfl))
          refine wpOp_oneK rfl (fun KK hKK => ?_)
          have HKK := Lib.hid hKK
          clear hKK hd
          rw [h3, h5]
          go_wp2
          exact HKK.out _ _ ⟨_, (by simp [upd, h3, h5]; done), Below.refl _ _, rfl⟩
        | 7, _ =>
          have h3 : v 3 = _ := hd 3 (List.elem_iff.1 (by kernel_rfl))
          have h4 : v 4 = _ := hd 4 (List.elem_iff.1 (by kernel_rfl))
          have h6 : v 6 = _ := hd 6 (List.elem_iff.1 (by kernel_rfl))
          refine wpOp_oneK rfl (fun KK hKK => ?_)
          have HKK := Lib.hid hKK
          clear hKK hd
          rw [h3, h4, h6]
          go_wp2
          exact HKK.out _ _ ⟨.bool false, (by simp [upd, h3, h4, h6]; omega), Below.refl _ _, rfl⟩
        | 8, _ =>
          have h3 : v 3 = _ := hd 3 (List.elem_iff.1 (by kernel_rfl))
          have h7 : v 7 = _ := hd 7 (List.elem_iff.1 (by kernel_rfl))
          refine wpOp_oneK rfl (fun KK hKK => ?_)
          have HKK := Lib.hid hKK
          clear hKK hd
          rw [h3, h7]
          go_wp2
          exact HKK.out _ _ ⟨_, (by simp [upd, h3, h7]; done), Below.refl _ _, rfl⟩
        | 9, _ =>
          have h8 : v 8 = _ := hd 8 (List.elem_iff.1 (by kernel_rfl))
          refine wpOp_oneK rfl (fun KK hKK => ?_)
          have HKK := Lib.hid hKK
          clear hKK hd
          rw [h8]
          go_wp2
          exact HKK.out _ _ ⟨_, (by simp [upd, h8]; done), Below.refl _ _, rfl⟩
        | 10, _ =>
          have h9 : v 9 = _ := hd 9 (List.elem_iff.1 (by kernel_rfl))
          refine wpOp_oneK rfl (fun KK hKK => ?_)
          have HKK := Lib.hid hKK
          clear hKK hd
          rw [h9]
          have q0 := cell_later hb (HX.out.cell (i := 0) rfl)
          have q1 := cell_later hb (HX.out.cell (i := 1) rfl)
          have q2 := cell_later hb (HX.out.cell (i := 2) rfl)
          have q3 := cell_later hb (HX.out.cell (i := 3) rfl)
          go_wp2
          exact HKK.out _ _ ⟨_, (by simp [upd, h9]; done), Below.refl _ _, rfl⟩
        | 11, _ =>
          have h9 : v 9 = _ := hd 9 (List.elem_iff.1 (by kernel_rfl))
          refine wpOp_oneK rfl (fun KK hKK => ?_)
          have HKK := Lib.hid hKK
          clear hKK hd
          rw [h9]
          have q0 := cell_later hb (HLB.out.cell (i := 0) rfl)
          go_wp2
          exact HKK.out _ _ ⟨_, (by simp [upd, h9]; done), Below.refl _ _, rfl⟩
        | 12, _ =>
          have h9 : v 9 = _ := hd 9 (List.elem_iff.1 (by kernel_rfl))
          refine wpOp_oneK rfl (fun KK hKK => ?_)
          have HKK := Lib.hid hKK
          clear hKK hd
          rw [h9]
          have q0 := cell_later hb (HKB.out.cell (i := 0) rfl)
          go_wp2
          exact HKK.out _ _ ⟨_, (by simp [upd, h9]; done), Below.refl _ _, rfl⟩
        | 13, _ =>
          have h9 : v 9 = _ := hd 9 (List.elem_iff.1 (by kernel_rfl))
          have h11 : v 11 = _ := hd 11 (List.elem_iff.1 (by kernel_rfl))
          have h12 : v 12 = _ := hd 12 (List.elem_iff.1 (by kernel_rfl))
          refine wpOp_oneK rfl (fun KK hKK => ?_)
          have HKK := Lib.hid hKK
          clear hKK hd
          rw [h9, h11, h12]
          go_wp2
          exact HKK.out _ _ ⟨_, (by simp [upd, h9, h11, h12]; done), Below.refl _ _, rfl⟩
        | 14, _ =>
          have h9 : v 9 = _ := hd 9 (List.elem_iff.1 (by kernel_rfl))
          have h13 : v 13 = _ := hd 13 (List.elem_iff.1 (by kernel_rfl))
          refine wpOp_oneK rfl (fun KK hKK => ?_)
          have HKK := Lib.hid hKK
          clear hKK hd
          rw [h9, h13]
          have q0 := cell_later hb HE.out.1
          have q1 := cell_later hb HE.out.2.1
          have q2 := cell_later hb HE.out.2.2.1
          have q3 := cell_later hb HE.out.2.2.2
          go_wp2
          exact HKK.out _ _ ⟨_, (by simp [upd, h9, h13]; done), Below.refl _ _, rfl⟩
        | 15, _ =>
          have h9 : v 9 = _ := hd 9 (List.elem_iff.1 (by kernel_rfl))
          have h10 : v 10 = _ := hd 10 (List.elem_iff.1 (by kernel_rfl))
          have h14 : v 14 = _ := hd 14 (List.elem_iff.1 (by kernel_rfl))
          refine wpOp_oneK rfl (fun KK hKK => ?_)
          have HKK := Lib.hid hKK
          clear hKK hd
          rw [h9, h10, h14]
          rcases HALL.out with hz | ⟨rfl, hz⟩ | ⟨rfl, rfl, hz⟩ | ⟨rfl, rfl, rfl, hz⟩
          all_goals
            go_wp2
            exact HKK.out _ _ ⟨_, (by simp [upd, h9, h10, h14]; done), Below.refl _ _, rfl⟩
        | 16, _ =>
          have h9 : v 9 = _ := hd 9 (List.elem_iff.1 (by kernel_rfl))
          have h15 : v 15 = _ := hd 15 (List.elem_iff.1 (by kernel_rfl))
          refine wpOp_oneK rfl (fun KK hKK => ?_)
          have HKK := Lib.hid hKK
          clear hKK hd
          rw [h9, h15]
          go_wp2
          exact HKK.out _ _ ⟨_, (by simp [upd, h9, h15]; done), Below.refl _ _, rfl⟩
        | 17, _ =>
          have h16 : v 16 = _ := hd 16 (List.elem_iff.1 (by kernel_rfl))
          refine wpOp_oneK rfl (fun KK hKK => ?_)
          have HKK := Lib.hid hKK
          clear hKK hd
          rw [h16]
          go_wp2
          exact HKK.out _ _ ⟨_, (by simp [upd, h16]; done), Below.refl _ _, rfl⟩
        | 18, _ =>
          have h17 : v 17 = _ := hd 17 (List.elem_iff.1 (by kernel_rfl))
          clear hd
          rw [h17]
          exact wpOp_skip rfl (by rfl) ⟨_, (by simp [upd, Act.put, h17]; done), Below.refl _ _, rfl⟩
        | 19, _ =>
          have h17 : v 17 = _ := hd 17 (List.elem_iff.1 (by kernel_rfl))
          clear hd
          rw [h17]
          exact wpOp_skip rfl (by rfl) ⟨_, (by simp [upd, Act.put, h17]; done), Below.refl _ _, rfl⟩
        | 20, _ =>
          have h17 : v 17 = _ := hd 17 (List.elem_iff.1 (by kernel_rfl))
          clear hd
          rw [h17]
          exact wpOp_skip rfl (by rfl) ⟨_, (by simp [upd, Act.put, h17]; done), Below.refl _ _, rfl⟩
        | 21, _ =>
          have h17 : v 17 = _ := hd 17 (List.elem_iff.1 (by kernel_rfl))
          clear hd
          rw [h17]
          exact wpOp_skip rfl (by rfl) ⟨_, (by simp [upd, Act.put, h17]; done), Below.refl _ _, rfl⟩
        | k + 22, hk => exact absurd hk (by omega)
      case doneD =>
        intro v w5 hb hf
        have h17 : v 17 = _ := hf 17 (by decide)
        have h21 : v 21 = _ := hf 21 (by decide)
        clear hf
        rw [h17, h21]
        have HBB := Lib.hid hb
        have r5 := HRB.out.later hb
        have rc5 := r5.cell (i := 0) rfl
        have rf5 := r5.free 0
        clear hb
        have FIN := Lib.hid (And.intro (KeepsFrom.trans (keepsF_below (n0 := w4.heap.size) HBB.out) ((KeepsOthers.setCell w5 ⟨w.heap.size + 1 + 1, 0, none⟩ (.bool false)).from _)) ((below_on HB.out HBB.out).setCell (p := ⟨w.heap.size + 1 + 1, 0, none⟩) (by show w.heap.size ≤ w.heap.size + 1 + 1; omega) (.bool false)))
        clear r5 HALL
        go_wp2_with fail
        gi_wp2
        exact ⟨FIN.out.1, ⟨rfl, fun h => by rw [HTL.out] at h; exact (HPX.out h).elim⟩, FIN.out.2⟩
  case done =>
    rintro DD ys W hDD hys ⟨⟨⟨⟨⟨-, i1⟩, i2⟩, i3⟩, i4⟩, i5, -⟩ hK
    rw [hys] at i4
    have l0 := i1.cell (i := 0) rfl
    have k0 := i4.cell (i := 0) rfl
    have r0 := i3.cell (i := 0) rfl
    have rf := i3.free 0
    have NN := NF.out W i5
    have RB := Lib.hid i3
    have I5 := Lib.hid i5
    unfold Sf.tell at k0
    have HK' := Lib.hid hK
    have hzW := i5.size
    have hDl := (Array.getElem?_eq_some_iff.1 hK).1
    cases hf : Sf.fmd l with
    | true =>
      rw [if_pos hf] at k0
      have HC := Lib.hid ((RB.out.put 0 (.bool true)).cell (i := 0) rfl)
      have hKK := Lib.hid ((KeepsOthers.setCell W ⟨w.heap.size + 1 + 1, 0, none⟩ (.bool true)).same DD _ hK rfl)
      have hB2 := Lib.hid (I5.out.setCell (p := ⟨w.heap.size + 1 + 1, 0, none⟩) (by show w.heap.size ≤ w.heap.size + 1 + 1; omega) (.bool true))
      clear hseq L4 M4 R4 K4 i1 i2 i3 i4 i5 NN NF hf hK
      gi_wp2_with fail
      refine ⟨trivial, ?_⟩
      gi_wp2
      refine ⟨by simp, .inl ⟨_, _, rfl, run_takeDeferred hKK.out, ?_⟩⟩
      have hc5 := cell_kept HC.out (grownBy_putObj' _ DD (.deferred none)) (fun r e => by cases e; exact ⟨_, hKK.out, rfl⟩)
      refine ⟨.bool true, ?_, rfl, hB2.out.trans (belowK_b (w := w) (Nat.le_refl _) _ DD _ _ (by omega) hKK.out rfl rfl)⟩
      simp [results, Try.f6, go_sem, hc5]
    | false =>
      rw [if_neg (by rw [hf]; exact Bool.false_ne_true)] at k0
      have k0 : W.cell? ⟨kb, 0, none⟩ = some (.int .i64 0) := k0
      have hne : l ≠ [] := fun e => by rw [e, Sf.fmd_nil] at hf; cases hf
      have hpos : ((0 : Int) == (l.length : Int)) = false := beq_eq_false_iff_ne.2 (fun e => hne (List.eq_nil_of_length_eq_zero (by omega)))
      rw [hf] at NN
      have HNN := Lib.hid NN
      clear hseq L4 M4 R4 K4 i1 i2 i3 i4 i5 NN NF hf hne hK
      gi_wp2_with fail
      refine ⟨trivial, (callsIn_wide.2 HNN.out).mono ?_⟩
      rintro e w5 ⟨rfl, b5⟩
      have R5 := RB.out.later b5
      have r5 := R5.cell (i := 0) rfl
      have rf5 := R5.free 0
      have hK5 : w5.heap[DD]? = some (.deferred (some [])) := (b5.block DD hDl).trans HK'.out
      have HC := Lib.hid ((R5.put 0 (.bool true)).cell (i := 0) rfl)
      have hKK := Lib.hid ((KeepsOthers.setCell w5 ⟨w.heap.size + 1 + 1, 0, none⟩ (.bool true)).same DD _ hK5 rfl)
      have hB2 := Lib.hid ((below_on I5.out b5).setCell (p := ⟨w.heap.size + 1 + 1, 0, none⟩) (by show w.heap.size ≤ w.heap.size + 1 + 1; omega) (.bool true))
      clear R5 hK5 b5 l0 k0
      gi_wp2
      refine ⟨by simp, .inl ⟨_, _, rfl, run_takeDeferred hKK.out, ?_⟩⟩
      have hc5 := cell_kept HC.out (grownBy_putObj' _ DD (.deferred none)) (fun r e => by cases e; exact ⟨_, hKK.out, rfl⟩)
      refine ⟨.bool true, ?_, rfl, hB2.out.trans (belowK_b (w := w) (Nat.le_refl _) _ DD _ _ (by omega) hKK.out rfl rfl)⟩
      simp [results, Try.f6, go_sem, hc5]
  case stop =>
    rintro DD c' pre W hDD hpre ⟨⟨rfl, hin⟩, hB⟩ hK
    have hr := hin hpre
    have hz := hB.size
    clear hseq L4 M4 R4 K4 hin NF
    gi_wp2
    refine ⟨by simp, .inl ⟨_, _, rfl, run_takeDeferred hK, ?_⟩⟩
    have hc5 := cell_kept hr (grownBy_putObj' _ DD (.deferred none)) (fun r e => by cases e; exact ⟨_, hK, rfl⟩)
    refine ⟨.bool true, ?_, rfl, hB.trans (belowK_b (w := w) (Nat.le_refl _) W DD _ _ (by omega) hK rfl rfl)⟩
    simp [results, Try.f6, go_sem, hc5]
end Go.Proofs.Ytbpgofgdlikedaa
namespace Go.Proofs.Ytbpgofgdlikedaa.shelfWalks
open Go.ChangeShapes Go.WideShapes Go.ChangeAt Go.RowKit

theorem cellsWrite : Try.prog.cellsOf 27 = 4 := by kernel_rfl
theorem bytesWrite : Try.prog.bytesOf 27 = 32 := by kernel_rfl
theorem writeE {H : Type} {enc : TypeId × Value → H} {w : World} (fuel : Nat) (cs : List Value) (x : DataW H × List MemPlace) (h : DataW.trod enc Try.prog w 0 (fun _ => true) true fuel 27 cs = some x) : ∃ a, cs = Nt.wrCell a :=
  write_cells Try.underlying27 (by kernel_rfl) (by kernel_rfl) rfl (by kernel_rfl) rfl (by kernel_rfl) rfl Try.underlying25 (by kernel_rfl) rfl rfl Try.underlying3 Try.underlying3 Try.underlying4 h
theorem own : ownKnob Try.prog.godebug = none := by kernel_rfl
theorem laidOut : laidOutB Try.prog = true := by kernel_rfl
theorem reads : ∀ t ∈ Try.f6.params.toList, Try.prog.readableRec t = true ∧ t < Try.prog.types.size := by
  intro t ht
  rw [Try.params6] at ht
  have : t = 22 ∨ t = 3 := by simpa using ht
  rcases this with rfl | rfl <;> exact ⟨by kernel_rfl, of_decide_eq_true (by kernel_rfl)⟩

set_option maxRecDepth 100000 in
theorem lifted (os : Os) (started : os.Started) (H : Type) (enc : TypeId × Value → H) :
    ReturnsInHanded {} Try.checked os 6 .any (Rows.shelfWalksSpec.pre6 enc Try.prog Try.f6 Rows.shelfWalksRow.domain false) (Rows.shelfWalksSpec.post enc Try.prog Try.f6 false true false false) := by
  refine returnsInHanded_of_change (C := Try.checked) own started (by kernel_rfl) Try.func6
    (ChangeSpec.witness6 (enc := enc) (C := Try.checked) false ⟨#[], #[.slice none 0 0, .int .i64 0], []⟩ 8 (by kernel_rfl) (by kernel_rfl) (by kernel_rfl) (by kernel_rfl)) ?_
  intro W base args ds gs before hval0 hW _ _
  have hval : ∀ (j : Nat) t v, Try.f6.params[j]? = some t → args[j]? = some v → Value.okWide Try.prog W .any base t v := hval0
  have hW' := hW
  obtain ⟨p, q, hA0, hV, rfl, hfz, hnd⟩ := hW
  have hA : DataW.TrodAll enc Try.prog W 0 (fun _ => true) true Try.f6.params.toList args.toList ds p := hA0
  rw [Try.params6] at hA hval
  obtain ⟨v0, vs0, d0, ds0, p0, q0, hargs, rfl, rfl, h0, r0⟩ := trodAll_cons hA
  obtain ⟨v1, vs1, d1, ds1, p1, q1, rfl, rfl, rfl, h1, r1⟩ := trodAll_cons r0
  obtain ⟨rfl, rfl, rfl⟩ := trodAll_nil r1
  obtain rfl : args = #[v0, v1] := by cases args; simp_all
  obtain ⟨rfl, rfl⟩ := trodVars_none hV
  obtain ⟨A0, cap0, l0, rfl, hc0, hm0, hn0, hl0, _, hd0⟩ := open_list Nt.zeroW Nt.wrCell (fun _ => True) (size := 4) (fun _ => rfl) Try.underlying22 cellsWrite (by decide) (fun fuel cs x hx => (writeE fuel cs x hx).elim fun a ha => ⟨a, ha, trivial⟩) (hval 0 22 v0 rfl rfl) h0
  have o0 : OneW W A0 cap0 l0 := ⟨hc0, hm0, hn0, hl0⟩
  obtain ⟨a1, rfl, rfl, rfl, w1⟩ := open_int Try.underlying3 (hval 1 3 v1 rfl rfl) h1
  clear hA0 hval0
  refine (lawSfWalks_any shelfSpec shelfAllSpec A0 cap0 l0 a1 W o0).mono fun e W' ⟨he, hg⟩ => ?_
  subst he
  exact ⟨_, rfl, law_post laidOut hW' rfl rfl (by kernel_rfl) Try.underlying4 reads hg⟩

theorem over : Rows.shelfWalksRow.holds Try.pinned (OpenSpec.ofChange Rows.shelfWalksSpec) :=
  OpenClaim.holds_of_wide 6 Try.f6 rfl rfl rfl rfl rfl rfl rfl ⟨rfl, rfl, rfl, rfl, rfl⟩ rfl rfl rfl rfl rfl (by kernel_rfl) Try.func6 (by kernel_rfl)
    (of_decide_eq_true (by kernel_rfl)) (by unfold Func.isWrapper; first | (rw [if_pos (by decide +kernel)]; kernel_rfl) | (rw [if_neg (by decide +kernel)]; exact ⟨rfl, rfl⟩))
    (fun os started H enc _ => lifted os started H enc)

/-- The statement. -/
theorem proved : Rows.ShelfWalksSaid :=
  over

end Go.Proofs.Ytbpgofgdlikedaa.shelfWalks
