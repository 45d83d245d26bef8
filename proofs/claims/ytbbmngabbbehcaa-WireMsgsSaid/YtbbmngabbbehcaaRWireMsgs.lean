/-
  What telltaleref06's Encode answers: a message's bytes, or the error where it isn't formed.
  The law WireMsgs, walked.
  For every message, the law WireMsgs returns true and leaves its arguments as they were. No condition.
-/
import Derived.Test.YtbbmngabbbehcaaG28
import Derived.Test.YtbbmngabbbehcaaG15
import Derived.Test.YtbbmngabbbehcaaG19
import Derived.Test.YtbbmngabbbehcaaG26
import Derived.Test.YtbbmngabbbehcaaG30
import Derived.Test.YtbbmngabbbehcaaG27
import Derived.Lib.QuietBelow
import Derived.Test.YtbbmngabbbehcaaRows
import Derived.Test.YtbbmngabbbehcaaG31
import Derived.OpenShut
import Derived.WalkKit
import Derived.ProofKit
import Derived.SizedLaws
namespace Go.Proofs.Ytbbmngabbbehcaa
open Go.RowKit

theorem Wi.by_small {x : Int} (h0 : 0 ≤ x) (h : x < 128) : Wi.by_ x = [x] := by
  unfold Wi.by_ Pk.bytesOf
  rw [Pk.nb, if_pos (by omega)]
  congr 1
  omega
theorem Wi.enote_take (ns : List Note) (k : Nat) (hl : ns.length ≤ 257) (h : ∀ n ∈ ns, Wi.backN n) : ((ns.take k).flatMap Wi.enote).length ≤ 4210688 := by
  have h1 := Wi.flat_max (ns.take k) (fun n hn => h n (List.mem_of_mem_take hn))
  have h2 : (ns.take k).length ≤ 257 := by rw [List.length_take]; omega
  omega
theorem three_own (w : World) (base : Nat) (hb : base ≤ w.heap.size) (x y z : Int) : (w.alloc (.cells #[.int .u8 x, .int .u8 y, .int .u8 z] 5)).ownsRow base 5 1 (.slice (some ⟨w.heap.size, 0, none⟩) 3 3) ([x, y, z] : List Int).length (bCells [x, y, z]) :=
  ⟨rfl, .inr ⟨w.heap.size, 3, _, rfl, hb, heap_alloc_new w _, Nat.le_refl _, by unfold maxLen; omega, rfl, rfl⟩⟩

set_option maxRecDepth 100000 in
set_option maxHeartbeats 12800000 in
theorem rencode_1 (I V N D : Option Addr) (ci cv cn d : Nat) (f t : Int) (s : Int) (it vc : List (Int × Int)) (w : World) (h : MsAt w I V N D ci cv cn d (⟨1, f, t, s, 0, it, vc, [], zeroBd⟩ : Ms)) (hf0 : 0 ≤ f) (hf : f ≤ 63) (ht0 : 0 ≤ t) (ht : t ≤ 63) (hs : Wi.fit s) (hi : ∀ x ∈ it, Wi.fit x.1 ∧ Wi.fit x.2) (hv : ∀ x ∈ vc, Wi.fit x.1 ∧ Wi.fit x.2) (hil : it.length ≤ 128) (hvl : vc.length ≤ 64) (hfm : Wi.mfmd (⟨1, f, t, s, 0, it, vc, [], zeroBd⟩ : Ms) = true) :
    Calls Try.prog 38 #[.agg #[.int .i64 1, .int .i64 f, .int .i64 t, .int .i64 s, .int .i64 0, .slice I it.length ci, .slice V vc.length cv, .slice N 0 cn, .int .i64 0, .int .i64 0, .int .i64 0, .slice D 0 d]] w (GivesB2 ([1, f, t] ++ (Wi.by_ s ++ Wi.elist Wi.etwo it ++ Wi.elist Wi.est vc)) 0 w) := by
  obtain ⟨i0, hi0, hz0, hz1, hz2⟩ := info_parts infoBy
  obtain ⟨W, hW⟩ : ∃ W, w.alloc (.cells #[.int .i64 1, .int .i64 f, .int .i64 t, .int .i64 s, .int .i64 0, .slice I it.length ci, .slice V vc.length cv, .slice N 0 cn, .int .i64 0, .int .i64 0, .int .i64 0, .slice D 0 d] 74) = W := ⟨_, rfl⟩
  have hb0 : Below w.heap.size w W := by rw [← hW]; exact below_new (Below.refl _ _) _
  have hB0 : Blk W w.heap.size 74 #[.int .i64 1, .int .i64 f, .int .i64 t, .int .i64 s, .int .i64 0, .slice I it.length ci, .slice V vc.length cv, .slice N 0 cn, .int .i64 0, .int .i64 0, .int .i64 0, .slice D 0 d] := by rw [← hW]; exact Blk.new w _ _
  have hWs : W.heap.size = w.heap.size + 1 := by rw [← hW]; simp
  have N1 := mformed_any I V N D ci cv cn d (⟨1, f, t, s, 0, it, vc, [], zeroBd⟩ : Ms) W (h.later hb0)
  rw [hfm] at N1
  unfold msCells at N1
  try unfold zeroBd at N1
  dsimp only at N1
  have N1 := Lib.hid N1
  have HW := Lib.hid hW; have HB0 := Lib.hid hb0; have KB := Lib.hid hB0; have H := Lib.hid h
  have q1 := Wi.by_len s
  have q2 : (Wi.elist Wi.etwo it).length ≤ 2570 := by have := Wi.elist_len Wi.etwo 20 Wi.etwo_len it; omega
  have q3 : (Wi.elist Wi.est vc).length ≤ 1290 := by have := Wi.elist_len Wi.est 20 Wi.est_len vc; omega
  have NV2 := Lib.hid (fun wx (hx : OneL wx I ci it) => eset_any I ci it wx (by omega) hi hx)
  have NV3 := Lib.hid (fun wx (hx : OneL wx V cv vc) => evec_any V cv vc wx (by omega) hv hx)
  have GS := Lib.hid hs
  clear hi hv hs
  obtain ⟨r1, hr1⟩ : ∃ r, Wi.by_ s = r := ⟨_, rfl⟩
  obtain ⟨r2, hr2⟩ : ∃ r, Wi.elist Wi.etwo it = r := ⟨_, rfl⟩
  obtain ⟨r3, hr3⟩ : ∃ r, Wi.elist Wi.est vc = r := ⟨_, rfl⟩
  have NV1 := fun wx => by_any s wx GS.out
  rw [hr1] at q1 ⊢; rw [hr2] at q2 NV2 ⊢; rw [hr3] at q3 NV3 ⊢
  simp only [hr1] at NV1
  have NV1 := Lib.hid NV1
  clear hr1 hr2 hr3 GS
  have c0 := hB0.cell (i := 0) rfl; have c1 := hB0.cell (i := 1) rfl; have c2 := hB0.cell (i := 2) rfl; have c3 := hB0.cell (i := 3) rfl; have c4 := hB0.cell (i := 4) rfl; have c5 := hB0.cell (i := 5) rfl; have c6 := hB0.cell (i := 6) rfl; have c7 := hB0.cell (i := 7) rfl; have c8 := hB0.cell (i := 8) rfl; have c9 := hB0.cell (i := 9) rfl; have c10 := hB0.cell (i := 10) rfl; have c11 := hB0.cell (i := 11) rfl
  clear hW hb0 hB0 h hfm
  go_enter Try.func38, Try.ntmps38
  go_wp2_with fail
  rw [HW.out]
  refine N1.out.mono ?_
  rintro e w1 ⟨rfl, b1⟩
  have k1 := KB.out.later b1
  have d0 := k1.cell (i := 0) rfl; have d1 := k1.cell (i := 1) rfl; have d2 := k1.cell (i := 2) rfl
  clear k1 c0 c1 c2 c3 c4 c5 c6 c7 c8 c9 c10 c11
  have b12 := below_new (Below.refl w1.heap.size w1) (.cells #[.int .u8 1, .int .u8 f, .int .u8 t] 5)
  have own2 := three_own w1 w1.heap.size (Nat.le_refl _) 1 f t
  obtain ⟨g2, hg2⟩ : ∃ g2, w1.heap.size = g2 := ⟨_, rfl⟩
  have hg2w : w.heap.size < g2 := by have := b1.size; omega
  obtain ⟨W2, hW2⟩ : ∃ W2, w1.alloc (.cells #[.int .u8 1, .int .u8 f, .int .u8 t] 5) = W2 := ⟨_, rfl⟩
  have kb2 := KB.out.later (below_on b1 b12)
  have bb2 := below_on HB0.out (below_on b1 b12)
  have hbs2 : W2.heap.size = g2 + 1 := by rw [← hW2, ← hg2]; simp
  rw [hW2, hg2] at own2
  rw [hW2] at kb2 bb2
  have HW2 := Lib.hid hW2; have HG2 := Lib.hid hg2; have OWN2 := Lib.hid own2; have BB2 := Lib.hid bb2; have KB2 := Lib.hid kb2
  have LW := Lib.hid (fun (w' : World) (hb : Below g2 W2 w') => bb2.trans (hb.mono (show w.heap.size ≤ g2 by omega)))
  have HNE := Lib.hid (show (Value.slice (some ⟨g2, 0, none⟩) 3 3).ownBlock ≠ some w.heap.size from fun e => absurd (Option.some.inj e) (by show ¬ g2 = w.heap.size; omega))
  clear hW2 hg2 own2 bb2 b12 b1
  go_upto_region 4 with (fail)
  rw [HW2.out, HG2.out]
  clear d0 d1 d2
  have c0 := kb2.cell (i := 0) rfl; have c3 := kb2.cell (i := 3) rfl; have c4 := kb2.cell (i := 4) rfl; have c5 := kb2.cell (i := 5) rfl; have c6 := kb2.cell (i := 6) rfl; have c7 := kb2.cell (i := 7) rfl; have c8 := kb2.cell (i := 8) rfl; have c9 := kb2.cell (i := 9) rfl; have c10 := kb2.cell (i := 10) rfl; have c11 := kb2.cell (i := 11) rfl
  clear kb2

  go_wp2_with fail

  refine wp_region_rows 13 (by kernel_rfl) (by kernel_rfl)
    (fun v => { tmps := #[.agg #[.int .i64 1, .int .i64 f, .int .i64 t, .int .i64 s, .int .i64 0, .slice I it.length ci, .slice V vc.length cv, .slice N 0 cn, .int .i64 0, .int .i64 0, .int .i64 0, .slice D 0 d], .pointer (some ⟨w.heap.size, 0, none⟩), .slice none 0 0, .int .i64 0, .slice (some ⟨g2, 0, none⟩) 3 3, undef, .agg #[.int .i64 1, .int .i64 f, .int .i64 t, .int .i64 s, .int .i64 0, .slice I it.length ci, .slice V vc.length cv, .slice N 0 cn, .int .i64 0, .int .i64 0, .int .i64 0, .slice D 0 d], .bool true, .bool false, .pointer (some ⟨w.heap.size, 0, none⟩), .int .i64 1, .int .u8 1, .pointer (some ⟨w.heap.size, 1, none⟩), .int .i64 f, .int .u8 f, .pointer (some ⟨w.heap.size, 2, none⟩), .int .i64 t, .int .u8 t, .slice (some ⟨g2, 0, none⟩) 3 3, .pointer (some ⟨w.heap.size, 0, none⟩), .int .i64 1, .bool true, .bool true, v 0, v 1, v 2, v 3, v 4, v 5, v 6, v 7, v 8, v 9, v 10, v 11, v 12, undef, undef, undef, undef, undef, undef, undef, undef, undef, undef, undef, undef, undef, undef, undef, undef, undef, undef, undef, undef, undef, undef, undef, undef, undef, undef, undef, undef, undef, undef, undef, undef, undef, undef, undef, undef, undef, undef, undef, undef, undef, undef, undef, undef, undef, undef, undef], defers := [] }) (fun i => match i with | 14 => .slice (some ⟨g2, 0, none⟩) 3 3 | _ => undef) g2 5
    (fun i x => match i with | 0 => x = .slice (some ⟨g2, 0, none⟩) 3 3 | 1 => x = .pointer (some ⟨w.heap.size, 3, none⟩) | 2 => x = .int .i64 s | 5 => x = .pointer (some ⟨w.heap.size, 5, none⟩) | 6 => x = .slice I it.length ci | 9 => x = .pointer (some ⟨w.heap.size, 6, none⟩) | 10 => x = .slice V vc.length cv | 14 => x = .slice (some ⟨g2, 0, none⟩) 3 3 | _ => True)
    (fun i => match i with | 3 => some (r1) | 4 => some ([1, f, t] ++ r1) | 7 => some (r2) | 8 => some (([1, f, t] ++ r1) ++ r2) | 11 => some (r3) | 12 => some ((([1, f, t] ++ r1) ++ r2) ++ r3) | 14 => some ([1, f, t]) | _ => none)
    (fun i => match i with | 3 => 4 | 4 => 8 | 7 => 8 | 8 => 12 | 11 => 12 | 12 => 13 | 14 => 4 | _ => 0) ((Value.slice (some ⟨g2, 0, none⟩) 3 3).ownBlock) ?start ?step ?done
  case start =>
    refine RowsInv.start (m := 14) ?_ (fun i hi => ?_) (fun i hi hr => ?_) (fun r hr => ?_) (fun _ k hk => ?_)
    · first | exact Nat.le_refl _ | omega
    · match i, hi with
      | 14, _ => rfl
      | j + 15, _ => trivial
    · match i, hi, hr with
      | 14, _, _ => rfl
      | j + 15, _, hr => exact absurd rfl hr
    · cases hr
      exact OWN2.out
    · exact hk
  case step =>
    intro i hi L v w' hI hun hd htl hex
    match i, hi with
    | 0, _ =>
      refine wpOp_one rfl ?_
      clear hd htl hex
      go_wp2
      first | exact ⟨_, (by simp [upd]; done), RowStep.still rfl rfl⟩ | exact ⟨(by simp [upd]; done), RowStep.still rfl rfl⟩
    | 1, _ =>
      refine wpOp_one rfl ?_
      clear hd htl hex
      go_wp2
      first | exact ⟨_, (by simp [upd]; done), RowStep.still rfl rfl⟩ | exact ⟨(by simp [upd]; done), RowStep.still rfl rfl⟩
    | 2, _ =>
      have l1 : L 1 = true := hd 1 (List.elem_iff.1 (by kernel_rfl))
      have h1 : v 1 = _ := hI.c 1 l1
      have q0 := hI.cell c3 HNE.out
      refine wpOp_one rfl ?_
      clear hd htl hex
      rw [h1]
      go_wp2
      first | exact ⟨_, (by simp [upd, h1]; done), RowStep.still rfl rfl⟩ | exact ⟨(by simp [upd, h1]; done), RowStep.still rfl rfl⟩
    | 3, _ =>
      have l2 : L 2 = true := hd 2 (List.elem_iff.1 (by kernel_rfl))
      have h2 : v 2 = _ := hI.c 2 l2
      refine wpOp_one rfl ?_
      clear hd htl hex
      rw [h2]
      go_wp2_with fail
      refine (NV1.out w').mono ?_
      rintro e w'' ⟨x, rfl, ho, bb⟩
      have ST := Lib.hid (fun (Lx : Nat → Bool) (vx : Nat → Value) => RowStep.made (C := fun i x => match i with | 0 => x = .slice (some ⟨g2, 0, none⟩) 3 3 | 1 => x = .pointer (some ⟨w.heap.size, 3, none⟩) | 2 => x = .int .i64 s | 5 => x = .pointer (some ⟨w.heap.size, 5, none⟩) | 6 => x = .slice I it.length ci | 9 => x = .pointer (some ⟨w.heap.size, 6, none⟩) | 10 => x = .slice V vc.length cv | 14 => x = .slice (some ⟨g2, 0, none⟩) 3 3 | _ => True) (row := fun i => match i with | 3 => some (r1) | 4 => some ([1, f, t] ++ r1) | 7 => some (r2) | 8 => some (([1, f, t] ++ r1) ++ r2) | 11 => some (r3) | 12 => some ((([1, f, t] ++ r1) ++ r2) ++ r3) | 14 => some ([1, f, t]) | _ => none) (cons := fun i => match i with | 3 => 4 | 4 => 8 | 7 => 8 | 8 => 12 | 11 => 12 | 12 => 13 | 14 => 4 | _ => 0) (i := 3) (L := Lx) (v := vx) trivial rfl bb hI.hbase ho)
      clear ho bb
      go_wp2
      exact ⟨_, (by simp [upd, h2]; done), ST.out _ _⟩
    | 4, _ =>
      have l0 : L 0 = true := hd 0 (List.elem_iff.1 (by kernel_rfl))
      have h0 : v 0 = _ := hI.c 0 l0
      have l3 : L 3 = true := hd 3 (List.elem_iff.1 (by kernel_rfl))
      have ld : L 14 = true := hex 14 (by simp)
      have hm : v 14 = _ := hI.c 14 ld
      have od := hI.own 14 _ ld hun rfl
      rw [hm] at od
      have os := hI.own 3 _ l3 hun rfl
      obtain ⟨Ax, cx, hs, hsl, hsc, hsn, hsi⟩ := own_form os
      refine wpOp_one rfl ?_
      have hbs := hI.hbase
      clear hd htl hex os
      rw [h0, hs]
      refine wpList_append_lies _ rfl _ _ 23 rfl g2 5 i0 (.int .u8 0) 1 1 Try.underlying23 hi0 hz0 hz1 hz2 rfl (by decide) _ ([1, f, t]).length (bCells ([1, f, t])) rfl od Ax (r1).length cx hsn (bCells (r1)) rfl (by rw [bCells_length, Nat.mul_one]) hsi (bCells_one _) ?c3 ?c4 ?c5 ?_
      case c3 => show 3 + r1.length ≤ 9223372036854775807; omega
      case c4 => show (3 + r1.length) * 1 ≤ 140737488355328; omega
      case c5 => exact hbs
      intro v2 w2 ho2 hg2 hx2
      rw [← bCells_append, ← List.length_append] at ho2
      have ST := Lib.hid (RowStep.grown (C := fun i x => match i with | 0 => x = .slice (some ⟨g2, 0, none⟩) 3 3 | 1 => x = .pointer (some ⟨w.heap.size, 3, none⟩) | 2 => x = .int .i64 s | 5 => x = .pointer (some ⟨w.heap.size, 5, none⟩) | 6 => x = .slice I it.length ci | 9 => x = .pointer (some ⟨w.heap.size, 6, none⟩) | 10 => x = .slice V vc.length cv | 14 => x = .slice (some ⟨g2, 0, none⟩) 3 3 | _ => True) (row := fun i => match i with | 3 => some (r1) | 4 => some ([1, f, t] ++ r1) | 7 => some (r2) | 8 => some (([1, f, t] ++ r1) ++ r2) | 11 => some (r3) | 12 => some ((([1, f, t] ++ r1) ++ r2) ++ r3) | 14 => some ([1, f, t]) | _ => none) (cons := fun i => match i with | 3 => 4 | 4 => 8 | 7 => 8 | 8 => 12 | 11 => 12 | 12 => 13 | 14 => 4 | _ => 0) (i := 4) (d := 14) (L := L) (v := v) trivial rfl rfl (by simp) ld hm.symm hg2 ho2 hx2)
      clear ho2 hg2 hx2 od
      go_wp2
      exact ⟨_, (by simp [upd, Act.put, h0, hs]; done), ST.out⟩
    | 5, _ =>
      refine wpOp_one rfl ?_
      clear hd htl hex
      go_wp2
      first | exact ⟨_, (by simp [upd]; done), RowStep.still rfl rfl⟩ | exact ⟨(by simp [upd]; done), RowStep.still rfl rfl⟩
    | 6, _ =>
      have l5 : L 5 = true := hd 5 (List.elem_iff.1 (by kernel_rfl))
      have h5 : v 5 = _ := hI.c 5 l5
      have q0 := hI.cell c5 HNE.out
      refine wpOp_one rfl ?_
      clear hd htl hex
      rw [h5]
      go_wp2
      first | exact ⟨_, (by simp [upd, h5]; done), RowStep.still rfl rfl⟩ | exact ⟨(by simp [upd, h5]; done), RowStep.still rfl rfl⟩
    | 7, _ =>
      have l6 : L 6 = true := hd 6 (List.elem_iff.1 (by kernel_rfl))
      have h6 : v 6 = _ := hI.c 6 l6
      refine wpOp_one rfl ?_
      clear hd htl hex
      rw [h6]
      go_wp2_with fail
      refine (NV2.out w' (H.out.hi.later (LW.out w' hI.rel))).mono ?_
      rintro e w'' ⟨x, rfl, ho, bb⟩
      have ST := Lib.hid (fun (Lx : Nat → Bool) (vx : Nat → Value) => RowStep.made (C := fun i x => match i with | 0 => x = .slice (some ⟨g2, 0, none⟩) 3 3 | 1 => x = .pointer (some ⟨w.heap.size, 3, none⟩) | 2 => x = .int .i64 s | 5 => x = .pointer (some ⟨w.heap.size, 5, none⟩) | 6 => x = .slice I it.length ci | 9 => x = .pointer (some ⟨w.heap.size, 6, none⟩) | 10 => x = .slice V vc.length cv | 14 => x = .slice (some ⟨g2, 0, none⟩) 3 3 | _ => True) (row := fun i => match i with | 3 => some (r1) | 4 => some ([1, f, t] ++ r1) | 7 => some (r2) | 8 => some (([1, f, t] ++ r1) ++ r2) | 11 => some (r3) | 12 => some ((([1, f, t] ++ r1) ++ r2) ++ r3) | 14 => some ([1, f, t]) | _ => none) (cons := fun i => match i with | 3 => 4 | 4 => 8 | 7 => 8 | 8 => 12 | 11 => 12 | 12 => 13 | 14 => 4 | _ => 0) (i := 7) (L := Lx) (v := vx) trivial rfl bb hI.hbase ho)
      clear ho bb
      go_wp2
      exact ⟨_, (by simp [upd, h6]; done), ST.out _ _⟩
    | 8, _ =>
      have l4 : L 4 = true := hd 4 (List.elem_iff.1 (by kernel_rfl))
      have l7 : L 7 = true := hd 7 (List.elem_iff.1 (by kernel_rfl))
      have ld : L 4 = true := l4
      have od := hI.own 4 _ ld hun rfl
      have os := hI.own 7 _ l7 hun rfl
      obtain ⟨Ax, cx, hs, hsl, hsc, hsn, hsi⟩ := own_form os
      refine wpOp_one rfl ?_
      have hbs := hI.hbase
      clear hd htl hex os
      rw [hs]
      refine wpList_append_lies _ rfl _ _ 23 rfl g2 5 i0 (.int .u8 0) 1 1 Try.underlying23 hi0 hz0 hz1 hz2 rfl (by decide) _ ([1, f, t] ++ r1).length (bCells ([1, f, t] ++ r1)) rfl od Ax (r2).length cx hsn (bCells (r2)) rfl (by rw [bCells_length, Nat.mul_one]) hsi (bCells_one _) ?c3 ?c4 ?c5 ?_
      case c3 => rw [List.length_append]; show 3 + r1.length + r2.length ≤ 9223372036854775807; omega
      case c4 => rw [List.length_append]; show (3 + r1.length + r2.length) * 1 ≤ 140737488355328; omega
      case c5 => exact hbs
      intro v2 w2 ho2 hg2 hx2
      rw [← bCells_append, ← List.length_append] at ho2
      have ST := Lib.hid (RowStep.grown (C := fun i x => match i with | 0 => x = .slice (some ⟨g2, 0, none⟩) 3 3 | 1 => x = .pointer (some ⟨w.heap.size, 3, none⟩) | 2 => x = .int .i64 s | 5 => x = .pointer (some ⟨w.heap.size, 5, none⟩) | 6 => x = .slice I it.length ci | 9 => x = .pointer (some ⟨w.heap.size, 6, none⟩) | 10 => x = .slice V vc.length cv | 14 => x = .slice (some ⟨g2, 0, none⟩) 3 3 | _ => True) (row := fun i => match i with | 3 => some (r1) | 4 => some ([1, f, t] ++ r1) | 7 => some (r2) | 8 => some (([1, f, t] ++ r1) ++ r2) | 11 => some (r3) | 12 => some ((([1, f, t] ++ r1) ++ r2) ++ r3) | 14 => some ([1, f, t]) | _ => none) (cons := fun i => match i with | 3 => 4 | 4 => 8 | 7 => 8 | 8 => 12 | 11 => 12 | 12 => 13 | 14 => 4 | _ => 0) (i := 8) (d := 4) (L := L) (v := v) trivial rfl rfl (by simp) ld rfl hg2 ho2 hx2)
      clear ho2 hg2 hx2 od
      go_wp2
      exact ⟨_, (by simp [upd, Act.put, hs]; done), ST.out⟩
    | 9, _ =>
      refine wpOp_one rfl ?_
      clear hd htl hex
      go_wp2
      first | exact ⟨_, (by simp [upd]; done), RowStep.still rfl rfl⟩ | exact ⟨(by simp [upd]; done), RowStep.still rfl rfl⟩
    | 10, _ =>
      have l9 : L 9 = true := hd 9 (List.elem_iff.1 (by kernel_rfl))
      have h9 : v 9 = _ := hI.c 9 l9
      have q0 := hI.cell c6 HNE.out
      refine wpOp_one rfl ?_
      clear hd htl hex
      rw [h9]
      go_wp2
      first | exact ⟨_, (by simp [upd, h9]; done), RowStep.still rfl rfl⟩ | exact ⟨(by simp [upd, h9]; done), RowStep.still rfl rfl⟩
    | 11, _ =>
      have l10 : L 10 = true := hd 10 (List.elem_iff.1 (by kernel_rfl))
      have h10 : v 10 = _ := hI.c 10 l10
      refine wpOp_one rfl ?_
      clear hd htl hex
      rw [h10]
      go_wp2_with fail
      refine (NV3.out w' (H.out.hv.later (LW.out w' hI.rel))).mono ?_
      rintro e w'' ⟨x, rfl, ho, bb⟩
      have ST := Lib.hid (fun (Lx : Nat → Bool) (vx : Nat → Value) => RowStep.made (C := fun i x => match i with | 0 => x = .slice (some ⟨g2, 0, none⟩) 3 3 | 1 => x = .pointer (some ⟨w.heap.size, 3, none⟩) | 2 => x = .int .i64 s | 5 => x = .pointer (some ⟨w.heap.size, 5, none⟩) | 6 => x = .slice I it.length ci | 9 => x = .pointer (some ⟨w.heap.size, 6, none⟩) | 10 => x = .slice V vc.length cv | 14 => x = .slice (some ⟨g2, 0, none⟩) 3 3 | _ => True) (row := fun i => match i with | 3 => some (r1) | 4 => some ([1, f, t] ++ r1) | 7 => some (r2) | 8 => some (([1, f, t] ++ r1) ++ r2) | 11 => some (r3) | 12 => some ((([1, f, t] ++ r1) ++ r2) ++ r3) | 14 => some ([1, f, t]) | _ => none) (cons := fun i => match i with | 3 => 4 | 4 => 8 | 7 => 8 | 8 => 12 | 11 => 12 | 12 => 13 | 14 => 4 | _ => 0) (i := 11) (L := Lx) (v := vx) trivial rfl bb hI.hbase ho)
      clear ho bb
      go_wp2
      exact ⟨_, (by simp [upd, h10]; done), ST.out _ _⟩
    | 12, _ =>
      have l8 : L 8 = true := hd 8 (List.elem_iff.1 (by kernel_rfl))
      have l11 : L 11 = true := hd 11 (List.elem_iff.1 (by kernel_rfl))
      have ld : L 8 = true := l8
      have od := hI.own 8 _ ld hun rfl
      have os := hI.own 11 _ l11 hun rfl
      obtain ⟨Ax, cx, hs, hsl, hsc, hsn, hsi⟩ := own_form os
      refine wpOp_one rfl ?_
      have hbs := hI.hbase
      clear hd htl hex os
      rw [hs]
      refine wpList_append_lies _ rfl _ _ 23 rfl g2 5 i0 (.int .u8 0) 1 1 Try.underlying23 hi0 hz0 hz1 hz2 rfl (by decide) _ (([1, f, t] ++ r1) ++ r2).length (bCells (([1, f, t] ++ r1) ++ r2)) rfl od Ax (r3).length cx hsn (bCells (r3)) rfl (by rw [bCells_length, Nat.mul_one]) hsi (bCells_one _) ?c3 ?c4 ?c5 ?_
      case c3 => rw [List.length_append, List.length_append]; show 3 + r1.length + r2.length + r3.length ≤ 9223372036854775807; omega
      case c4 => rw [List.length_append, List.length_append]; show (3 + r1.length + r2.length + r3.length) * 1 ≤ 140737488355328; omega
      case c5 => exact hbs
      intro v2 w2 ho2 hg2 hx2
      rw [← bCells_append, ← List.length_append] at ho2
      have ST := Lib.hid (RowStep.grown (C := fun i x => match i with | 0 => x = .slice (some ⟨g2, 0, none⟩) 3 3 | 1 => x = .pointer (some ⟨w.heap.size, 3, none⟩) | 2 => x = .int .i64 s | 5 => x = .pointer (some ⟨w.heap.size, 5, none⟩) | 6 => x = .slice I it.length ci | 9 => x = .pointer (some ⟨w.heap.size, 6, none⟩) | 10 => x = .slice V vc.length cv | 14 => x = .slice (some ⟨g2, 0, none⟩) 3 3 | _ => True) (row := fun i => match i with | 3 => some (r1) | 4 => some ([1, f, t] ++ r1) | 7 => some (r2) | 8 => some (([1, f, t] ++ r1) ++ r2) | 11 => some (r3) | 12 => some ((([1, f, t] ++ r1) ++ r2) ++ r3) | 14 => some ([1, f, t]) | _ => none) (cons := fun i => match i with | 3 => 4 | 4 => 8 | 7 => 8 | 8 => 12 | 11 => 12 | 12 => 13 | 14 => 4 | _ => 0) (i := 12) (d := 8) (L := L) (v := v) trivial rfl rfl (by simp) ld rfl hg2 ho2 hx2)
      clear ho2 hg2 hx2 od
      go_wp2
      exact ⟨_, (by simp [upd, Act.put, hs]; done), ST.out⟩
    | k + 13, hk => exact absurd hk (by omega)
  case done =>
    intro L v w5 hI hall htl5 hex
    have o12 := hI.own 12 _ (hall 12 (by omega)) (htl5 13 (by omega) (by simp)) rfl
    have b5 := LW.out w5 hI.rel
    have O12 := Lib.hid (own_base o12 (show w.heap.size ≤ g2 by omega)); have B5 := Lib.hid b5
    clear o12 b5 hI hall htl5 hex
    go_wp2
    go_ret2
    refine ⟨_, rfl, ?_, B5.out⟩
    have h := O12.out
    simp only [List.append_assoc] at h ⊢
    exact h

set_option maxRecDepth 100000 in
set_option maxHeartbeats 12800000 in
theorem rencode_2 (I V N D : Option Addr) (ci cv cn d : Nat) (f t : Int) (w : World) (h : MsAt w I V N D ci cv cn d (⟨2, f, t, 0, 0, [], [], [], zeroBd⟩ : Ms)) (hf0 : 0 ≤ f) (hf : f ≤ 63) (ht0 : 0 ≤ t) (ht : t ≤ 63)  (hfm : Wi.mfmd (⟨2, f, t, 0, 0, [], [], [], zeroBd⟩ : Ms) = true) :
    Calls Try.prog 38 #[.agg #[.int .i64 2, .int .i64 f, .int .i64 t, .int .i64 0, .int .i64 0, .slice I 0 ci, .slice V 0 cv, .slice N 0 cn, .int .i64 0, .int .i64 0, .int .i64 0, .slice D 0 d]] w (GivesB2 ([2, f, t]) 0 w) := by
  obtain ⟨i0, hi0, hz0, hz1, hz2⟩ := info_parts infoBy
  obtain ⟨W, hW⟩ : ∃ W, w.alloc (.cells #[.int .i64 2, .int .i64 f, .int .i64 t, .int .i64 0, .int .i64 0, .slice I 0 ci, .slice V 0 cv, .slice N 0 cn, .int .i64 0, .int .i64 0, .int .i64 0, .slice D 0 d] 74) = W := ⟨_, rfl⟩
  have hb0 : Below w.heap.size w W := by rw [← hW]; exact below_new (Below.refl _ _) _
  have hB0 : Blk W w.heap.size 74 #[.int .i64 2, .int .i64 f, .int .i64 t, .int .i64 0, .int .i64 0, .slice I 0 ci, .slice V 0 cv, .slice N 0 cn, .int .i64 0, .int .i64 0, .int .i64 0, .slice D 0 d] := by rw [← hW]; exact Blk.new w _ _
  have hWs : W.heap.size = w.heap.size + 1 := by rw [← hW]; simp
  have N1 := mformed_any I V N D ci cv cn d (⟨2, f, t, 0, 0, [], [], [], zeroBd⟩ : Ms) W (h.later hb0)
  rw [hfm] at N1
  unfold msCells at N1
  try unfold zeroBd at N1
  dsimp only at N1
  have N1 := Lib.hid N1
  have HW := Lib.hid hW; have HB0 := Lib.hid hb0; have KB := Lib.hid hB0; have H := Lib.hid h

  have c0 := hB0.cell (i := 0) rfl; have c1 := hB0.cell (i := 1) rfl; have c2 := hB0.cell (i := 2) rfl; have c3 := hB0.cell (i := 3) rfl; have c4 := hB0.cell (i := 4) rfl; have c5 := hB0.cell (i := 5) rfl; have c6 := hB0.cell (i := 6) rfl; have c7 := hB0.cell (i := 7) rfl; have c8 := hB0.cell (i := 8) rfl; have c9 := hB0.cell (i := 9) rfl; have c10 := hB0.cell (i := 10) rfl; have c11 := hB0.cell (i := 11) rfl
  clear hW hb0 hB0 h hfm
  go_enter Try.func38, Try.ntmps38
  go_wp2_with fail
  rw [HW.out]
  refine N1.out.mono ?_
  rintro e w1 ⟨rfl, b1⟩
  have k1 := KB.out.later b1
  have d0 := k1.cell (i := 0) rfl; have d1 := k1.cell (i := 1) rfl; have d2 := k1.cell (i := 2) rfl
  clear k1 c0 c1 c2 c3 c4 c5 c6 c7 c8 c9 c10 c11
  have b12 := below_new (Below.refl w1.heap.size w1) (.cells #[.int .u8 2, .int .u8 f, .int .u8 t] 5)
  have own2 := three_own w1 w1.heap.size (Nat.le_refl _) 2 f t
  obtain ⟨g2, hg2⟩ : ∃ g2, w1.heap.size = g2 := ⟨_, rfl⟩
  have hg2w : w.heap.size < g2 := by have := b1.size; omega
  obtain ⟨W2, hW2⟩ : ∃ W2, w1.alloc (.cells #[.int .u8 2, .int .u8 f, .int .u8 t] 5) = W2 := ⟨_, rfl⟩
  have kb2 := KB.out.later (below_on b1 b12)
  have bb2 := below_on HB0.out (below_on b1 b12)
  have hbs2 : W2.heap.size = g2 + 1 := by rw [← hW2, ← hg2]; simp
  rw [hW2, hg2] at own2
  rw [hW2] at kb2 bb2
  have HW2 := Lib.hid hW2; have HG2 := Lib.hid hg2; have OWN2 := Lib.hid own2; have BB2 := Lib.hid bb2; have KB2 := Lib.hid kb2
  have LW := Lib.hid (fun (w' : World) (hb : Below g2 W2 w') => bb2.trans (hb.mono (show w.heap.size ≤ g2 by omega)))
  have HNE := Lib.hid (show (Value.slice (some ⟨g2, 0, none⟩) 3 3).ownBlock ≠ some w.heap.size from fun e => absurd (Option.some.inj e) (by show ¬ g2 = w.heap.size; omega))
  clear hW2 hg2 own2 bb2 b12 b1
  go_upto_region 4 with (fail)
  rw [HW2.out, HG2.out]
  clear d0 d1 d2
  have c0 := kb2.cell (i := 0) rfl; have c3 := kb2.cell (i := 3) rfl; have c4 := kb2.cell (i := 4) rfl; have c5 := kb2.cell (i := 5) rfl; have c6 := kb2.cell (i := 6) rfl; have c7 := kb2.cell (i := 7) rfl; have c8 := kb2.cell (i := 8) rfl; have c9 := kb2.cell (i := 9) rfl; have c10 := kb2.cell (i := 10) rfl; have c11 := kb2.cell (i := 11) rfl
  clear kb2

  go_wp2
  go_ret2
  exact ⟨_, rfl, own_base OWN2.out (show w.heap.size ≤ g2 by omega), BB2.out⟩

set_option maxRecDepth 100000 in
set_option maxHeartbeats 12800000 in
theorem rencode_4 (I V N D : Option Addr) (ci cv cn d : Nat) (f t : Int) (o : Int) (w : World) (h : MsAt w I V N D ci cv cn d (⟨4, f, t, 0, 0, [], [], [], ⟨o, 0, 0, []⟩⟩ : Ms)) (hf0 : 0 ≤ f) (hf : f ≤ 63) (ht0 : 0 ≤ t) (ht : t ≤ 63) (ho : Wi.fit o) (hfm : Wi.mfmd (⟨4, f, t, 0, 0, [], [], [], ⟨o, 0, 0, []⟩⟩ : Ms) = true) :
    Calls Try.prog 38 #[.agg #[.int .i64 4, .int .i64 f, .int .i64 t, .int .i64 0, .int .i64 0, .slice I 0 ci, .slice V 0 cv, .slice N 0 cn, .int .i64 o, .int .i64 0, .int .i64 0, .slice D 0 d]] w (GivesB2 ([4, f, t] ++ Wi.by_ o) 0 w) := by
  obtain ⟨i0, hi0, hz0, hz1, hz2⟩ := info_parts infoBy
  obtain ⟨W, hW⟩ : ∃ W, w.alloc (.cells #[.int .i64 4, .int .i64 f, .int .i64 t, .int .i64 0, .int .i64 0, .slice I 0 ci, .slice V 0 cv, .slice N 0 cn, .int .i64 o, .int .i64 0, .int .i64 0, .slice D 0 d] 74) = W := ⟨_, rfl⟩
  have hb0 : Below w.heap.size w W := by rw [← hW]; exact below_new (Below.refl _ _) _
  have hB0 : Blk W w.heap.size 74 #[.int .i64 4, .int .i64 f, .int .i64 t, .int .i64 0, .int .i64 0, .slice I 0 ci, .slice V 0 cv, .slice N 0 cn, .int .i64 o, .int .i64 0, .int .i64 0, .slice D 0 d] := by rw [← hW]; exact Blk.new w _ _
  have hWs : W.heap.size = w.heap.size + 1 := by rw [← hW]; simp
  have N1 := mformed_any I V N D ci cv cn d (⟨4, f, t, 0, 0, [], [], [], ⟨o, 0, 0, []⟩⟩ : Ms) W (h.later hb0)
  rw [hfm] at N1
  unfold msCells at N1
  try unfold zeroBd at N1
  dsimp only at N1
  have N1 := Lib.hid N1
  have HW := Lib.hid hW; have HB0 := Lib.hid hb0; have KB := Lib.hid hB0; have H := Lib.hid h
  have GO := Lib.hid ho
  have q1 := Wi.by_len o
  clear ho
  have c0 := hB0.cell (i := 0) rfl; have c1 := hB0.cell (i := 1) rfl; have c2 := hB0.cell (i := 2) rfl; have c3 := hB0.cell (i := 3) rfl; have c4 := hB0.cell (i := 4) rfl; have c5 := hB0.cell (i := 5) rfl; have c6 := hB0.cell (i := 6) rfl; have c7 := hB0.cell (i := 7) rfl; have c8 := hB0.cell (i := 8) rfl; have c9 := hB0.cell (i := 9) rfl; have c10 := hB0.cell (i := 10) rfl; have c11 := hB0.cell (i := 11) rfl
  clear hW hb0 hB0 h hfm
  go_enter Try.func38, Try.ntmps38
  go_wp2_with fail
  rw [HW.out]
  refine N1.out.mono ?_
  rintro e w1 ⟨rfl, b1⟩
  have k1 := KB.out.later b1
  have d0 := k1.cell (i := 0) rfl; have d1 := k1.cell (i := 1) rfl; have d2 := k1.cell (i := 2) rfl
  clear k1 c0 c1 c2 c3 c4 c5 c6 c7 c8 c9 c10 c11
  have b12 := below_new (Below.refl w1.heap.size w1) (.cells #[.int .u8 4, .int .u8 f, .int .u8 t] 5)
  have own2 := three_own w1 w1.heap.size (Nat.le_refl _) 4 f t
  obtain ⟨g2, hg2⟩ : ∃ g2, w1.heap.size = g2 := ⟨_, rfl⟩
  have hg2w : w.heap.size < g2 := by have := b1.size; omega
  obtain ⟨W2, hW2⟩ : ∃ W2, w1.alloc (.cells #[.int .u8 4, .int .u8 f, .int .u8 t] 5) = W2 := ⟨_, rfl⟩
  have kb2 := KB.out.later (below_on b1 b12)
  have bb2 := below_on HB0.out (below_on b1 b12)
  have hbs2 : W2.heap.size = g2 + 1 := by rw [← hW2, ← hg2]; simp
  rw [hW2, hg2] at own2
  rw [hW2] at kb2 bb2
  have HW2 := Lib.hid hW2; have HG2 := Lib.hid hg2; have OWN2 := Lib.hid own2; have BB2 := Lib.hid bb2; have KB2 := Lib.hid kb2
  have LW := Lib.hid (fun (w' : World) (hb : Below g2 W2 w') => bb2.trans (hb.mono (show w.heap.size ≤ g2 by omega)))
  have HNE := Lib.hid (show (Value.slice (some ⟨g2, 0, none⟩) 3 3).ownBlock ≠ some w.heap.size from fun e => absurd (Option.some.inj e) (by show ¬ g2 = w.heap.size; omega))
  clear hW2 hg2 own2 bb2 b12 b1
  go_upto_region 4 with (fail)
  rw [HW2.out, HG2.out]
  clear d0 d1 d2
  have c0 := kb2.cell (i := 0) rfl; have c3 := kb2.cell (i := 3) rfl; have c4 := kb2.cell (i := 4) rfl; have c5 := kb2.cell (i := 5) rfl; have c6 := kb2.cell (i := 6) rfl; have c7 := kb2.cell (i := 7) rfl; have c8 := kb2.cell (i := 8) rfl; have c9 := kb2.cell (i := 9) rfl; have c10 := kb2.cell (i := 10) rfl; have c11 := kb2.cell (i := 11) rfl
  clear kb2

  go_wp2_with fail
  refine (by_any o W2 GO.out).mono ?_
  rintro e w3 ⟨u, rfl, hou, b3⟩
  have b23 : Below g2 W2 w3 := b3.mono (by omega)
  obtain ⟨U, cu, rfl, hsl, hsc, hsn, hsi⟩ := own_form hou
  have o3 := own_later OWN2.out b3
  have hz3 : g2 ≤ w3.heap.size := by have := b3.size; omega
  clear hou
  go_wp2_with (at_builtin; refine wpList_append_lies _ rfl _ _ 23 rfl g2 5 i0 (.int .u8 0) 1 1 Try.underlying23 hi0 hz0 hz1 hz2 rfl (by decide) _ 3 (bCells [4, f, t]) rfl o3 U (Wi.by_ o).length cu hsn (bCells (Wi.by_ o)) rfl (by rw [bCells_length, Nat.mul_one]) hsi (bCells_one _) ?c3 ?c4 ?c5 ?_)
  case c3 => unfold maxLen; omega
  case c4 => omega
  case c5 => exact hz3
  intro v7 w7 ho7 hg7 _
  have b7 := (LW.out w3 b23).grown hg7 (by have := b3.size; have := BB2.out.size; omega) (fun k' hk' => by have := own_ge o3 k' hk'; omega)
  have HO7 := Lib.hid (own_base (own_cast (r := [4, f, t] ++ (Wi.by_ o)) ho7 (by simp only [List.length_append, List.length_cons, List.length_nil]) (by rw [← bCells_append])) (show w.heap.size ≤ g2 by omega)); have B7 := Lib.hid b7
  clear ho7 hg7 b7 o3 hsi
  go_wp2
  go_ret2
  exact ⟨_, rfl, HO7.out, B7.out⟩

set_option maxRecDepth 100000 in
set_option maxHeartbeats 12800000 in
theorem rencode_5 (I V N D : Option Addr) (ci cv cn d : Nat) (f t : Int) (b : Bd) (w : World) (h : MsAt w I V N D ci cv cn d (⟨5, f, t, 0, 0, [], [], [], b⟩ : Ms)) (hf0 : 0 ≤ f) (hf : f ≤ 63) (ht0 : 0 ≤ t) (ht : t ≤ 63) (ho : Wi.fit b.o) (hc : Wi.fit b.c) (hn : Wi.fit b.n) (hvl : b.v.length ≤ 256) (hfm : Wi.mfmd (⟨5, f, t, 0, 0, [], [], [], b⟩ : Ms) = true) :
    Calls Try.prog 38 #[.agg #[.int .i64 5, .int .i64 f, .int .i64 t, .int .i64 0, .int .i64 0, .slice I 0 ci, .slice V 0 cv, .slice N 0 cn, .int .i64 b.o, .int .i64 b.c, .int .i64 b.n, .slice D b.v.length d]] w (GivesB2 ([5, f, t] ++ Wi.ebody b) 0 w) := by
  obtain ⟨i0, hi0, hz0, hz1, hz2⟩ := info_parts infoBy
  obtain ⟨W, hW⟩ : ∃ W, w.alloc (.cells #[.int .i64 5, .int .i64 f, .int .i64 t, .int .i64 0, .int .i64 0, .slice I 0 ci, .slice V 0 cv, .slice N 0 cn, .int .i64 b.o, .int .i64 b.c, .int .i64 b.n, .slice D b.v.length d] 74) = W := ⟨_, rfl⟩
  have hb0 : Below w.heap.size w W := by rw [← hW]; exact below_new (Below.refl _ _) _
  have hB0 : Blk W w.heap.size 74 #[.int .i64 5, .int .i64 f, .int .i64 t, .int .i64 0, .int .i64 0, .slice I 0 ci, .slice V 0 cv, .slice N 0 cn, .int .i64 b.o, .int .i64 b.c, .int .i64 b.n, .slice D b.v.length d] := by rw [← hW]; exact Blk.new w _ _
  have hWs : W.heap.size = w.heap.size + 1 := by rw [← hW]; simp
  have N1 := mformed_any I V N D ci cv cn d (⟨5, f, t, 0, 0, [], [], [], b⟩ : Ms) W (h.later hb0)
  rw [hfm] at N1
  unfold msCells at N1
  try unfold zeroBd at N1
  dsimp only at N1
  have N1 := Lib.hid N1
  have HW := Lib.hid hW; have HB0 := Lib.hid hb0; have KB := Lib.hid hB0; have H := Lib.hid h
  have NB := Lib.hid (fun wx (hx : OneB wx D d b.v) => (show Calls Try.prog 32 #[.agg #[.int .i64 b.o, .int .i64 b.c, .int .i64 b.n, .slice D b.v.length d]] wx (GivesB (Wi.ebody b) wx) from ebody_any D d b wx (by omega) ho hc hn hx))
  have q1 : (Wi.ebody b).length ≤ 296 := by
    unfold Wi.ebody Pk.laid
    simp only [List.length_append]
    have := Wi.by_len b.o
    have := Wi.by_len b.n
    have := Wi.by_len b.c
    have := (Pk.nb_len 9 b.v.length).2
    unfold Pk.bytesOf
    omega
  clear ho hc hn
  have c0 := hB0.cell (i := 0) rfl; have c1 := hB0.cell (i := 1) rfl; have c2 := hB0.cell (i := 2) rfl; have c3 := hB0.cell (i := 3) rfl; have c4 := hB0.cell (i := 4) rfl; have c5 := hB0.cell (i := 5) rfl; have c6 := hB0.cell (i := 6) rfl; have c7 := hB0.cell (i := 7) rfl; have c8 := hB0.cell (i := 8) rfl; have c9 := hB0.cell (i := 9) rfl; have c10 := hB0.cell (i := 10) rfl; have c11 := hB0.cell (i := 11) rfl
  clear hW hb0 hB0 h hfm
  go_enter Try.func38, Try.ntmps38
  go_wp2_with fail
  rw [HW.out]
  refine N1.out.mono ?_
  rintro e w1 ⟨rfl, b1⟩
  have k1 := KB.out.later b1
  have d0 := k1.cell (i := 0) rfl; have d1 := k1.cell (i := 1) rfl; have d2 := k1.cell (i := 2) rfl
  clear k1 c0 c1 c2 c3 c4 c5 c6 c7 c8 c9 c10 c11
  have b12 := below_new (Below.refl w1.heap.size w1) (.cells #[.int .u8 5, .int .u8 f, .int .u8 t] 5)
  have own2 := three_own w1 w1.heap.size (Nat.le_refl _) 5 f t
  obtain ⟨g2, hg2⟩ : ∃ g2, w1.heap.size = g2 := ⟨_, rfl⟩
  have hg2w : w.heap.size < g2 := by have := b1.size; omega
  obtain ⟨W2, hW2⟩ : ∃ W2, w1.alloc (.cells #[.int .u8 5, .int .u8 f, .int .u8 t] 5) = W2 := ⟨_, rfl⟩
  have kb2 := KB.out.later (below_on b1 b12)
  have bb2 := below_on HB0.out (below_on b1 b12)
  have hbs2 : W2.heap.size = g2 + 1 := by rw [← hW2, ← hg2]; simp
  rw [hW2, hg2] at own2
  rw [hW2] at kb2 bb2
  have HW2 := Lib.hid hW2; have HG2 := Lib.hid hg2; have OWN2 := Lib.hid own2; have BB2 := Lib.hid bb2; have KB2 := Lib.hid kb2
  have LW := Lib.hid (fun (w' : World) (hb : Below g2 W2 w') => bb2.trans (hb.mono (show w.heap.size ≤ g2 by omega)))
  have HNE := Lib.hid (show (Value.slice (some ⟨g2, 0, none⟩) 3 3).ownBlock ≠ some w.heap.size from fun e => absurd (Option.some.inj e) (by show ¬ g2 = w.heap.size; omega))
  clear hW2 hg2 own2 bb2 b12 b1
  go_upto_region 4 with (fail)
  rw [HW2.out, HG2.out]
  clear d0 d1 d2
  have c0 := kb2.cell (i := 0) rfl; have c3 := kb2.cell (i := 3) rfl; have c4 := kb2.cell (i := 4) rfl; have c5 := kb2.cell (i := 5) rfl; have c6 := kb2.cell (i := 6) rfl; have c7 := kb2.cell (i := 7) rfl; have c8 := kb2.cell (i := 8) rfl; have c9 := kb2.cell (i := 9) rfl; have c10 := kb2.cell (i := 10) rfl; have c11 := kb2.cell (i := 11) rfl
  clear kb2

  go_wp2_with fail
  refine (NB.out W2 (H.out.hb.later BB2.out)).mono ?_
  rintro e w3 ⟨u, rfl, hou, b3⟩
  have b23 : Below g2 W2 w3 := b3.mono (by omega)
  obtain ⟨U, cu, rfl, hsl, hsc, hsn, hsi⟩ := own_form hou
  have o3 := own_later OWN2.out b3
  have hz3 : g2 ≤ w3.heap.size := by have := b3.size; omega
  clear hou
  go_wp2_with (at_builtin; refine wpList_append_lies _ rfl _ _ 23 rfl g2 5 i0 (.int .u8 0) 1 1 Try.underlying23 hi0 hz0 hz1 hz2 rfl (by decide) _ 3 (bCells [5, f, t]) rfl o3 U (Wi.ebody b).length cu hsn (bCells (Wi.ebody b)) rfl (by rw [bCells_length, Nat.mul_one]) hsi (bCells_one _) ?c3 ?c4 ?c5 ?_)
  case c3 => unfold maxLen; omega
  case c4 => omega
  case c5 => exact hz3
  intro v7 w7 ho7 hg7 _
  have b7 := (LW.out w3 b23).grown hg7 (by have := b3.size; have := BB2.out.size; omega) (fun k' hk' => by have := own_ge o3 k' hk'; omega)
  have HO7 := Lib.hid (own_base (own_cast (r := [5, f, t] ++ (Wi.ebody b)) ho7 (by simp only [List.length_append, List.length_cons, List.length_nil]) (by rw [← bCells_append])) (show w.heap.size ≤ g2 by omega)); have B7 := Lib.hid b7
  clear ho7 hg7 b7 o3 hsi
  go_wp2
  go_ret2
  exact ⟨_, rfl, HO7.out, B7.out⟩

set_option maxRecDepth 100000 in
set_option maxHeartbeats 12800000 in
theorem rencode_3 (I V N D : Option Addr) (ci cv cn d : Nat) (f t : Int) (s q : Int) (ns : List Note) (w : World) (h : MsAt w I V N D ci cv cn d (⟨3, f, t, s, q, [], [], ns, zeroBd⟩ : Ms)) (hf0 : 0 ≤ f) (hf : f ≤ 63) (ht0 : 0 ≤ t) (ht : t ≤ 63) (hs : Wi.fit s) (hq : Wi.fit q) (hnl : ns.length ≤ 257) (hn : ∀ x ∈ ns, Wi.backN x) (hfm : Wi.mfmd (⟨3, f, t, s, q, [], [], ns, zeroBd⟩ : Ms) = true) :
    Calls Try.prog 38 #[.agg #[.int .i64 3, .int .i64 f, .int .i64 t, .int .i64 s, .int .i64 q, .slice I 0 ci, .slice V 0 cv, .slice N ns.length cn, .int .i64 0, .int .i64 0, .int .i64 0, .slice D 0 d]] w (GivesB2 ([3, f, t] ++ (Wi.by_ s ++ Wi.by_ q ++ Wi.elist Wi.enote ns)) 0 w) := by
  obtain ⟨i0, hi0, hz0, hz1, hz2⟩ := info_parts infoBy
  obtain ⟨W, hW⟩ : ∃ W, w.alloc (.cells #[.int .i64 3, .int .i64 f, .int .i64 t, .int .i64 s, .int .i64 q, .slice I 0 ci, .slice V 0 cv, .slice N ns.length cn, .int .i64 0, .int .i64 0, .int .i64 0, .slice D 0 d] 74) = W := ⟨_, rfl⟩
  have hb0 : Below w.heap.size w W := by rw [← hW]; exact below_new (Below.refl _ _) _
  have hB0 : Blk W w.heap.size 74 #[.int .i64 3, .int .i64 f, .int .i64 t, .int .i64 s, .int .i64 q, .slice I 0 ci, .slice V 0 cv, .slice N ns.length cn, .int .i64 0, .int .i64 0, .int .i64 0, .slice D 0 d] := by rw [← hW]; exact Blk.new w _ _
  have hWs : W.heap.size = w.heap.size + 1 := by rw [← hW]; simp
  have N1 := mformed_any I V N D ci cv cn d (⟨3, f, t, s, q, [], [], ns, zeroBd⟩ : Ms) W (h.later hb0)
  rw [hfm] at N1
  unfold msCells at N1
  try unfold zeroBd at N1
  dsimp only at N1
  have N1 := Lib.hid N1
  have HW := Lib.hid hW; have HB0 := Lib.hid hb0; have KB := Lib.hid hB0; have H := Lib.hid h
  have q1 := Wi.by_len s
  have q2 := Wi.by_len q
  have q3 : (Pk.bytesOf ns.length).length ≤ 10 := (Pk.nb_len 9 ns.length).2
  have q4 := fun k => Wi.enote_take ns k hnl hn
  have q5 := fun k hk => Wi.flat_take Wi.enote ns k zeroN hk
  have Q4 := Lib.hid q4; have Q5 := Lib.hid q5
  have HN := Lib.hid hn
  have GS := Lib.hid hs; have GQ := Lib.hid hq
  clear hs hq hn q4 q5
  unfold Wi.elist
  obtain ⟨r1, hr1⟩ : ∃ r, Wi.by_ s = r := ⟨_, rfl⟩
  obtain ⟨r2, hr2⟩ : ∃ r, Wi.by_ q = r := ⟨_, rfl⟩
  obtain ⟨r3, hr3⟩ : ∃ r, Pk.bytesOf ns.length = r := ⟨_, rfl⟩
  have NV1 := fun wx => by_any s wx GS.out
  have NV2 := fun wx => by_any q wx GQ.out
  have NV3 := fun wx => bytes_any ns.length wx (by omega)
  rw [hr1] at q1 ⊢; rw [hr2] at q2 ⊢; rw [hr3] at q3 ⊢
  simp only [hr1] at NV1
  simp only [hr2] at NV2
  simp only [hr3] at NV3
  have NV1 := Lib.hid NV1; have NV2 := Lib.hid NV2; have NV3 := Lib.hid NV3
  clear hr1 hr2 hr3 GS GQ
  have c0 := hB0.cell (i := 0) rfl; have c1 := hB0.cell (i := 1) rfl; have c2 := hB0.cell (i := 2) rfl; have c3 := hB0.cell (i := 3) rfl; have c4 := hB0.cell (i := 4) rfl; have c5 := hB0.cell (i := 5) rfl; have c6 := hB0.cell (i := 6) rfl; have c7 := hB0.cell (i := 7) rfl; have c8 := hB0.cell (i := 8) rfl; have c9 := hB0.cell (i := 9) rfl; have c10 := hB0.cell (i := 10) rfl; have c11 := hB0.cell (i := 11) rfl
  clear hW hb0 hB0 h hfm
  go_enter Try.func38, Try.ntmps38
  go_wp2_with fail
  rw [HW.out]
  refine N1.out.mono ?_
  rintro e w1 ⟨rfl, b1⟩
  have k1 := KB.out.later b1
  have d0 := k1.cell (i := 0) rfl; have d1 := k1.cell (i := 1) rfl; have d2 := k1.cell (i := 2) rfl
  clear k1 c0 c1 c2 c3 c4 c5 c6 c7 c8 c9 c10 c11
  have b12 := below_new (Below.refl w1.heap.size w1) (.cells #[.int .u8 3, .int .u8 f, .int .u8 t] 5)
  have own2 := three_own w1 w1.heap.size (Nat.le_refl _) 3 f t
  obtain ⟨g2, hg2⟩ : ∃ g2, w1.heap.size = g2 := ⟨_, rfl⟩
  have hg2w : w.heap.size < g2 := by have := b1.size; omega
  obtain ⟨W2, hW2⟩ : ∃ W2, w1.alloc (.cells #[.int .u8 3, .int .u8 f, .int .u8 t] 5) = W2 := ⟨_, rfl⟩
  have kb2 := KB.out.later (below_on b1 b12)
  have bb2 := below_on HB0.out (below_on b1 b12)
  have hbs2 : W2.heap.size = g2 + 1 := by rw [← hW2, ← hg2]; simp
  rw [hW2, hg2] at own2
  rw [hW2] at kb2 bb2
  have HW2 := Lib.hid hW2; have HG2 := Lib.hid hg2; have OWN2 := Lib.hid own2; have BB2 := Lib.hid bb2; have KB2 := Lib.hid kb2
  have LW := Lib.hid (fun (w' : World) (hb : Below g2 W2 w') => bb2.trans (hb.mono (show w.heap.size ≤ g2 by omega)))
  have HNE := Lib.hid (show (Value.slice (some ⟨g2, 0, none⟩) 3 3).ownBlock ≠ some w.heap.size from fun e => absurd (Option.some.inj e) (by show ¬ g2 = w.heap.size; omega))
  clear hW2 hg2 own2 bb2 b12 b1
  go_upto_region 4 with (fail)
  rw [HW2.out, HG2.out]
  clear d0 d1 d2
  have c0 := kb2.cell (i := 0) rfl; have c3 := kb2.cell (i := 3) rfl; have c4 := kb2.cell (i := 4) rfl; have c5 := kb2.cell (i := 5) rfl; have c6 := kb2.cell (i := 6) rfl; have c7 := kb2.cell (i := 7) rfl; have c8 := kb2.cell (i := 8) rfl; have c9 := kb2.cell (i := 9) rfl; have c10 := kb2.cell (i := 10) rfl; have c11 := kb2.cell (i := 11) rfl
  clear kb2

  go_wp2_with fail

  refine wp_region_rows 14 (by kernel_rfl) (by kernel_rfl)
    (fun v => { tmps := #[.agg #[.int .i64 3, .int .i64 f, .int .i64 t, .int .i64 s, .int .i64 q, .slice I 0 ci, .slice V 0 cv, .slice N ns.length cn, .int .i64 0, .int .i64 0, .int .i64 0, .slice D 0 d], .pointer (some ⟨w.heap.size, 0, none⟩), .slice none 0 0, .int .i64 0, .slice (some ⟨g2, 0, none⟩) 3 3, undef, .agg #[.int .i64 3, .int .i64 f, .int .i64 t, .int .i64 s, .int .i64 q, .slice I 0 ci, .slice V 0 cv, .slice N ns.length cn, .int .i64 0, .int .i64 0, .int .i64 0, .slice D 0 d], .bool true, .bool false, .pointer (some ⟨w.heap.size, 0, none⟩), .int .i64 3, .int .u8 3, .pointer (some ⟨w.heap.size, 1, none⟩), .int .i64 f, .int .u8 f, .pointer (some ⟨w.heap.size, 2, none⟩), .int .i64 t, .int .u8 t, .slice (some ⟨g2, 0, none⟩) 3 3, .pointer (some ⟨w.heap.size, 0, none⟩), .int .i64 3, .bool false, .bool false, undef, undef, undef, undef, undef, undef, undef, undef, undef, undef, undef, undef, undef, .bool true, .bool true, v 0, v 1, v 2, v 3, v 4, v 5, v 6, v 7, v 8, v 9, v 10, v 11, v 12, v 13, undef, undef, undef, undef, undef, undef, undef, undef, undef, undef, undef, undef, undef, undef, undef, undef, undef, undef, undef, undef, undef, undef, undef, undef, undef, undef, undef, undef, undef, undef, undef], defers := [] }) (fun i => match i with | 15 => .slice (some ⟨g2, 0, none⟩) 3 3 | _ => undef) g2 5
    (fun i x => match i with | 0 => x = .slice (some ⟨g2, 0, none⟩) 3 3 | 1 => x = .pointer (some ⟨w.heap.size, 3, none⟩) | 2 => x = .int .i64 s | 5 => x = .pointer (some ⟨w.heap.size, 4, none⟩) | 6 => x = .int .i64 q | 9 => x = .pointer (some ⟨w.heap.size, 7, none⟩) | 10 => x = .slice N ns.length cn | 11 => x = .int .i64 (ns.length : Int) | 15 => x = .slice (some ⟨g2, 0, none⟩) 3 3 | _ => True)
    (fun i => match i with | 3 => some (r1) | 4 => some ([3, f, t] ++ r1) | 7 => some (r2) | 8 => some (([3, f, t] ++ r1) ++ r2) | 12 => some (r3) | 13 => some ((([3, f, t] ++ r1) ++ r2) ++ r3) | 15 => some ([3, f, t]) | _ => none)
    (fun i => match i with | 3 => 4 | 4 => 8 | 7 => 8 | 8 => 13 | 12 => 13 | 13 => 14 | 15 => 4 | _ => 0) ((Value.slice (some ⟨g2, 0, none⟩) 3 3).ownBlock) ?start ?step ?done
  case start =>
    refine RowsInv.start (m := 15) ?_ (fun i hi => ?_) (fun i hi hr => ?_) (fun r hr => ?_) (fun _ k hk => ?_)
    · first | exact Nat.le_refl _ | omega
    · match i, hi with
      | 15, _ => rfl
      | j + 16, _ => trivial
    · match i, hi, hr with
      | 15, _, _ => rfl
      | j + 16, _, hr => exact absurd rfl hr
    · cases hr
      exact OWN2.out
    · exact hk
  case step =>
    intro i hi L v w' hI hun hd htl hex
    match i, hi with
    | 0, _ =>
      refine wpOp_one rfl ?_
      clear hd htl hex
      go_wp2
      first | exact ⟨_, (by simp [upd]; done), RowStep.still rfl rfl⟩ | exact ⟨(by simp [upd]; done), RowStep.still rfl rfl⟩
    | 1, _ =>
      refine wpOp_one rfl ?_
      clear hd htl hex
      go_wp2
      first | exact ⟨_, (by simp [upd]; done), RowStep.still rfl rfl⟩ | exact ⟨(by simp [upd]; done), RowStep.still rfl rfl⟩
    | 2, _ =>
      have l1 : L 1 = true := hd 1 (List.elem_iff.1 (by kernel_rfl))
      have h1 : v 1 = _ := hI.c 1 l1
      have q0 := hI.cell c3 HNE.out
      refine wpOp_one rfl ?_
      clear hd htl hex
      rw [h1]
      go_wp2
      first | exact ⟨_, (by simp [upd, h1]; done), RowStep.still rfl rfl⟩ | exact ⟨(by simp [upd, h1]; done), RowStep.still rfl rfl⟩
    | 3, _ =>
      have l2 : L 2 = true := hd 2 (List.elem_iff.1 (by kernel_rfl))
      have h2 : v 2 = _ := hI.c 2 l2
      refine wpOp_one rfl ?_
      clear hd htl hex
      rw [h2]
      go_wp2_with fail
      refine (NV1.out w').mono ?_
      rintro e w'' ⟨x, rfl, ho, bb⟩
      have ST := Lib.hid (fun (Lx : Nat → Bool) (vx : Nat → Value) => RowStep.made (C := fun i x => match i with | 0 => x = .slice (some ⟨g2, 0, none⟩) 3 3 | 1 => x = .pointer (some ⟨w.heap.size, 3, none⟩) | 2 => x = .int .i64 s | 5 => x = .pointer (some ⟨w.heap.size, 4, none⟩) | 6 => x = .int .i64 q | 9 => x = .pointer (some ⟨w.heap.size, 7, none⟩) | 10 => x = .slice N ns.length cn | 11 => x = .int .i64 (ns.length : Int) | 15 => x = .slice (some ⟨g2, 0, none⟩) 3 3 | _ => True) (row := fun i => match i with | 3 => some (r1) | 4 => some ([3, f, t] ++ r1) | 7 => some (r2) | 8 => some (([3, f, t] ++ r1) ++ r2) | 12 => some (r3) | 13 => some ((([3, f, t] ++ r1) ++ r2) ++ r3) | 15 => some ([3, f, t]) | _ => none) (cons := fun i => match i with | 3 => 4 | 4 => 8 | 7 => 8 | 8 => 13 | 12 => 13 | 13 => 14 | 15 => 4 | _ => 0) (i := 3) (L := Lx) (v := vx) trivial rfl bb hI.hbase ho)
      clear ho bb
      go_wp2
      exact ⟨_, (by simp [upd, h2]; done), ST.out _ _⟩
    | 4, _ =>
      have l0 : L 0 = true := hd 0 (List.elem_iff.1 (by kernel_rfl))
      have h0 : v 0 = _ := hI.c 0 l0
      have l3 : L 3 = true := hd 3 (List.elem_iff.1 (by kernel_rfl))
      have ld : L 15 = true := hex 15 (by simp)
      have hm : v 15 = _ := hI.c 15 ld
      have od := hI.own 15 _ ld hun rfl
      rw [hm] at od
      have os := hI.own 3 _ l3 hun rfl
      obtain ⟨Ax, cx, hs, hsl, hsc, hsn, hsi⟩ := own_form os
      refine wpOp_one rfl ?_
      have hbs := hI.hbase
      clear hd htl hex os
      rw [h0, hs]
      refine wpList_append_lies _ rfl _ _ 23 rfl g2 5 i0 (.int .u8 0) 1 1 Try.underlying23 hi0 hz0 hz1 hz2 rfl (by decide) _ ([3, f, t]).length (bCells ([3, f, t])) rfl od Ax (r1).length cx hsn (bCells (r1)) rfl (by rw [bCells_length, Nat.mul_one]) hsi (bCells_one _) ?c3 ?c4 ?c5 ?_
      case c3 => show 3 + r1.length ≤ 9223372036854775807; omega
      case c4 => show (3 + r1.length) * 1 ≤ 140737488355328; omega
      case c5 => exact hbs
      intro v2 w2 ho2 hg2 hx2
      rw [← bCells_append, ← List.length_append] at ho2
      have ST := Lib.hid (RowStep.grown (C := fun i x => match i with | 0 => x = .slice (some ⟨g2, 0, none⟩) 3 3 | 1 => x = .pointer (some ⟨w.heap.size, 3, none⟩) | 2 => x = .int .i64 s | 5 => x = .pointer (some ⟨w.heap.size, 4, none⟩) | 6 => x = .int .i64 q | 9 => x = .pointer (some ⟨w.heap.size, 7, none⟩) | 10 => x = .slice N ns.length cn | 11 => x = .int .i64 (ns.length : Int) | 15 => x = .slice (some ⟨g2, 0, none⟩) 3 3 | _ => True) (row := fun i => match i with | 3 => some (r1) | 4 => some ([3, f, t] ++ r1) | 7 => some (r2) | 8 => some (([3, f, t] ++ r1) ++ r2) | 12 => some (r3) | 13 => some ((([3, f, t] ++ r1) ++ r2) ++ r3) | 15 => some ([3, f, t]) | _ => none) (cons := fun i => match i with | 3 => 4 | 4 => 8 | 7 => 8 | 8 => 13 | 12 => 13 | 13 => 14 | 15 => 4 | _ => 0) (i := 4) (d := 15) (L := L) (v := v) trivial rfl rfl (by simp) ld hm.symm hg2 ho2 hx2)
      clear ho2 hg2 hx2 od
      go_wp2
      exact ⟨_, (by simp [upd, Act.put, h0, hs]; done), ST.out⟩
    | 5, _ =>
      refine wpOp_one rfl ?_
      clear hd htl hex
      go_wp2
      first | exact ⟨_, (by simp [upd]; done), RowStep.still rfl rfl⟩ | exact ⟨(by simp [upd]; done), RowStep.still rfl rfl⟩
    | 6, _ =>
      have l5 : L 5 = true := hd 5 (List.elem_iff.1 (by kernel_rfl))
      have h5 : v 5 = _ := hI.c 5 l5
      have q0 := hI.cell c4 HNE.out
      refine wpOp_one rfl ?_
      clear hd htl hex
      rw [h5]
      go_wp2
      first | exact ⟨_, (by simp [upd, h5]; done), RowStep.still rfl rfl⟩ | exact ⟨(by simp [upd, h5]; done), RowStep.still rfl rfl⟩
    | 7, _ =>
      have l6 : L 6 = true := hd 6 (List.elem_iff.1 (by kernel_rfl))
      have h6 : v 6 = _ := hI.c 6 l6
      refine wpOp_one rfl ?_
      clear hd htl hex
      rw [h6]
      go_wp2_with fail
      refine (NV2.out w').mono ?_
      rintro e w'' ⟨x, rfl, ho, bb⟩
      have ST := Lib.hid (fun (Lx : Nat → Bool) (vx : Nat → Value) => RowStep.made (C := fun i x => match i with | 0 => x = .slice (some ⟨g2, 0, none⟩) 3 3 | 1 => x = .pointer (some ⟨w.heap.size, 3, none⟩) | 2 => x = .int .i64 s | 5 => x = .pointer (some ⟨w.heap.size, 4, none⟩) | 6 => x = .int .i64 q | 9 => x = .pointer (some ⟨w.heap.size, 7, none⟩) | 10 => x = .slice N ns.length cn | 11 => x = .int .i64 (ns.length : Int) | 15 => x = .slice (some ⟨g2, 0, none⟩) 3 3 | _ => True) (row := fun i => match i with | 3 => some (r1) | 4 => some ([3, f, t] ++ r1) | 7 => some (r2) | 8 => some (([3, f, t] ++ r1) ++ r2) | 12 => some (r3) | 13 => some ((([3, f, t] ++ r1) ++ r2) ++ r3) | 15 => some ([3, f, t]) | _ => none) (cons := fun i => match i with | 3 => 4 | 4 => 8 | 7 => 8 | 8 => 13 | 12 => 13 | 13 => 14 | 15 => 4 | _ => 0) (i := 7) (L := Lx) (v := vx) trivial rfl bb hI.hbase ho)
      clear ho bb
      go_wp2
      exact ⟨_, (by simp [upd, h6]; done), ST.out _ _⟩
    | 8, _ =>
      have l4 : L 4 = true := hd 4 (List.elem_iff.1 (by kernel_rfl))
      have l7 : L 7 = true := hd 7 (List.elem_iff.1 (by kernel_rfl))
      have ld : L 4 = true := l4
      have od := hI.own 4 _ ld hun rfl
      have os := hI.own 7 _ l7 hun rfl
      obtain ⟨Ax, cx, hs, hsl, hsc, hsn, hsi⟩ := own_form os
      refine wpOp_one rfl ?_
      have hbs := hI.hbase
      clear hd htl hex os
      rw [hs]
      refine wpList_append_lies _ rfl _ _ 23 rfl g2 5 i0 (.int .u8 0) 1 1 Try.underlying23 hi0 hz0 hz1 hz2 rfl (by decide) _ ([3, f, t] ++ r1).length (bCells ([3, f, t] ++ r1)) rfl od Ax (r2).length cx hsn (bCells (r2)) rfl (by rw [bCells_length, Nat.mul_one]) hsi (bCells_one _) ?c3 ?c4 ?c5 ?_
      case c3 => rw [List.length_append]; show 3 + r1.length + r2.length ≤ 9223372036854775807; omega
      case c4 => rw [List.length_append]; show (3 + r1.length + r2.length) * 1 ≤ 140737488355328; omega
      case c5 => exact hbs
      intro v2 w2 ho2 hg2 hx2
      rw [← bCells_append, ← List.length_append] at ho2
      have ST := Lib.hid (RowStep.grown (C := fun i x => match i with | 0 => x = .slice (some ⟨g2, 0, none⟩) 3 3 | 1 => x = .pointer (some ⟨w.heap.size, 3, none⟩) | 2 => x = .int .i64 s | 5 => x = .pointer (some ⟨w.heap.size, 4, none⟩) | 6 => x = .int .i64 q | 9 => x = .pointer (some ⟨w.heap.size, 7, none⟩) | 10 => x = .slice N ns.length cn | 11 => x = .int .i64 (ns.length : Int) | 15 => x = .slice (some ⟨g2, 0, none⟩) 3 3 | _ => True) (row := fun i => match i with | 3 => some (r1) | 4 => some ([3, f, t] ++ r1) | 7 => some (r2) | 8 => some (([3, f, t] ++ r1) ++ r2) | 12 => some (r3) | 13 => some ((([3, f, t] ++ r1) ++ r2) ++ r3) | 15 => some ([3, f, t]) | _ => none) (cons := fun i => match i with | 3 => 4 | 4 => 8 | 7 => 8 | 8 => 13 | 12 => 13 | 13 => 14 | 15 => 4 | _ => 0) (i := 8) (d := 4) (L := L) (v := v) trivial rfl rfl (by simp) ld rfl hg2 ho2 hx2)
      clear ho2 hg2 hx2 od
      go_wp2
      exact ⟨_, (by simp [upd, Act.put, hs]; done), ST.out⟩
    | 9, _ =>
      refine wpOp_one rfl ?_
      clear hd htl hex
      go_wp2
      first | exact ⟨_, (by simp [upd]; done), RowStep.still rfl rfl⟩ | exact ⟨(by simp [upd]; done), RowStep.still rfl rfl⟩
    | 10, _ =>
      have l9 : L 9 = true := hd 9 (List.elem_iff.1 (by kernel_rfl))
      have h9 : v 9 = _ := hI.c 9 l9
      have q0 := hI.cell c7 HNE.out
      refine wpOp_one rfl ?_
      clear hd htl hex
      rw [h9]
      go_wp2
      first | exact ⟨_, (by simp [upd, h9]; done), RowStep.still rfl rfl⟩ | exact ⟨(by simp [upd, h9]; done), RowStep.still rfl rfl⟩
    | 11, _ =>
      have l10 : L 10 = true := hd 10 (List.elem_iff.1 (by kernel_rfl))
      have h10 : v 10 = _ := hI.c 10 l10
      refine wpOp_one rfl ?_
      clear hd htl hex
      rw [h10]
      go_wp2
      first | exact ⟨_, (by simp [upd, h10]; done), RowStep.still rfl rfl⟩ | exact ⟨(by simp [upd, h10]; done), RowStep.still rfl rfl⟩
    | 12, _ =>
      have l11 : L 11 = true := hd 11 (List.elem_iff.1 (by kernel_rfl))
      have h11 : v 11 = _ := hI.c 11 l11
      refine wpOp_one rfl ?_
      clear hd htl hex
      rw [h11]
      go_wp2_with fail
      refine (NV3.out w').mono ?_
      rintro e w'' ⟨x, rfl, ho, bb⟩
      have ST := Lib.hid (fun (Lx : Nat → Bool) (vx : Nat → Value) => RowStep.made (C := fun i x => match i with | 0 => x = .slice (some ⟨g2, 0, none⟩) 3 3 | 1 => x = .pointer (some ⟨w.heap.size, 3, none⟩) | 2 => x = .int .i64 s | 5 => x = .pointer (some ⟨w.heap.size, 4, none⟩) | 6 => x = .int .i64 q | 9 => x = .pointer (some ⟨w.heap.size, 7, none⟩) | 10 => x = .slice N ns.length cn | 11 => x = .int .i64 (ns.length : Int) | 15 => x = .slice (some ⟨g2, 0, none⟩) 3 3 | _ => True) (row := fun i => match i with | 3 => some (r1) | 4 => some ([3, f, t] ++ r1) | 7 => some (r2) | 8 => some (([3, f, t] ++ r1) ++ r2) | 12 => some (r3) | 13 => some ((([3, f, t] ++ r1) ++ r2) ++ r3) | 15 => some ([3, f, t]) | _ => none) (cons := fun i => match i with | 3 => 4 | 4 => 8 | 7 => 8 | 8 => 13 | 12 => 13 | 13 => 14 | 15 => 4 | _ => 0) (i := 12) (L := Lx) (v := vx) trivial rfl bb hI.hbase ho)
      clear ho bb
      go_wp2
      exact ⟨_, (by simp [upd, h11]; done), ST.out _ _⟩
    | 13, _ =>
      have l8 : L 8 = true := hd 8 (List.elem_iff.1 (by kernel_rfl))
      have l12 : L 12 = true := hd 12 (List.elem_iff.1 (by kernel_rfl))
      have ld : L 8 = true := l8
      have od := hI.own 8 _ ld hun rfl
      have os := hI.own 12 _ l12 hun rfl
      obtain ⟨Ax, cx, hs, hsl, hsc, hsn, hsi⟩ := own_form os
      refine wpOp_one rfl ?_
      have hbs := hI.hbase
      clear hd htl hex os
      rw [hs]
      refine wpList_append_lies _ rfl _ _ 23 rfl g2 5 i0 (.int .u8 0) 1 1 Try.underlying23 hi0 hz0 hz1 hz2 rfl (by decide) _ (([3, f, t] ++ r1) ++ r2).length (bCells (([3, f, t] ++ r1) ++ r2)) rfl od Ax (r3).length cx hsn (bCells (r3)) rfl (by rw [bCells_length, Nat.mul_one]) hsi (bCells_one _) ?c3 ?c4 ?c5 ?_
      case c3 => rw [List.length_append, List.length_append]; show 3 + r1.length + r2.length + r3.length ≤ 9223372036854775807; omega
      case c4 => rw [List.length_append, List.length_append]; show (3 + r1.length + r2.length + r3.length) * 1 ≤ 140737488355328; omega
      case c5 => exact hbs
      intro v2 w2 ho2 hg2 hx2
      rw [← bCells_append, ← List.length_append] at ho2
      have ST := Lib.hid (RowStep.grown (C := fun i x => match i with | 0 => x = .slice (some ⟨g2, 0, none⟩) 3 3 | 1 => x = .pointer (some ⟨w.heap.size, 3, none⟩) | 2 => x = .int .i64 s | 5 => x = .pointer (some ⟨w.heap.size, 4, none⟩) | 6 => x = .int .i64 q | 9 => x = .pointer (some ⟨w.heap.size, 7, none⟩) | 10 => x = .slice N ns.length cn | 11 => x = .int .i64 (ns.length : Int) | 15 => x = .slice (some ⟨g2, 0, none⟩) 3 3 | _ => True) (row := fun i => match i with | 3 => some (r1) | 4 => some ([3, f, t] ++ r1) | 7 => some (r2) | 8 => some (([3, f, t] ++ r1) ++ r2) | 12 => some (r3) | 13 => some ((([3, f, t] ++ r1) ++ r2) ++ r3) | 15 => some ([3, f, t]) | _ => none) (cons := fun i => match i with | 3 => 4 | 4 => 8 | 7 => 8 | 8 => 13 | 12 => 13 | 13 => 14 | 15 => 4 | _ => 0) (i := 13) (d := 8) (L := L) (v := v) trivial rfl rfl (by simp) ld rfl hg2 ho2 hx2)
      clear ho2 hg2 hx2 od
      go_wp2
      exact ⟨_, (by simp [upd, Act.put, hs]; done), ST.out⟩
    | k + 14, hk => exact absurd hk (by omega)
  case done =>
    intro L v w5 hI hall htl5 hex
    have o13 := hI.own 13 _ (hall 13 (by omega)) (htl5 14 (by omega) (by simp)) rfl
    have b5 := hI.rel
    have k5 : w5.heap[w.heap.size]? = W2.heap[w.heap.size]? := hI.keep w.heap.size (by omega) HNE.out
    have KX := Lib.hid (show Blk w5 w.heap.size 74 #[.int .i64 3, .int .i64 f, .int .i64 t, .int .i64 s, .int .i64 q, .slice I 0 ci, .slice V 0 cv, .slice N ns.length cn, .int .i64 0, .int .i64 0, .int .i64 0, .slice D 0 d] from k5.trans KB2.out)
    have hbz := hI.hbase
    obtain ⟨hd0, hhd⟩ : ∃ q, (([3, f, t] ++ r1) ++ r2) ++ r3 = q := ⟨_, rfl⟩
    have hdl : hd0.length ≤ 100 := by rw [← hhd]; simp only [List.length_append, List.length_cons, List.length_nil]; omega
    have hfin : [3, f, t] ++ (r1 ++ r2 ++ (r3 ++ ns.flatMap Wi.enote)) = ((([3, f, t] ++ r1) ++ r2) ++ r3) ++ ns.flatMap Wi.enote := by simp only [List.append_assoc]
    rw [hhd] at o13 hfin
    have HFIN := Lib.hid hfin
    have O13 := Lib.hid o13; have B5 := Lib.hid b5
    have hs5 := b5.size
    have hnlen := H.out.hn.len
    clear hhd hfin o13 b5 k5 hI hall htl5 hex c0 c3 c4 c5 c6 c7 c8 c9 c10 c11 q1 q2 q3 NV1 NV2 NV3 N1
    go_wp2_with fail
    go_loopw [4, 5] (fun s4 s5 wr => ∃ k : Nat, k ≤ ns.length ∧ s5 = .int .i64 (k : Int) ∧ wr.ownsRow g2 5 1 s4 (hd0 ++ (ns.take k).flatMap Wi.enote).length (bCells (hd0 ++ (ns.take k).flatMap Wi.enote)) ∧ Blk wr w.heap.size 74 #[.int .i64 3, .int .i64 f, .int .i64 t, .int .i64 s, .int .i64 q, .slice I 0 ci, .slice V 0 cv, .slice N ns.length cn, .int .i64 0, .int .i64 0, .int .i64 0, .slice D 0 d] ∧ Below g2 W2 wr) (fun _ s5 _ => ns.length - (intOf s5).toNat)
    case atStart => exact ⟨0, by omega, rfl, by simpa using O13.out, KX.out, B5.out⟩
    case round =>
      obtain ⟨k, hk, rfl, hown, hkb, hbw⟩ := hrel
      have x7 := hkb.cell (i := 7) rfl
      have KBX := Lib.hid hkb
      have hsz := hbw.size
      clear hkb KX O13 B5 hs5
      by_cases hkl : k < ns.length
      · have hd : decide ((k : Int) < (ns.length : Int)) = true := decide_eq_true (by omega)
        have hne : ns ≠ [] := fun e => by rw [e] at hkl; simp at hkl
        have bwr := LW.out wr hbw
        obtain ⟨b, off, hA, hcA⟩ := (H.out.hn.later bwr).lies hne
        obtain ⟨S, E, B, V1, cs, ce, cb, cv1, d0, d1, d2, d3, hNA⟩ := hcA k hkl
        have hmem : ns.getD k zeroN ∈ ns := by rw [List.getD_eq_getElem?_getD, List.getElem?_eq_getElem hkl]; exact List.getElem_mem hkl
        have hbk := HN.out _ hmem
        have hft := Q5.out k hkl
        have htl := Q4.out k
        have htl1 := Q4.out (k + 1)
        obtain ⟨x, hx⟩ : ∃ x, ns.getD k zeroN = x := ⟨_, rfl⟩
        rw [hx] at d0 d1 d2 d3 hNA hbk hft
        have z1 := hbk.s; have z2 := hbk.e; have z3 := hbk.b; have z4 := hbk.v
        have NN := Lib.hid (show Calls Try.prog 26 #[.agg #[.slice S x.s.length cs, .slice E x.e.length ce, .slice B x.b.length cb, .slice V1 x.ws.length cv1]] wr (GivesB (Wi.enote x) wr) from enote_any S E B V1 cs ce cb cv1 x wr (by omega) (by omega) (by omega) (by omega) hbk.fit hNA)
        rw [hft, List.length_append] at htl1
        have HFT := Lib.hid hft
        have hi1 : (0 : Int) ≤ (k : Int) := by omega
        have hi2 : (k : Int) < (ns.length : Int) := by omega
        subst hA
        obtain ⟨en, hen⟩ : ∃ en, Wi.enote x = en := ⟨_, rfl⟩
        rw [hen] at NN HFT htl1
        obtain ⟨pre, hpre⟩ : ∃ p, (ns.take k).flatMap Wi.enote = p := ⟨_, rfl⟩
        rw [hpre] at hown HFT htl htl1
        have OW := Lib.hid hown; have BW := Lib.hid hbw
        clear hcA hNA hbk hft hx hne hmem hen hpre hown hbw z1 z2 z3 z4
        go_wp2_with fail
        refine NN.out.mono ?_
        rintro e w6 ⟨u, rfl, hou, b6⟩
        obtain ⟨U, cu, rfl, hsl, hsc, hsn, hsi⟩ := own_form hou
        have o6 := own_later OW.out b6
        have hz6 : g2 ≤ w6.heap.size := by have := b6.size; omega
        have kb6 := KBX.out.later b6
        have kne : ∀ kb, u4.ownBlock = some kb → kb ≠ w.heap.size := fun kb hk' => by have := own_ge OW.out kb hk'; omega
        have KB6 := Lib.hid kb6; have KNE := Lib.hid kne
        have hwl := KB6.out.lt
        clear hou kb6 kne
        go_wp2_with (at_builtin; refine wpList_append_lies _ rfl _ _ 23 rfl g2 5 i0 (.int .u8 0) 1 1 Try.underlying23 hi0 hz0 hz1 hz2 rfl (by decide) _ (hd0 ++ pre).length (bCells (hd0 ++ pre)) rfl o6 U en.length cu hsn (bCells en) rfl (by rw [bCells_length, Nat.mul_one]) hsi (bCells_one _) ?c3 ?c4 ?c5 ?_)
        case c3 => rw [List.length_append]; unfold maxLen; omega
        case c4 => rw [List.length_append]; omega
        case c5 => exact hz6
        intro v7 w7 ho7 hg7 _
        have b7 := (BW.out.trans (b6.mono (by omega))).grown hg7 hz6 (fun k' hk' => own_ge o6 k' hk')
        have kb7 : Blk w7 w.heap.size 74 _ := (hg7.block w.heap.size hwl (fun e => KNE.out _ e.symm rfl)).trans KB6.out
        have hnew : hd0 ++ (ns.take (k + 1)).flatMap Wi.enote = (hd0 ++ pre) ++ en := by rw [HFT.out, List.append_assoc]
        have HO7 := Lib.hid (own_cast (r := (hd0 ++ pre) ++ en) ho7 (by simp only [List.length_append]) (by rw [← bCells_append])); have B7 := Lib.hid b7; have KB7 := Lib.hid kb7; have HNEW := Lib.hid hnew
        clear ho7 hg7 b7 o6 hsi kb7 hnew d0 d1 d2 d3 x7
        go_wp2_with fail
        go_roundw
        case rel => exact ⟨k + 1, by omega, by first | rfl | (congr 1; omega), by rw [HNEW.out]; exact HO7.out, KB7.out, B7.out⟩
        case measure => simp [intOf]; omega
      · obtain rfl : k = ns.length := by omega
        have hd : decide ((ns.length : Int) < (ns.length : Int)) = false := decide_eq_false (by omega)
        rw [List.take_of_length_le (Nat.le_refl _)] at hown
        have HOW := Lib.hid (own_base hown (show w.heap.size ≤ g2 by omega))
        have BF := Lib.hid (LW.out wr hbw)
        clear hown hbw
        go_wp2
        go_ret2
        exact ⟨_, rfl, by have h := HOW.out; rw [← HFIN.out] at h; exact h, BF.out⟩

set_option maxRecDepth 100000 in
set_option maxHeartbeats 12800000 in
theorem rencode_no (I V N D : Option Addr) (ci cv cn d : Nat) (m : Ms) (w : World) (h : MsAt w I V N D ci cv cn d m) (hfm : Wi.mfmd m = false) :
    Calls Try.prog 38 #[.agg (msCells I V N D ci cv cn d m)] w (GivesB2 [] 1 w) := by
  unfold msCells
  obtain ⟨W, hW⟩ : ∃ W, w.alloc (.cells #[.int .i64 m.k, .int .i64 m.f, .int .i64 m.t, .int .i64 m.s, .int .i64 m.q, .slice I m.it.length ci, .slice V m.vc.length cv, .slice N m.ns.length cn, .int .i64 m.bd.o, .int .i64 m.bd.c, .int .i64 m.bd.n, .slice D m.bd.v.length d] 74) = W := ⟨_, rfl⟩
  have hb0 : Below w.heap.size w W := by rw [← hW]; exact below_new (Below.refl _ _) _
  have N1 := mformed_any I V N D ci cv cn d m W (h.later hb0)
  rw [hfm] at N1
  unfold msCells at N1
  have N1 := Lib.hid N1
  have HW := Lib.hid hW; have HB0 := Lib.hid hb0
  clear hW hb0 h hfm
  go_enter Try.func38, Try.ntmps38
  go_wp2_with fail
  rw [HW.out]
  refine N1.out.mono ?_
  rintro e w1 ⟨rfl, b1⟩
  go_wp2
  go_ret2
  exact laid_none w _ (below_on HB0.out b1)

theorem emsg_here {m : Ms} {fn : FuncId} {args : Array Value} {w : World} (f0 : 0 ≤ m.f) (f1 : m.f ≤ 63) (t0 : 0 ≤ m.t) (t1 : m.t ≤ 63) (k0 : 0 ≤ m.k) (k1 : m.k < 128) (h : Calls Try.prog fn args w (GivesB2 ([m.k, m.f, m.t] ++ Wi.etail m) 0 w)) : Calls Try.prog fn args w (LaidB true (Wi.emsg m) w) := by
  have e : Wi.emsg m = [m.k, m.f, m.t] ++ Wi.etail m := by
    unfold Wi.emsg Wi.ehead
    rw [Wi.by_small k0 k1, Wi.by_small f0 (by omega), Wi.by_small t0 (by omega)]
    rfl
  rw [e]
  exact h
/-- A message's bytes, or the error where it isn't formed. -/
theorem rencode_any (I V N D : Option Addr) (ci cv cn d : Nat) (m : Ms) (w : World) (h : MsAt w I V N D ci cv cn d m) (hi : Wi.IntsM m) :
    Calls Try.prog 38 #[.agg (msCells I V N D ci cv cn d m)] w (LaidB (Wi.dmf m) (Wi.emsg m) w) := by
  cases hd : Wi.dmf m with
  | false => exact rencode_no I V N D ci cv cn d m w h (by rw [← Wi.dmf_mfmd]; exact hd)
  | true =>
    have hfm : Wi.mfmd m = true := by rw [← Wi.dmf_mfmd]; exact hd
    obtain ⟨hF, -⟩ := Wi.fit_msg hi hd
    obtain ⟨⟨⟨f0, f1⟩, ⟨t0, t1⟩⟩, hk⟩ := Wi.dmf_kinds hd
    rcases hk with ⟨f, t, s, it, vc, rfl, h1, h2, h3⟩ | ⟨f, t, rfl⟩ | ⟨f, t, s, q, ns, rfl, h1, h2, h3, h4⟩ | ⟨f, t, o, rfl, h1, h2⟩ | ⟨f, t, b, rfl, h1⟩
    · refine emsg_here f0 f1 t0 t1 (show (0 : Int) ≤ 1 by decide) (show (1 : Int) < 128 by decide) ?_
      exact rencode_1 I V N D ci cv cn d f t s it vc w h f0 f1 t0 t1 hF.s hF.it hF.vc (Wi.sp_short h2) (Wi.st_short h3) hfm
    · refine emsg_here f0 f1 t0 t1 (show (0 : Int) ≤ 2 by decide) (show (2 : Int) < 128 by decide) ?_
      exact rencode_2 I V N D ci cv cn d f t w h f0 f1 t0 t1 hfm
    · refine emsg_here f0 f1 t0 t1 (show (0 : Int) ≤ 3 by decide) (show (3 : Int) < 128 by decide) ?_
      exact rencode_3 I V N D ci cv cn d f t s q ns w h f0 f1 t0 t1 hF.s hF.q h3 (fun x hx => Wi.back_note (hi.ns x hx) (Wi.all_mem h4 x hx)) hfm
    · refine emsg_here f0 f1 t0 t1 (show (0 : Int) ≤ 4 by decide) (show (4 : Int) < 128 by decide) ?_
      exact rencode_4 I V N D ci cv cn d f t o w h f0 f1 t0 t1 hF.o hfm
    · refine emsg_here f0 f1 t0 t1 (show (0 : Int) ≤ 5 by decide) (show (5 : Int) < 128 by decide) ?_
      exact rencode_5 I V N D ci cv cn d f t b w h f0 f1 t0 t1 hF.o hF.c hF.n (Wi.fit_body hi.c h1).2.2.2 hfm

end Go.Proofs.Ytbbmngabbbehcaa
namespace Go.Proofs.Ytbbmngabbbehcaa
open Go.RowKit

/-- What wire's Encode answers of any message. -/
theorem denc_msg (I V N D : Option Addr) (ci cv cn d : Nat) (m : Ms) (w : World) (h : MsAt w I V N D ci cv cn d m) (hi : Wi.IntsM m) : Calls Try.prog 37 #[.agg (msCells I V N D ci cv cn d m)] w (LaidB (Wi.dmf m) (Wi.emsg m) w) :=
  denc_any I V N D ci cv cn d m w h (fun hd => Wi.fit_msg hi hd) (fun hd => by have := Wi.emsg_max hi hd; omega)
theorem laid_bytes {I V N D : Option Addr} {ci cv cn d : Nat} {m : Ms} {w : World} (h : MsAt w I V N D ci cv cn d m) (hi : Wi.IntsM m) : ∀ y ∈ (if Wi.dmf m then Wi.emsg m else []), isB y := by
  cases hd : Wi.dmf m with
  | true => exact fun y hy => Wi.emsg_byte hi hd h.hb.byte y hy
  | false => exact fun y hy => by cases hy

set_option maxRecDepth 100000 in
set_option maxHeartbeats 12800000 in
theorem lawWMsgs_any (I V N D : Option Addr) (ci cv cn d : Nat) (m : Ms) (w : World) (h : MsAt w I V N D ci cv cn d m) (hi : Wi.IntsM m) :
    Calls Try.prog 7 #[.agg #[.int .i64 m.k, .int .i64 m.f, .int .i64 m.t, .int .i64 m.s, .int .i64 m.q, .slice I m.it.length ci, .slice V m.vc.length cv, .slice N m.ns.length cn, .int .i64 m.bd.o, .int .i64 m.bd.c, .int .i64 m.bd.n, .slice D m.bd.v.length d]] w (Says (.bool true) w) := by
  have hl := laid_bytes h hi
  have ce := fun wx (hx : MsAt wx I V N D ci cv cn d m) => denc_msg I V N D ci cv cn d m wx hx hi
  have cr := fun wx (hx : MsAt wx I V N D ci cv cn d m) => rencode_any I V N D ci cv cn d m wx hx hi
  have cf := fun wx (hx : MsAt wx I V N D ci cv cn d m) => dmf_any I V N D ci cv cn d m wx hx
  have cg := fun wx (hx : MsAt wx I V N D ci cv cn d m) => mformed_any I V N D ci cv cn d m wx hx
  rw [← Wi.dmf_mfmd] at cg
  unfold LaidB at ce cr
  unfold msCells at ce cr cf cg
  obtain ⟨L, hL⟩ : ∃ L, (if Wi.dmf m then Wi.emsg m else []) = L := ⟨_, rfl⟩
  obtain ⟨er, her⟩ : ∃ er : Int, (if Wi.dmf m then 0 else 1) = er := ⟨_, rfl⟩
  rw [hL] at hl ce cr
  rw [her] at ce cr
  obtain ⟨f, hf⟩ : ∃ f, Wi.dmf m = f := ⟨_, rfl⟩
  rw [hf] at cf cg
  have CA := Lib.hid (fun wx => walive_any wx); have CE := Lib.hid ce; have CR := Lib.hid cr; have CF := Lib.hid cf; have CG := Lib.hid cg; have HL := Lib.hid hl; have H := Lib.hid h
  obtain ⟨W0, hW0⟩ : ∃ W0, w.alloc (.cells #[.int .i64 m.k, .int .i64 m.f, .int .i64 m.t, .int .i64 m.s, .int .i64 m.q, .slice I m.it.length ci, .slice V m.vc.length cv, .slice N m.ns.length cn, .int .i64 m.bd.o, .int .i64 m.bd.c, .int .i64 m.bd.n, .slice D m.bd.v.length d] 74) = W0 := ⟨_, rfl⟩
  have b00 : Below w.heap.size w W0 := by rw [← hW0]; exact below_new (Below.refl _ _) _
  have k00 : Blk W0 w.heap.size 74 #[.int .i64 m.k, .int .i64 m.f, .int .i64 m.t, .int .i64 m.s, .int .i64 m.q, .slice I m.it.length ci, .slice V m.vc.length cv, .slice N m.ns.length cn, .int .i64 m.bd.o, .int .i64 m.bd.c, .int .i64 m.bd.n, .slice D m.bd.v.length d] := by rw [← hW0]; exact Blk.new w _ _
  have HW0 := Lib.hid hW0; have B00 := Lib.hid b00; have K00 := Lib.hid k00
  clear hl ce cr cf cg hL her hf hi h hW0 b00 k00
  go_enter Try.func7, Try.ntmps7
  go_wp2_with fail
  rw [HW0.out]
  refine (CA.out W0).mono ?_
  rintro e w1 ⟨rfl, b1⟩
  have kN := K00.out.later b1; have c0 := kN.cell (i := 0) rfl; have c1 := kN.cell (i := 1) rfl; have c2 := kN.cell (i := 2) rfl; have c3 := kN.cell (i := 3) rfl; have c4 := kN.cell (i := 4) rfl; have c5 := kN.cell (i := 5) rfl; have c6 := kN.cell (i := 6) rfl; have c7 := kN.cell (i := 7) rfl; have c8 := kN.cell (i := 8) rfl; have c9 := kN.cell (i := 9) rfl; have c10 := kN.cell (i := 10) rfl; have c11 := kN.cell (i := 11) rfl
  clear kN
  go_wp2_with fail
  refine (CE.out w1 (H.out.later (below_on B00.out b1))).mono ?_
  rintro e w2 ⟨y, rfl, ho, b2⟩
  obtain ⟨Y, cy, rfl, hY⟩ := OneB.of_own ho HL.out
  have q2 := below_on b1 b2
  clear c0 c1 c2 c3 c4 c5 c6 c7 c8 c9 c10 c11 ho
  have kN := K00.out.later q2; have c0 := kN.cell (i := 0) rfl; have c1 := kN.cell (i := 1) rfl; have c2 := kN.cell (i := 2) rfl; have c3 := kN.cell (i := 3) rfl; have c4 := kN.cell (i := 4) rfl; have c5 := kN.cell (i := 5) rfl; have c6 := kN.cell (i := 6) rfl; have c7 := kN.cell (i := 7) rfl; have c8 := kN.cell (i := 8) rfl; have c9 := kN.cell (i := 9) rfl; have c10 := kN.cell (i := 10) rfl; have c11 := kN.cell (i := 11) rfl
  clear kN
  go_wp2_with fail
  refine (CR.out w2 (H.out.later (below_on B00.out q2))).mono ?_
  rintro e w3 ⟨z, rfl, ho, b3⟩
  obtain ⟨Z, cz, rfl, hZ⟩ := OneB.of_own ho HL.out
  have q3 := below_on q2 b3
  have bb3 := below_on B00.out q3
  clear c0 c1 c2 c3 c4 c5 c6 c7 c8 c9 c10 c11 ho
  have kN := K00.out.later q3; have c0 := kN.cell (i := 0) rfl; have c1 := kN.cell (i := 1) rfl; have c2 := kN.cell (i := 2) rfl; have c3 := kN.cell (i := 3) rfl; have c4 := kN.cell (i := 4) rfl; have c5 := kN.cell (i := 5) rfl; have c6 := kN.cell (i := 6) rfl; have c7 := kN.cell (i := 7) rfl; have c8 := kN.cell (i := 8) rfl; have c9 := kN.cell (i := 9) rfl; have c10 := kN.cell (i := 10) rfl; have c11 := kN.cell (i := 11) rfl
  have k0 := fun dd os => cell_regrown (d := dd) (os := os) c0
  have k1 := fun dd os => cell_regrown (d := dd) (os := os) c1
  have k2 := fun dd os => cell_regrown (d := dd) (os := os) c2
  have k3 := fun dd os => cell_regrown (d := dd) (os := os) c3
  have k4 := fun dd os => cell_regrown (d := dd) (os := os) c4
  have k5 := fun dd os => cell_regrown (d := dd) (os := os) c5
  have k6 := fun dd os => cell_regrown (d := dd) (os := os) c6
  have k7 := fun dd os => cell_regrown (d := dd) (os := os) c7
  have k8 := fun dd os => cell_regrown (d := dd) (os := os) c8
  have k9 := fun dd os => cell_regrown (d := dd) (os := os) c9
  have k10 := fun dd os => cell_regrown (d := dd) (os := os) c10
  have k11 := fun dd os => cell_regrown (d := dd) (os := os) c11
  have hs := fun dd os => Calls.regrown_of (bsame_any Y Z cy cz L L (Sort.grow (redrawn w3 dd) os) ((hY.later b3).later (below_regrown w3 dd os)) (hZ.later (below_regrown w3 dd os)))
  rw [decide_eq_true rfl] at hs
  have HS := Lib.hid hs
  have HF := Lib.hid (fun dd os => Calls.regrown_of (CF.out (Sort.grow (redrawn w3 dd) os) (H.out.later (below_on bb3 (below_regrown w3 dd os)))))
  have HG := Lib.hid (fun dd os => Calls.regrown_of (CG.out (Sort.grow (redrawn w3 dd) os) (H.out.later (below_on bb3 (below_regrown w3 dd os)))))
  clear kN c0 c1 c2 c3 c4 c5 c6 c7 c8 c9 c10 c11 hY hZ hs
  cases f with
  | true =>
    go_wp2_with fail
    refine wp_region_quiet_below (by kernel_rfl) (by kernel_rfl) ?_
    repeat (first | go_big_quiet_step (first | exact HS.out _ _ | exact HF.out _ _ | exact HG.out _ _) | quiet_step (first | exact HS.out _ _ | exact HF.out _ _ | exact HG.out _ _))
    refine wpQuiet_nil ?_
    intro _ hw'
    obtain ⟨⟨dq, osq⟩, hw''⟩ := hw'
    subst hw''
    go_wp2
    go_ret
    exact ⟨rfl, below_on bb3 (below_regrown w3 dq osq)⟩
  | false =>
    go_wp2_with fail
    refine wp_region_quiet_below (by kernel_rfl) (by kernel_rfl) ?_
    repeat (first | go_big_quiet_step (first | exact HS.out _ _ | exact HF.out _ _ | exact HG.out _ _) | quiet_step (first | exact HS.out _ _ | exact HF.out _ _ | exact HG.out _ _))
    refine wpQuiet_nil ?_
    intro _ hw'
    obtain ⟨⟨dq, osq⟩, hw''⟩ := hw'
    subst hw''
    go_wp2
    go_ret
    exact ⟨rfl, below_on bb3 (below_regrown w3 dq osq)⟩

end Go.Proofs.Ytbbmngabbbehcaa
namespace Go.Proofs.Ytbbmngabbbehcaa.wireMsgs
open Go.ChangeShapes Go.WideShapes Go.ChangeAt Go.RowKit

theorem own : ownKnob Try.prog.godebug = none := by kernel_rfl
theorem laidOut : laidOutB Try.prog = true := by kernel_rfl
theorem reads : ∀ t ∈ Try.f7.params.toList, Try.prog.readableRec t = true ∧ t < Try.prog.types.size := by
  intro t ht
  rw [Try.params7] at ht
  obtain rfl : t = 74 := by simpa using ht
  exact ⟨by kernel_rfl, of_decide_eq_true (by kernel_rfl)⟩

set_option maxRecDepth 100000 in
theorem lifted (os : Os) (started : os.Started) (H : Type) (enc : TypeId × Value → H) :
    ReturnsInHanded {} Try.checked os 7 .any (Rows.wireMsgsSpec.pre6 enc Try.prog Try.f7 Rows.wireMsgsRow.domain false) (Rows.wireMsgsSpec.post enc Try.prog Try.f7 false true false false) := by
  refine returnsInHanded_of_change (C := Try.checked) own started (by kernel_rfl) Try.func7
    (ChangeSpec.witness6 (enc := enc) (C := Try.checked) false ⟨#[], #[.agg #[.int .i64 0, .int .i64 0, .int .i64 0, .int .i64 0, .int .i64 0, .slice none 0 0, .slice none 0 0, .slice none 0 0, .int .i64 0, .int .i64 0, .int .i64 0, .slice none 0 0]], []⟩ 8 (by kernel_rfl) (by kernel_rfl) (by kernel_rfl) (by kernel_rfl)) ?_
  intro W base args ds gs before hval0 hW _ _
  have hval : ∀ (j : Nat) t v, Try.f7.params[j]? = some t → args[j]? = some v → Value.okWide Try.prog W .any base t v := hval0
  have hW' := hW
  obtain ⟨p, q, hA0, hV, rfl, hfz, hnd⟩ := hW
  have hA : DataW.TrodAll enc Try.prog W 0 (fun _ => true) true Try.f7.params.toList args.toList ds p := hA0
  rw [Try.params7] at hA hval
  obtain ⟨v0, vs0, d0, ds0, p0, q0, hargs, rfl, rfl, h0, r0⟩ := trodAll_cons hA
  obtain ⟨rfl, rfl, rfl⟩ := trodAll_nil r0
  obtain rfl : args = #[v0] := by cases args; simp_all
  obtain ⟨rfl, rfl⟩ := trodVars_none hV
  obtain ⟨I0, V0, N0, D0, ci0, cv0, cn0, cd0, m0, rfl, o0, g0⟩ := open_msg (hval 0 74 v0 rfl rfl) h0
  clear hA0 hval0
  refine (lawWMsgs_any I0 V0 N0 D0 ci0 cv0 cn0 cd0 m0 W o0 g0).mono fun e W' ⟨he, hg⟩ => ?_
  subst he
  exact ⟨_, rfl, law_post laidOut hW' rfl rfl (by kernel_rfl) Try.underlying4 reads hg⟩

theorem over : Rows.wireMsgsRow.holds Try.pinned (OpenSpec.ofChange Rows.wireMsgsSpec) :=
  OpenClaim.holds_of_wide 7 Try.f7 rfl rfl rfl rfl rfl rfl rfl ⟨rfl, rfl, rfl, rfl, rfl⟩ rfl rfl rfl rfl rfl (by kernel_rfl) Try.func7 (by kernel_rfl)
    (of_decide_eq_true (by kernel_rfl)) (by unfold Func.isWrapper; first | (rw [if_pos (by decide +kernel)]; kernel_rfl) | (rw [if_neg (by decide +kernel)]; exact ⟨rfl, rfl⟩))
    (fun os started H enc _ => lifted os started H enc)

/-- The statement. -/
theorem proved : Rows.WireMsgsSaid :=
  over

end Go.Proofs.Ytbbmngabbbehcaa.wireMsgs
