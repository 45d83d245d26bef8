/-
  What note's Through answers.
  note's functions but Merge answer as is asked of each.
  Plain mathematics of a stable sort of writes: elements bear their first place as a mark; a segment whose elements change places; what is sorted by object, newer stamp and mark. Nothing of the program is imported.
  What cmp.Or and the two closures of note's newest answer. A row of marked writes in memory.
-/
import Derived.Test.YtoaclofobfaflaaG20
import Derived.Test.YtoaclofobfaflaaG17
import Derived.Test.YtoaclofobfaflaaG14
namespace Go.Proofs.Ytoaclofobfaflaa
open Go.RowKit Fb

namespace Nt
/-- The blur as the program makes it. -/
def devL (n : Note) (it : List (Int × Int)) : List (Int × Int) := Sp.lessS (Sp.ofL (Sp.someOf (n.ws.map (·.2.2.1)))) it
theorem dev_blur (n : Note) (it : List (Int × Int)) : Sp.joinS [n.b, devL n it] = Sp.ofL (blurTo n it n.ws.length) := by
  unfold Sp.joinS
  refine Sp.ofL_ext fun o ho => ?_
  show (false || Sp.inL n.b o || Sp.inL (devL n it) o) = _
  unfold devL Sp.lessS blurTo
  rw [Sp.inL_ofL _ o ho, Sp.inL_ofL _ o ho, Bool.false_or, List.take_length]
  congr 1
  unfold Sp.someOf
  rw [List.any_map]
  cases Sp.inL it o with
  | true => simp
  | false => simp only [Bool.not_false, Bool.and_true]; rfl
theorem dev_kept {n : Note} (it : List (Int × Int)) (hf : fmd n = true) : (n.ws.filter fun x => !inOf (Sp.ofL (blurTo n it n.ws.length)) x.2.2.1) = keptTo n.ws it n.ws.length := by
  unfold keptTo
  rw [List.take_length]
  refine List.filter_congr fun x hx => ?_
  have hg := (fmd_parts hf).2 x hx
  cases hi : Sp.inL it x.2.2.1.toNat with
  | true => rw [inOf_blur hg hi]; rfl
  | false =>
    obtain ⟨_, ⟨h0, h1⟩, _⟩ := hg
    have : inOf (Sp.ofL (blurTo n it n.ws.length)) x.2.2.1 = true := by
      unfold inOf
      rw [decide_eq_true ⟨h0, h1⟩, Bool.true_and, Sp.inL_ofL _ _ (by omega)]
      unfold blurTo
      rw [List.take_length]
      have : (n.ws.any fun y => decide (y.2.2.1 = ((x.2.2.1.toNat : Nat) : Int)) && !Sp.inL it x.2.2.1.toNat) = true := List.any_eq_true.2 ⟨x, hx, by rw [hi]; simp; omega⟩
      rw [this, Bool.or_true]
    rw [this]
    rfl
end Nt

set_option maxRecDepth 100000 in
set_option maxHeartbeats 6400000 in
theorem dnthrough_any (S E B V I : Option Addr) (cs ce cb cv ci : Nat) (n : Note) (it : List (Int × Int)) (w : World) (hls : n.s.length * 16 ≤ 140737488355328) (hle : n.e.length * 16 ≤ 140737488355328) (hlw : n.ws.length * 32 ≤ 140737488355328) (h1 : NoteAt w S E B V cs ce cb cv n) (h2 : OneL w I ci it) :
    Calls Try.prog 25 #[.agg (noteCells S E B V cs ce cb cv n), .slice I it.length ci] w (AnsNE (Nt.through n it).1 (Nt.through n it).2 w) := by
  obtain ⟨W, hW⟩ : ∃ W, (w.alloc (.cells (noteCells S E B V cs ce cb cv n) 26)).alloc (.cells #[.slice none 0 0, .slice none 0 0, .slice none 0 0, .slice none 0 0] 26) = W := ⟨_, rfl⟩
  have hb0 : Below w.heap.size w W := by rw [← hW]; exact below_new (below_new (Below.refl _ _) _) _
  have hB0 : Blk W w.heap.size 26 (noteCells S E B V cs ce cb cv n) := by rw [← hW]; exact (Blk.new w _ _).alloc _
  have hB1 : Blk W (w.heap.size + 1) 26 #[.slice none 0 0, .slice none 0 0, .slice none 0 0, .slice none 0 0] := by
    rw [← hW, show w.heap.size + 1 = (w.alloc (.cells (noteCells S E B V cs ce cb cv n) 26)).heap.size from by simp]
    exact Blk.new _ _ _
  obtain ⟨c0, c1, c2, c3⟩ := note_cells hB0
  have g0 := c0
  have g1 := c1
  have g2 := c2
  have g3 := c3
  rw [← hW] at g0 g1 g2 g3
  have HN := Lib.hid (h1.later hb0)
  have HI := Lib.hid (h2.later hb0)
  have HB1 := Lib.hid hB1
  have N0 := Lib.hid (show Calls Try.prog 12 #[.agg #[.slice S n.s.length cs, .slice E n.e.length ce, .slice B n.b.length cb, .slice V n.ws.length cv]] W (Says (.bool (Nt.fmd n)) W) from dnformed_any S E B V cs ce cb cv n W (h1.later hb0))
  have HT := Lib.hid (show Nt.through n it = if Nt.fmd n = true then (⟨n.s, n.e, Sp.ofL (Nt.blurTo n it n.ws.length), Nt.keptTo n.ws it n.ws.length⟩, 0) else (noNote, 1) from rfl)
  have HF := Lib.hid (fun h : Nt.fmd n = true => And.intro (Nt.dev_kept it h) (Sp.good_len ((Sp.fmd_iff _).1 (Nt.fmd_parts h).1)))
  obtain ⟨x0, hx0⟩ : ∃ x, Nt.fmd n = x := ⟨_, rfl⟩
  rw [hx0] at N0 HT HF
  have HW := Lib.hid hW
  clear hW hB0 hB1 h1 h2 hx0
  cases x0 with
  | false =>
    have HT2 := Lib.hid (HT.out.trans (if_neg (by simp)))
    go_enter Try.func25, Try.ntmps25
    go_wp2_with fail
    rw [HW.out]
    refine N0.out.mono ?_
    rintro e w1 ⟨rfl, b1⟩
    have hq := HB1.out.later b1
    obtain ⟨⟨z0, z1, z2, z3⟩, r0, r1, r2, r3⟩ := nt_cells hq
    have HQ := Lib.hid hq
    clear hq
    go_wp2
    refine bodyPost_ret (results_cell_tmp (p := 4) (t1 := 5) (ty := 26) rfl _ _ (w.heap.size + 1) 26 (noteCells none none none none 0 0 0 0 noNote) _ rfl (nt_puts HQ.out none none none none 0 0 0 0 noNote) Try.underlying26 rfl infoNt) rfl ?_
    rw [HT2.out]
    exact ⟨_, _, _, _, _, _, _, _, rfl, noNote_at _, below_puts (below_on hb0 b1) (by omega) _ _ _ _⟩
  | true =>
  have HT2 := Lib.hid (HT.out.trans (if_pos rfl))
  obtain ⟨hkept, hblen⟩ := HF.out rfl
  have hjb := Nt.dev_blur n it
  rw [← hjb] at hkept HT2
  obtain ⟨R, hR⟩ : ∃ R, Sp.ofL (Sp.someOf (n.ws.map (·.2.2.1))) = R := ⟨_, rfl⟩
  obtain ⟨L, hL⟩ : ∃ L, Nt.devL n it = L := ⟨_, rfl⟩
  have hLR : Sp.lessS R it = L := by rw [← hR]; exact hL
  have hLlen : L.length ≤ 128 := by rw [← hL]; unfold Nt.devL Sp.lessS; exact Sp.ofL_len _
  rw [hL] at hkept HT2
  obtain ⟨J, hJ⟩ : ∃ J, Sp.joinS [n.b, L] = J := ⟨_, rfl⟩
  rw [hJ] at hkept HT2
  obtain ⟨K, hK⟩ : ∃ K, Nt.keptTo n.ws it n.ws.length = K := ⟨_, rfl⟩
  rw [hK] at hkept HT2
  have NR := Lib.hid (fun wx (hb : Below W.heap.size W wx) => (show Calls Try.prog 55 #[.slice V n.ws.length cv] wx (Ans R wx) from (written_any V cv n.ws wx (by omega) (HN.out.hv.later hb)).mono fun _ _ hg => by rw [hR] at hg; exact hg.one))
  have NL := Lib.hid (fun A c wx (hb : Below W.heap.size W wx) (ho : OneL wx A c R) => (show Calls Try.prog 54 #[.slice A R.length c, .slice I it.length ci] wx (Ans L wx) from (spless_any A I c ci R it wx ho (HI.out.later hb)).mono fun _ _ hg => by rw [hLR] at hg; exact hg.one))
  have NJ := Lib.hid (fun g wx (hb : Below W.heap.size W wx) (ho : Rows wx (some ⟨g, 0, none⟩) [n.b, L]) => (show Calls Try.prog 53 #[.slice (some ⟨g, 0, none⟩) 2 2] wx (Ans J wx) from (spjoin_any (some ⟨g, 0, none⟩) 2 [n.b, L] wx (by simp) (by rw [Sp.tot_two]; omega) ho).mono fun _ _ hg => by rw [hJ] at hg; exact hg.one))
  have NS := Lib.hid (fun wx (hb : Below W.heap.size W wx) => (cloneS_any S cs n.s wx hls (HN.out.hs.later hb)).mono fun _ _ hg => hg.one)
  have NE := Lib.hid (fun wx (hb : Below W.heap.size W wx) => (cloneS_any E ce n.e wx hle (HN.out.he.later hb)).mono fun _ _ hg => hg.one)
  have NK := Lib.hid (fun A c wx (hb : Below W.heap.size W wx) (ho : OneL wx A c J) => (show Calls Try.prog 56 #[.slice V n.ws.length cv, .slice A J.length c] wx (AnsW K wx) from by have q := outside_any V A cv c n.ws J wx hlw (HN.out.hv.later hb) ho; rw [hkept] at q; exact q))
  have HB := Lib.hid (fun wx (hb : Below W.heap.size W wx) => HN.out.hb.later hb)
  clear hR hL hLR hLlen hJ hK hkept hblen hjb HT HF
  go_enter Try.func25, Try.ntmps25
  go_wp2_with fail
  rw [HW.out]
  refine N0.out.mono ?_
  rintro e w1 ⟨rfl, b1⟩
  have d2 := cell_later b1 c2
  have d3 := cell_later b1 c3
  have NR1 := NR
  clear NR
  have NR := Lib.hid (fun wx (hb : Below w1.heap.size w1 wx) => NR1.out wx (below_on b1 hb))
  have NL1 := NL
  clear NL
  have NL := Lib.hid (fun A c wx (hb : Below w1.heap.size w1 wx) ho => NL1.out A c wx (below_on b1 hb) ho)
  have NJ1 := NJ
  clear NJ
  have NJ := Lib.hid (fun g wx (hb : Below w1.heap.size w1 wx) ho => NJ1.out g wx (below_on b1 hb) ho)
  have HBB := HB
  clear HB
  have HB := Lib.hid (fun wx (hb : Below w1.heap.size w1 wx) => HBB.out wx (below_on b1 hb))
  clear g0 g1 g2 g3
  go_wp2_with fail
  refine wp_region_facts 9 (by kernel_rfl) (by kernel_rfl)
    (fun v => { tmps := #[.agg (noteCells S E B V cs ce cb cv n), .slice I it.length ci, .pointer (some ⟨w.heap.size, 0, none⟩), undef, .pointer (some ⟨w.heap.size + 1, 0, none⟩), .int .i64 0, undef, .agg (noteCells S E B V cs ce cb cv n), .bool true, .bool false, undef, v 0, v 1, v 2, v 3, v 4, v 5, v 6, v 7, v 8, undef, undef, undef, undef, undef, undef, undef, undef, undef, undef, undef, undef], defers := [] }) (fun _ => undef)
    (fun i x wx => match i with
      | 0 => x = .pointer (some ⟨w.heap.size, 2, none⟩)
      | 1 => x = .slice B n.b.length cb
      | 2 => x = .pointer (some ⟨w.heap.size, 3, none⟩)
      | 3 => x = .slice V n.ws.length cv
      | 4 => ∃ A' c', x = .slice A' R.length c' ∧ OneL wx A' c' R
      | 5 => x = .slice I it.length ci
      | 6 => ∃ A' c', x = .slice A' L.length c' ∧ OneL wx A' c' L
      | 7 => ∃ g, x = .slice (some ⟨g, 0, none⟩) 2 2 ∧ Rows wx (some ⟨g, 0, none⟩) [n.b, L]
      | 8 => ∃ A' c', x = .slice A' J.length c' ∧ OneL wx A' c' J
      | _ => True)
    (fun w1 w2 => Below w1.heap.size w1 w2) (fun h1 h2 => below_on h1 h2) (fun _ => Below.refl _ _) (Below.drew (Below.refl _ _)) ?stab ?step ?done
  case stab =>
    rintro i x w1 w2 h hb
    match i, h with
    | 0, h => exact h
    | 1, h => exact h
    | 2, h => exact h
    | 3, h => exact h
    | 4, h => obtain ⟨A, c, h1, h2⟩ := h; exact ⟨A, c, h1, h2.later hb⟩
    | 5, h => exact h
    | 6, h => obtain ⟨A, c, h1, h2⟩ := h; exact ⟨A, c, h1, h2.later hb⟩
    | 7, h => obtain ⟨g, h1, h2⟩ := h; exact ⟨g, h1, h2.later hb⟩
    | 8, h => obtain ⟨A, c, h1, h2⟩ := h; exact ⟨A, c, h1, h2.later hb⟩
    | i + 9, _ => trivial
  case step =>
    intro i hi v w' hb hd
    match i, hi with
    | 0, _ =>
      refine wpOp_one rfl ?_
      clear hd
      go_wp2
      first | exact ⟨_, (by simp [upd]; done), Below.refl _ _, rfl⟩ | exact ⟨(by simp [upd]; done), Below.refl _ _⟩
    | 1, _ =>
      have h0 : v 0 = _ := hd 0 (List.elem_iff.1 (by kernel_rfl))
      refine wpOp_one rfl ?_
      clear hd
      rw [h0]
      have q0 := cell_later hb d2
      go_wp2
      first | exact ⟨_, (by simp [upd, h0]; done), Below.refl _ _, rfl⟩ | exact ⟨(by simp [upd, h0]; done), Below.refl _ _⟩
    | 2, _ =>
      refine wpOp_one rfl ?_
      clear hd
      go_wp2
      first | exact ⟨_, (by simp [upd]; done), Below.refl _ _, rfl⟩ | exact ⟨(by simp [upd]; done), Below.refl _ _⟩
    | 3, _ =>
      have h2 : v 2 = _ := hd 2 (List.elem_iff.1 (by kernel_rfl))
      refine wpOp_one rfl ?_
      clear hd
      rw [h2]
      have q0 := cell_later hb d3
      go_wp2
      first | exact ⟨_, (by simp [upd, h2]; done), Below.refl _ _, rfl⟩ | exact ⟨(by simp [upd, h2]; done), Below.refl _ _⟩
    | 4, _ =>
      have h3 : v 3 = _ := hd 3 (List.elem_iff.1 (by kernel_rfl))
      refine wpOp_one rfl ?_
      clear hd
      rw [h3]
      go_wp2_with fail
      refine (NR.out _ hb).mono ?_
      rintro e w'' hg
      obtain ⟨A, c, rfl, ho, b⟩ := hg
      go_wp2
      exact ⟨_, (by simp [upd, h3]; done), b, A, c, rfl, ho⟩
    | 5, _ =>
      refine wpOp_one rfl ?_
      clear hd
      go_wp2
      first | exact ⟨_, (by simp [upd]; done), Below.refl _ _, rfl⟩ | exact ⟨(by simp [upd]; done), Below.refl _ _⟩
    | 6, _ =>
      obtain ⟨A4, k4, h4, o4⟩ := hd 4 (List.elem_iff.1 (by kernel_rfl))
      have h5 : v 5 = _ := hd 5 (List.elem_iff.1 (by kernel_rfl))
      refine wpOp_one rfl ?_
      clear hd
      rw [h4, h5]
      go_wp2_with fail
      refine (NL.out A4 k4 _ hb o4).mono ?_
      rintro e w'' hg
      obtain ⟨A, c, rfl, ho, b⟩ := hg
      go_wp2
      exact ⟨_, (by simp [upd, h4, h5]; done), b, A, c, rfl, ho⟩
    | 7, _ =>
      have h1 : v 1 = _ := hd 1 (List.elem_iff.1 (by kernel_rfl))
      obtain ⟨A6, k6, h6, o6⟩ := hd 6 (List.elem_iff.1 (by kernel_rfl))
      refine wpOp_one rfl ?_
      clear hd
      rw [h1, h6]
      have hz := hb.size
      go_wp2
      exact ⟨_, (by simp [upd, h1, h6]; done), below_new (Below.refl _ _) _, w'.heap.size, rfl, rows_two (Blk.new w' _ _) ((HB.out _ hb).later (below_new (Below.refl _ _) _)) (o6.later (below_new (Below.refl _ _) _))⟩
    | 8, _ =>
      obtain ⟨g7, h7, o7⟩ := hd 7 (List.elem_iff.1 (by kernel_rfl))
      refine wpOp_one rfl ?_
      clear hd
      rw [h7]
      go_wp2_with fail
      refine (NJ.out g7 _ hb o7).mono ?_
      rintro e w'' hg
      obtain ⟨A, c, rfl, ho, b⟩ := hg
      go_wp2
      exact ⟨_, (by simp [upd, h7]; done), b, A, c, rfl, ho⟩
  case done =>
    intro v w2 hb hf
    have h0 : v 0 = _ := hf 0 (by omega)
    have h1 : v 1 = _ := hf 1 (by omega)
    have h2 : v 2 = _ := hf 2 (by omega)
    have h3 : v 3 = _ := hf 3 (by omega)
    obtain ⟨A4, k4, h4, -⟩ := hf 4 (by omega)
    have h5 : v 5 = _ := hf 5 (by omega)
    obtain ⟨A6, k6, h6, -⟩ := hf 6 (by omega)
    obtain ⟨g7, h7, -⟩ := hf 7 (by omega)
    obtain ⟨A8, k8, h8, o8⟩ := hf 8 (by omega)
    have bb2 := below_on b1 hb
    clear hf
    simp only [List.drop_succ_cons, List.drop_zero]
    rw [h0, h1, h2, h3, h4, h5, h6, h7, h8]
    clear h0 h1 h2 h3 h4 h5 h6 h7 h8
    have x0 := cell_later bb2 c0
    have x1 := cell_later bb2 c1
    have x3 := cell_later bb2 c3
    have O8 := Lib.hid o8
    have NS1 := NS
    clear NS
    have NS := Lib.hid (fun wx (hb : Below w2.heap.size w2 wx) => NS1.out wx (below_on bb2 hb))
    have NE1 := NE
    clear NE
    have NE := Lib.hid (fun wx (hb : Below w2.heap.size w2 wx) => NE1.out wx (below_on bb2 hb))
    have NK1 := NK
    clear NK
    have NK := Lib.hid (fun wx (hb : Below w2.heap.size w2 wx) => NK1.out A8 k8 wx (below_on bb2 hb) (O8.out.later hb))
    clear o8 d2 d3
    go_wp2_with fail
    refine wp_region_facts 11 (by kernel_rfl) (by kernel_rfl)
      (fun v => { tmps := #[.agg (noteCells S E B V cs ce cb cv n), .slice I it.length ci, .pointer (some ⟨w.heap.size, 0, none⟩), undef, .pointer (some ⟨w.heap.size + 1, 0, none⟩), .int .i64 0, .slice A8 J.length k8, .agg (noteCells S E B V cs ce cb cv n), .bool true, .bool false, undef, .pointer (some ⟨w.heap.size, 2, none⟩), .slice B n.b.length cb, .pointer (some ⟨w.heap.size, 3, none⟩), .slice V n.ws.length cv, .slice A4 R.length k4, .slice I it.length ci, .slice A6 L.length k6, .slice (some ⟨g7, 0, none⟩) 2 2, .slice A8 J.length k8, v 0, v 1, v 2, v 3, v 4, v 5, v 6, v 7, v 8, v 9, v 10, undef], defers := [] }) (fun _ => undef)
      (fun i x wx => match i with
        | 0 => x = .pointer (some ⟨w.heap.size, 0, none⟩)
        | 1 => x = .slice S n.s.length cs
        | 2 => ∃ A' c', x = .slice A' n.s.length c' ∧ OneL wx A' c' n.s
        | 3 => x = .pointer (some ⟨w.heap.size, 1, none⟩)
        | 4 => x = .slice E n.e.length ce
        | 5 => ∃ A' c', x = .slice A' n.e.length c' ∧ OneL wx A' c' n.e
        | 6 => x = .slice A8 J.length k8
        | 7 => x = .pointer (some ⟨w.heap.size, 3, none⟩)
        | 8 => x = .slice V n.ws.length cv
        | 9 => x = .slice A8 J.length k8
        | 10 => ∃ A' c', x = .slice A' K.length c' ∧ OneW wx A' c' K
        | _ => True)
      (fun w1 w2 => Below w1.heap.size w1 w2) (fun h1 h2 => below_on h1 h2) (fun _ => Below.refl _ _) (Below.drew (Below.refl _ _)) ?stab ?step ?done
    case stab =>
      rintro i x w1 w2 h hb
      match i, h with
      | 0, h => exact h
      | 1, h => exact h
      | 2, h => obtain ⟨A, c, h1, h2⟩ := h; exact ⟨A, c, h1, h2.later hb⟩
      | 3, h => exact h
      | 4, h => exact h
      | 5, h => obtain ⟨A, c, h1, h2⟩ := h; exact ⟨A, c, h1, h2.later hb⟩
      | 6, h => exact h
      | 7, h => exact h
      | 8, h => exact h
      | 9, h => exact h
      | 10, h => obtain ⟨A, c, h1, h2⟩ := h; exact ⟨A, c, h1, h2.later hb⟩
      | i + 11, _ => trivial
    case step =>
      intro i hi v w' hb hd
      match i, hi with
      | 0, _ =>
        refine wpOp_one rfl ?_
        clear hd
        go_wp2
        first | exact ⟨_, (by simp [upd]; done), Below.refl _ _, rfl⟩ | exact ⟨(by simp [upd]; done), Below.refl _ _⟩
      | 1, _ =>
        have h0 : v 0 = _ := hd 0 (List.elem_iff.1 (by kernel_rfl))
        refine wpOp_one rfl ?_
        clear hd
        rw [h0]
        have q0 := cell_later hb x0
        go_wp2
        first | exact ⟨_, (by simp [upd, h0]; done), Below.refl _ _, rfl⟩ | exact ⟨(by simp [upd, h0]; done), Below.refl _ _⟩
      | 2, _ =>
        have h1 : v 1 = _ := hd 1 (List.elem_iff.1 (by kernel_rfl))
        refine wpOp_one rfl ?_
        clear hd
        rw [h1]
        go_wp2_with fail
        refine (NS.out _ hb).mono ?_
        rintro e w'' hg
        obtain ⟨A, c, rfl, ho, b⟩ := hg
        go_wp2
        exact ⟨_, (by simp [upd, h1]; done), b, A, c, rfl, ho⟩
      | 3, _ =>
        refine wpOp_one rfl ?_
        clear hd
        go_wp2
        first | exact ⟨_, (by simp [upd]; done), Below.refl _ _, rfl⟩ | exact ⟨(by simp [upd]; done), Below.refl _ _⟩
      | 4, _ =>
        have h3 : v 3 = _ := hd 3 (List.elem_iff.1 (by kernel_rfl))
        refine wpOp_one rfl ?_
        clear hd
        rw [h3]
        have q0 := cell_later hb x1
        go_wp2
        first | exact ⟨_, (by simp [upd, h3]; done), Below.refl _ _, rfl⟩ | exact ⟨(by simp [upd, h3]; done), Below.refl _ _⟩
      | 5, _ =>
        have h4 : v 4 = _ := hd 4 (List.elem_iff.1 (by kernel_rfl))
        refine wpOp_one rfl ?_
        clear hd
        rw [h4]
        go_wp2_with fail
        refine (NE.out _ hb).mono ?_
        rintro e w'' hg
        obtain ⟨A, c, rfl, ho, b⟩ := hg
        go_wp2
        exact ⟨_, (by simp [upd, h4]; done), b, A, c, rfl, ho⟩
      | 6, _ =>
        refine wpOp_one rfl ?_
        clear hd
        go_wp2
        first | exact ⟨_, (by simp [upd]; done), Below.refl _ _, rfl⟩ | exact ⟨(by simp [upd]; done), Below.refl _ _⟩
      | 7, _ =>
        refine wpOp_one rfl ?_
        clear hd
        go_wp2
        first | exact ⟨_, (by simp [upd]; done), Below.refl _ _, rfl⟩ | exact ⟨(by simp [upd]; done), Below.refl _ _⟩
      | 8, _ =>
        have h7 : v 7 = _ := hd 7 (List.elem_iff.1 (by kernel_rfl))
        refine wpOp_one rfl ?_
        clear hd
        rw [h7]
        have q0 := cell_later hb x3
        go_wp2
        first | exact ⟨_, (by simp [upd, h7]; done), Below.refl _ _, rfl⟩ | exact ⟨(by simp [upd, h7]; done), Below.refl _ _⟩
      | 9, _ =>
        refine wpOp_one rfl ?_
        clear hd
        go_wp2
        first | exact ⟨_, (by simp [upd]; done), Below.refl _ _, rfl⟩ | exact ⟨(by simp [upd]; done), Below.refl _ _⟩
      | 10, _ =>
        have h8 : v 8 = _ := hd 8 (List.elem_iff.1 (by kernel_rfl))
        have h9 : v 9 = _ := hd 9 (List.elem_iff.1 (by kernel_rfl))
        refine wpOp_one rfl ?_
        clear hd
        rw [h8, h9]
        go_wp2_with fail
        refine (NK.out _ hb).mono ?_
        rintro e w'' hg
        obtain ⟨A, c, rfl, ho, b⟩ := hg
        go_wp2
        exact ⟨_, (by simp [upd, h8, h9]; done), b, A, c, rfl, ho⟩
    case done =>
      intro v w' hb2 hf
      obtain ⟨A2, k2, h2, o2⟩ := hf 2 (by omega)
      obtain ⟨A5, k5, h5, o5⟩ := hf 5 (by omega)
      have h6 : v 6 = _ := hf 6 (by omega)
      obtain ⟨A10, k10, h10, o10⟩ := hf 10 (by omega)
      have HO := Lib.hid (show NoteAt w' A2 A5 A8 A10 k2 k5 k8 k10 ⟨n.s, n.e, J, K⟩ from NoteAt.mk o2 o5 (O8.out.later hb2) o10)
      have hB := HB1.out.later (below_on bb2 hb2)
      have hbw := below_on hb0 (below_on bb2 hb2)
      clear o2 o5 o10 hf
      simp only [List.drop_succ_cons, List.drop_zero]
      rw [h2, h5, h6, h10]
      obtain ⟨⟨z0, z1, z2, z3⟩, r0, r1, r2, r3⟩ := nt_cells hB
      go_wp2
      have hN4 := HO.out.puts hB ⟨rfl, rfl, rfl, rfl⟩ (.slice A2 n.s.length k2) (.slice A5 n.e.length k5) (.slice A8 J.length k8) (.slice A10 K.length k10) ⟨rfl, rfl, rfl⟩
      refine bodyPost_ret (results_cell_tmp (p := 4) (t1 := 5) (ty := 26) rfl _ _ (w.heap.size + 1) 26 (noteCells A2 A5 A8 A10 k2 k5 k8 k10 ⟨n.s, n.e, J, K⟩) _ rfl (nt_puts hB A2 A5 A8 A10 k2 k5 k8 k10 ⟨n.s, n.e, J, K⟩) Try.underlying26 rfl infoNt) rfl ?_
      rw [HT2.out]
      exact ⟨_, _, _, _, _, _, _, _, rfl, hN4, below_puts hbw (by omega) _ _ _ _⟩

end Go.Proofs.Ytoaclofobfaflaa
namespace Go.Proofs.Ytoaclofobfaflaa
open Go.RowKit

theorem noteSpec : NoteSpec where
  formed S E B V cs ce cb cv n w h := dnformed_any S E B V cs ce cb cv n w h
  fits S E B V A cs ce cb cv c n l w h1 h2 := dnfits_any S E B V A cs ce cb cv c n l w h1 h2
  news S E B V A cs ce cb cv c n l w h1 h2 := dnnews_any S E B V A cs ce cb cv c n l w h1 h2
  of_ A c l y w hl h := dnof_any A c l y w hl h
  told S E B V cs ce cb cv n o w h := dntold_any S E B V cs ce cb cv n o w h
  through S E B V I cs ce cb cv ci n it w h1 h2 h3 h4 h5 := dnthrough_any S E B V I cs ce cb cv ci n it w h1 h2 h3 h4 h5

end Go.Proofs.Ytoaclofobfaflaa
namespace Go.Proofs.Ytoaclofobfaflaa
open Go.RowKit

/-- A write and the place that it had at first. -/
abbrev Tw := Wr × Nat
namespace So
def z0 : Tw := (Nt.zeroW, 0)
def g (T : List Tw) (i : Nat) : Tw := T.getD i z0
theorem g_eq {T : List Tw} {i : Nat} (h : i < T.length) : g T i = T[i] := by unfold g; rw [List.getD_eq_getElem?_getD, List.getElem?_eq_getElem h]; rfl
theorem g_get {T : List Tw} {i : Nat} (h : i < T.length) : T[i]? = some (g T i) := by rw [g_eq h, List.getElem?_eq_getElem h]
theorem g_set {T : List Tw} {i : Nat} (x : Tw) (h : i < T.length) (k : Nat) : g (T.set i x) k = if k = i then x else g T k := by
  unfold g
  rw [List.getD_eq_getElem?_getD, List.getD_eq_getElem?_getD]
  by_cases e : k = i
  · subst e
    rw [if_pos rfl, List.getElem?_set_self h]
    rfl
  · rw [if_neg e, List.getElem?_set_ne (Ne.symm e)]
/-- Two elements change places. -/
def sw (T : List Tw) (i j : Nat) : List Tw := (T.set i (g T j)).set j (g T i)
theorem sw_len (T : List Tw) (i j : Nat) : (sw T i j).length = T.length := by simp [sw]
theorem sw_g {T : List Tw} {i j : Nat} (hi : i < T.length) (hj : j < T.length) (k : Nat) : g (sw T i j) k = if k = j then g T i else if k = i then g T j else g T k := by
  unfold sw
  rw [g_set _ (by simpa using hj)]
  by_cases e : k = j
  · rw [if_pos e, if_pos e]
  · rw [if_neg e, if_neg e, g_set _ hi]

/-- How two writes stand: by the object, then the newer one ahead. -/
def cf (x y : Wr) : Int := if St.cmpI x.2.2.1 y.2.2.1 = 0 then St.cmpS y.1 y.2.1 x.1 x.2.1 else St.cmpI x.2.2.1 y.2.2.1
/-- The same, of the same object and stamp the one with the lesser mark. -/
def TL (x y : Tw) : Prop := x.1.2.2.1 < y.1.2.2.1 ∨ (x.1.2.2.1 = y.1.2.2.1 ∧ (y.1.1 < x.1.1 ∨ (x.1.1 = y.1.1 ∧ (y.1.2.1 < x.1.2.1 ∨ (x.1.2.1 = y.1.2.1 ∧ x.2 < y.2)))))
theorem TL.trans {x y z : Tw} (h : TL x y) (h' : TL y z) : TL x z := by unfold TL at *; omega
theorem cf_neg (x y : Wr) : cf x y < 0 ↔ (x.2.2.1 < y.2.2.1 ∨ (x.2.2.1 = y.2.2.1 ∧ (y.1 < x.1 ∨ (x.1 = y.1 ∧ y.2.1 < x.2.1)))) := by
  unfold cf St.cmpS St.cmpI
  (repeat' split) <;> omega
theorem tl_of_neg {x y : Tw} (h : cf x.1 y.1 < 0) : TL x y := by rw [cf_neg] at h; unfold TL; omega
theorem tl_of_not {x y : Tw} (h : ¬ cf y.1 x.1 < 0) (ht : x.2 < y.2) : TL x y := by rw [cf_neg] at h; unfold TL; omega

/-- Sorted from a on, below b. -/
def Srt (T : List Tw) (a b : Nat) : Prop := ∀ i j, a ≤ i → i < j → j < b → TL (g T i) (g T j)
/-- The marks rise. -/
def Up (T : List Tw) (a b : Nat) : Prop := ∀ i j, a ≤ i → i < j → j < b → (g T i).2 < (g T j).2
/-- Only from a on, below b, elements have changed places. -/
structure Seg (a b : Nat) (T T' : List Tw) : Prop where
  len : T'.length = T.length
  out : ∀ i, i < a ∨ b ≤ i → g T' i = g T i
  fwd : ∀ i, a ≤ i → i < b → ∃ j, a ≤ j ∧ j < b ∧ g T' i = g T j
  bwd : ∀ i, a ≤ i → i < b → ∃ j, a ≤ j ∧ j < b ∧ g T i = g T' j
theorem Seg.refl (a b : Nat) (T : List Tw) : Seg a b T T := ⟨rfl, fun _ _ => rfl, fun i h1 h2 => ⟨i, h1, h2, rfl⟩, fun i h1 h2 => ⟨i, h1, h2, rfl⟩⟩
theorem Seg.trans {a b : Nat} {T T' T'' : List Tw} (h : Seg a b T T') (h' : Seg a b T' T'') : Seg a b T T'' where
  len := h'.len.trans h.len
  out := fun i hi => (h'.out i hi).trans (h.out i hi)
  fwd := fun i h1 h2 => by
    obtain ⟨j, j1, j2, e⟩ := h'.fwd i h1 h2
    obtain ⟨k, k1, k2, e2⟩ := h.fwd j j1 j2
    exact ⟨k, k1, k2, e.trans e2⟩
  bwd := fun i h1 h2 => by
    obtain ⟨j, j1, j2, e⟩ := h.bwd i h1 h2
    obtain ⟨k, k1, k2, e2⟩ := h'.bwd j j1 j2
    exact ⟨k, k1, k2, e.trans e2⟩
theorem Seg.mono {a b c d : Nat} {T T' : List Tw} (h : Seg a b T T') (ha : c ≤ a) (hb : b ≤ d) : Seg c d T T' where
  len := h.len
  out := fun i hi => h.out i (by omega)
  fwd := fun i h1 h2 => by
    by_cases hin : a ≤ i ∧ i < b
    · obtain ⟨j, j1, j2, e⟩ := h.fwd i hin.1 hin.2
      exact ⟨j, by omega, by omega, e⟩
    · exact ⟨i, h1, h2, h.out i (by omega)⟩
  bwd := fun i h1 h2 => by
    by_cases hin : a ≤ i ∧ i < b
    · obtain ⟨j, j1, j2, e⟩ := h.bwd i hin.1 hin.2
      exact ⟨j, by omega, by omega, e⟩
    · exact ⟨i, h1, h2, (h.out i (by omega)).symm⟩
theorem Seg.swap {a b i j : Nat} {T : List Tw} (hi : a ≤ i) (hi2 : i < b) (hj : a ≤ j) (hj2 : j < b) (hb : b ≤ T.length) : Seg a b T (sw T i j) where
  len := sw_len T i j
  out := fun k hk => by rw [sw_g (by omega) (by omega), if_neg (by omega), if_neg (by omega)]
  fwd := fun k h1 h2 => by
    rw [sw_g (by omega) (by omega)]
    split
    · exact ⟨i, hi, hi2, rfl⟩
    · split
      · exact ⟨j, hj, hj2, rfl⟩
      · exact ⟨k, h1, h2, rfl⟩
  bwd := fun k h1 h2 => by
    by_cases e : k = i
    · subst e
      exact ⟨j, hj, hj2, by rw [sw_g (by omega) (by omega), if_pos rfl]⟩
    · by_cases e2 : k = j
      · subst e2
        refine ⟨i, hi, hi2, ?_⟩
        rw [sw_g (by omega) (by omega)]
        by_cases e3 : i = k
        · rw [if_pos e3, e3]
        · rw [if_neg e3, if_pos rfl]
      · exact ⟨k, h1, h2, by rw [sw_g (by omega) (by omega), if_neg e2, if_neg e]⟩
/-- What is said of all elements of a segment is said of them behind their change of places. -/
theorem Seg.all {a b : Nat} {T T' : List Tw} (h : Seg a b T T') {P : Tw → Prop} (hp : ∀ i, a ≤ i → i < b → P (g T i)) : ∀ i, a ≤ i → i < b → P (g T' i) := fun i h1 h2 => by
  obtain ⟨j, j1, j2, e⟩ := h.fwd i h1 h2
  rw [e]
  exact hp j j1 j2
/-- Another segment's order stays. -/
theorem Srt.far {a b c d : Nat} {T T' : List Tw} (h : Srt T c d) (hs : Seg a b T T') (hd : d ≤ a ∨ b ≤ c) : Srt T' c d := fun i j h1 h2 h3 => by
  rw [hs.out i (by omega), hs.out j (by omega)]
  exact h i j h1 h2 h3
theorem Srt.sub {a b c d : Nat} {T : List Tw} (h : Srt T a b) (hc : a ≤ c) (hd : d ≤ b) : Srt T c d := fun i j h1 h2 h3 => h i j (by omega) h2 (by omega)
theorem Srt.glue {a m b : Nat} {T : List Tw} (h1 : Srt T a m) (h2 : Srt T m b) (h : ∀ i j, a ≤ i → i < m → m ≤ j → j < b → TL (g T i) (g T j)) : Srt T a b := fun i j hi hij hj => by
  by_cases e1 : j < m
  · exact h1 i j hi hij e1
  · by_cases e2 : m ≤ i
    · exact h2 i j e2 hij hj
    · exact h i j hi (by omega) (by omega) hj

/-! ### The insertion sort -/
/-- The element at place j is on its way to the left; but for it all is sorted below i + 1. -/
structure Ins (a i j : Nat) (T : List Tw) : Prop where
  rest : ∀ p q, a ≤ p → p < q → q ≤ i → p ≠ j → q ≠ j → TL (g T p) (g T q)
  right : ∀ q, j < q → q ≤ i → TL (g T j) (g T q)
  marks : ∀ p, a ≤ p → p < j → (g T p).2 < (g T j).2
theorem Ins.start {a i : Nat} {T : List Tw} (hs : Srt T a i) (hm : ∀ p, a ≤ p → p < i → (g T p).2 < (g T i).2) : Ins a i i T := ⟨fun p q h1 h2 h3 h4 h5 => hs p q h1 h2 (by omega), fun q h1 h2 => by omega, hm⟩
theorem Ins.stop {a i j : Nat} {T : List Tw} (h : Ins a i j T) (hja : a ≤ j) (hji : j ≤ i) (hs : j = a ∨ TL (g T (j - 1)) (g T j)) : Srt T a (i + 1) := fun p q h1 h2 h3 => by
  by_cases e1 : p = j
  · subst e1; exact h.right q h2 (by omega)
  · by_cases e2 : q = j
    · subst e2
      rcases hs with hs | hs
      · omega
      · by_cases e3 : p = q - 1
        · rw [e3]; exact hs
        · exact (h.rest p (q - 1) h1 (by omega) (by omega) (by omega) (by omega)).trans hs
    · exact h.rest p q h1 h2 (by omega) e1 e2
theorem Ins.step {a i j : Nat} {T : List Tw} (h : Ins a i (j + 1) T) (hja : a ≤ j) (hji : j + 1 ≤ i) (hil : i < T.length) (ht : TL (g T (j + 1)) (g T j)) : Ins a i j (sw T (j + 1) j) where
  rest := fun p q h1 h2 h3 h4 h5 => by
    rw [sw_g (by omega) (by omega), sw_g (by omega) (by omega), if_neg h4, if_neg h5]
    by_cases e1 : p = j + 1
    · subst e1
      rw [if_pos rfl, if_neg (by omega)]
      exact h.rest j q hja (by omega) h3 (by omega) (by omega)
    · rw [if_neg e1]
      by_cases e2 : q = j + 1
      · subst e2
        rw [if_pos rfl]
        exact h.rest p j h1 (by omega) (by omega) (by omega) (by omega)
      · rw [if_neg e2]
        exact h.rest p q h1 h2 h3 e1 e2
  right := fun q h1 h2 => by
    rw [sw_g (by omega) (by omega), if_pos rfl, sw_g (by omega) (by omega), if_neg (by omega)]
    by_cases e : q = j + 1
    · rw [if_pos e]; exact ht
    · rw [if_neg e]; exact h.right q (by omega) h2
  marks := fun p h1 h2 => by
    rw [sw_g (by omega) (by omega), if_neg (by omega), if_neg (by omega), sw_g (by omega) (by omega), if_pos rfl]
    exact h.marks p h1 (by omega)
theorem Ins.less {a i j : Nat} {T : List Tw} (h : Ins a i (j + 1) T) (hja : a ≤ j) : (cf (g T (j + 1)).1 (g T j).1 < 0 → TL (g T (j + 1)) (g T j)) ∧ (¬ cf (g T (j + 1)).1 (g T j).1 < 0 → TL (g T j) (g T (j + 1))) :=
  ⟨fun hc => tl_of_neg hc, fun hc => tl_of_not hc (h.marks j hja (by omega))⟩
end So

end Go.Proofs.Ytoaclofobfaflaa
namespace Go.Proofs.Ytoaclofobfaflaa
open Go.RowKit Fb

set_option maxHeartbeats 1600000 in
theorem or_any (g : Nat) (a c : Int) (w : World) (hB : Blk w g 3 #[.int .i64 a, .int .i64 c]) :
    Calls Try.prog 87 #[.slice (some ⟨g, 0, none⟩) 2 2] w (Says (.int .i64 (if a = 0 then c else a)) w) := by
  have c0 := hB.cell (i := 0) rfl
  have c1 := hB.cell (i := 1) rfl
  by_cases h : a = 0
  · subst h
    rw [if_pos rfl]
    by_cases h2 : c = 0
    · subst h2
      go_enter Try.func87, Try.ntmps87
      go_wp2_with fail
      refine wp_loop_rounds 3 ?_
      rw [rounds_succ]
      go_wp2
      rw [rounds_succ]
      go_wp2
      rw [rounds_succ]
      go_wp2
      go_ret
      exact ⟨rfl, Below.refl _ _⟩
    · have d : (c == 0) = false := beq_eq_false_iff_ne.2 h2
      have d' : (c != 0) = true := by rw [bne, d]; rfl
      go_enter Try.func87, Try.ntmps87
      go_wp2_with fail
      refine wp_loop_rounds 2 ?_
      rw [rounds_succ]
      go_wp2
      rw [rounds_succ]
      go_wp2
      go_ret
      exact ⟨rfl, Below.refl _ _⟩
  · rw [if_neg h]
    have d : (a == 0) = false := beq_eq_false_iff_ne.2 h
    have d' : (a != 0) = true := by rw [bne, d]; rfl
    go_enter Try.func87, Try.ntmps87
    go_wp2_with fail
    refine wp_loop_rounds 1 ?_
    rw [rounds_succ]
    go_wp2
    go_ret
    exact ⟨rfl, Below.refl _ _⟩

set_option maxRecDepth 100000 in
set_option maxHeartbeats 3200000 in
theorem newest1_any (x y : Wr) (w : World) :
    Calls Try.prog 86 #[.agg #[.int .i64 x.1, .int .i64 x.2.1, .int .i64 x.2.2.1, .bool x.2.2.2], .agg #[.int .i64 y.1, .int .i64 y.2.1, .int .i64 y.2.2.1, .bool y.2.2.2]] w (Says (.int .i64 (So.cf x y)) w) := by
  obtain ⟨x1, x2, x3, x4⟩ := x
  obtain ⟨y1, y2, y3, y4⟩ := y
  obtain ⟨W, hW⟩ : ∃ W, (w.alloc (.cells #[.int .i64 x1, .int .i64 x2, .int .i64 x3, .bool x4] 35)).alloc (.cells #[.int .i64 y1, .int .i64 y2, .int .i64 y3, .bool y4] 35) = W := ⟨_, rfl⟩
  have hb0 : Below w.heap.size w W := by rw [← hW]; exact below_new (below_new (Below.refl _ _) _) _
  have hB0 : Blk W w.heap.size 35 #[.int .i64 x1, .int .i64 x2, .int .i64 x3, .bool x4] := by rw [← hW]; exact (Blk.new w _ _).alloc _
  have hB1 : Blk W (w.heap.size + 1) 35 #[.int .i64 y1, .int .i64 y2, .int .i64 y3, .bool y4] := by
    rw [← hW, show w.heap.size + 1 = (w.alloc (.cells #[.int .i64 x1, .int .i64 x2, .int .i64 x3, .bool x4] 35)).heap.size from by simp]
    exact Blk.new _ _ _
  have k0 := hB0.cell (i := 0) rfl
  have k1 := hB0.cell (i := 1) rfl
  have k2 := hB0.cell (i := 2) rfl
  have m0 := hB1.cell (i := 0) rfl
  have m1 := hB1.cell (i := 1) rfl
  have m2 := hB1.cell (i := 2) rfl
  obtain ⟨co, hco⟩ : ∃ c, St.cmpI x3 y3 = c := ⟨_, rfl⟩
  obtain ⟨cs, hcs⟩ : ∃ c, St.cmpS y1 y2 x1 x2 = c := ⟨_, rfl⟩
  obtain ⟨r, hr⟩ : ∃ r, (if co = 0 then cs else co) = r := ⟨_, rfl⟩
  have HR := Lib.hid (show So.cf (x1, x2, x3, x4) (y1, y2, y3, y4) = r from by rw [← hr, ← hco, ← hcs]; rfl)
  have CO := Lib.hid (fun wx => (show Calls Try.prog 88 #[.int .i64 x3, .int .i64 y3] wx (Says (.int .i64 co) wx) from (cmp_any x3 y3 wx).mono fun _ _ h => by rw [hco] at h; exact ⟨h.1, h.2 ▸ Below.refl _ _⟩))
  have CS := Lib.hid (fun wx => (show Calls Try.prog 89 #[.agg #[.int .i64 y1, .int .i64 y2], .agg #[.int .i64 x1, .int .i64 x2]] wx (Says (.int .i64 cs) wx) from (compare_any y1 y2 x1 x2 wx).mono fun _ _ h => by rw [hcs] at h; exact h))
  have CR := Lib.hid (fun g wx (hB : Blk wx g 3 #[.int .i64 co, .int .i64 cs]) => (show Calls Try.prog 87 #[.slice (some ⟨g, 0, none⟩) 2 2] wx (Says (.int .i64 r) wx) from by have q := or_any g co cs wx hB; rw [hr] at q; exact q))
  have HW := Lib.hid hW
  clear hW hB0 hB1 hco hcs hr
  go_enter Try.func86, Try.ntmps86
  go_wp2_with fail
  rw [HW.out]
  refine wp_region_facts 12 (by kernel_rfl) (by kernel_rfl)
    (fun v => { tmps := #[.agg #[.int .i64 x1, .int .i64 x2, .int .i64 x3, .bool x4], .agg #[.int .i64 y1, .int .i64 y2, .int .i64 y3, .bool y4], .pointer (some ⟨w.heap.size, 0, none⟩), .pointer (some ⟨w.heap.size + 1, 0, none⟩), .int .i64 0, v 0, v 1, v 2, v 3, v 4, v 5, v 6, v 7, v 8, v 9, v 10, v 11], defers := [] }) (fun _ => undef)
    (fun i x wx => match i with
      | 0 => x = .pointer (some ⟨w.heap.size, 2, none⟩)
      | 1 => x = .int .i64 x3
      | 2 => x = .pointer (some ⟨w.heap.size + 1, 2, none⟩)
      | 3 => x = .int .i64 y3
      | 4 => x = .int .i64 co
      | 5 => x = .pointer (some ⟨w.heap.size + 1, 0, none⟩)
      | 6 => x = .agg #[.int .i64 y1, .int .i64 y2]
      | 7 => x = .pointer (some ⟨w.heap.size, 0, none⟩)
      | 8 => x = .agg #[.int .i64 x1, .int .i64 x2]
      | 9 => x = .int .i64 cs
      | 10 => ∃ g, x = .slice (some ⟨g, 0, none⟩) 2 2 ∧ Blk wx g 3 #[.int .i64 co, .int .i64 cs]
      | 11 => x = .int .i64 r
      | _ => True)
    (fun w1 w2 => Below w1.heap.size w1 w2) (fun h1 h2 => below_on h1 h2) (fun _ => Below.refl _ _) (Below.drew (Below.refl _ _)) ?stab ?step ?done
  case stab =>
    rintro i x w1 w2 h hb
    match i, h with
    | 0, h => exact h
    | 1, h => exact h
    | 2, h => exact h
    | 3, h => exact h
    | 4, h => exact h
    | 5, h => exact h
    | 6, h => exact h
    | 7, h => exact h
    | 8, h => exact h
    | 9, h => exact h
    | 10, h => obtain ⟨g, h1, h2⟩ := h; exact ⟨g, h1, h2.later hb⟩
    | 11, h => exact h
    | i + 12, _ => trivial
  case step =>
    intro i hi v w' hb hd
    match i, hi with
    | 0, _ =>
      refine wpOp_one rfl ?_
      clear hd
      go_wp2
      first | exact ⟨_, (by simp [upd]; done), Below.refl _ _, rfl⟩ | exact ⟨(by simp [upd]; done), Below.refl _ _⟩
    | 1, _ =>
      have h0 : v 0 = _ := hd 0 (List.elem_iff.1 (by kernel_rfl))
      refine wpOp_one rfl ?_
      clear hd
      rw [h0]
      have q0 := cell_later hb k2
      go_wp2
      first | exact ⟨_, (by simp [upd, h0]; done), Below.refl _ _, rfl⟩ | exact ⟨(by simp [upd, h0]; done), Below.refl _ _⟩
    | 2, _ =>
      refine wpOp_one rfl ?_
      clear hd
      go_wp2
      first | exact ⟨_, (by simp [upd]; done), Below.refl _ _, rfl⟩ | exact ⟨(by simp [upd]; done), Below.refl _ _⟩
    | 3, _ =>
      have h2 : v 2 = _ := hd 2 (List.elem_iff.1 (by kernel_rfl))
      refine wpOp_one rfl ?_
      clear hd
      rw [h2]
      have q0 := cell_later hb m2
      go_wp2
      first | exact ⟨_, (by simp [upd, h2]; done), Below.refl _ _, rfl⟩ | exact ⟨(by simp [upd, h2]; done), Below.refl _ _⟩
    | 4, _ =>
      have h1 : v 1 = _ := hd 1 (List.elem_iff.1 (by kernel_rfl))
      have h3 : v 3 = _ := hd 3 (List.elem_iff.1 (by kernel_rfl))
      refine wpOp_one rfl ?_
      clear hd
      rw [h1, h3]
      go_wp2_with fail
      refine (CO.out _).mono ?_
      rintro e w'' ⟨rfl, b⟩
      go_wp2
      first | exact ⟨_, (by simp [upd, h1, h3]; done), b, rfl⟩ | exact ⟨(by simp [upd, h1, h3]; done), b⟩
    | 5, _ =>
      refine wpOp_one rfl ?_
      clear hd
      go_wp2
      first | exact ⟨_, (by simp [upd]; done), Below.refl _ _, rfl⟩ | exact ⟨(by simp [upd]; done), Below.refl _ _⟩
    | 6, _ =>
      have h5 : v 5 = _ := hd 5 (List.elem_iff.1 (by kernel_rfl))
      refine wpOp_one rfl ?_
      clear hd
      rw [h5]
      have q0 := cell_later hb m0
      have q1 := cell_later hb m1
      go_wp2
      first | exact ⟨_, (by simp [upd, h5]; done), Below.refl _ _, rfl⟩ | exact ⟨(by simp [upd, h5]; done), Below.refl _ _⟩
    | 7, _ =>
      refine wpOp_one rfl ?_
      clear hd
      go_wp2
      first | exact ⟨_, (by simp [upd]; done), Below.refl _ _, rfl⟩ | exact ⟨(by simp [upd]; done), Below.refl _ _⟩
    | 8, _ =>
      have h7 : v 7 = _ := hd 7 (List.elem_iff.1 (by kernel_rfl))
      refine wpOp_one rfl ?_
      clear hd
      rw [h7]
      have q0 := cell_later hb k0
      have q1 := cell_later hb k1
      go_wp2
      first | exact ⟨_, (by simp [upd, h7]; done), Below.refl _ _, rfl⟩ | exact ⟨(by simp [upd, h7]; done), Below.refl _ _⟩
    | 9, _ =>
      have h6 : v 6 = _ := hd 6 (List.elem_iff.1 (by kernel_rfl))
      have h8 : v 8 = _ := hd 8 (List.elem_iff.1 (by kernel_rfl))
      refine wpOp_one rfl ?_
      clear hd
      rw [h6, h8]
      go_wp2_with fail
      refine (CS.out _).mono ?_
      rintro e w'' ⟨rfl, b⟩
      go_wp2
      first | exact ⟨_, (by simp [upd, h6, h8]; done), b, rfl⟩ | exact ⟨(by simp [upd, h6, h8]; done), b⟩
    | 10, _ =>
      have h4 : v 4 = _ := hd 4 (List.elem_iff.1 (by kernel_rfl))
      have h9 : v 9 = _ := hd 9 (List.elem_iff.1 (by kernel_rfl))
      refine wpOp_one rfl ?_
      clear hd
      rw [h4, h9]
      have hz := hb.size
      go_wp2
      exact ⟨_, (by simp [upd, h4, h9]; done), below_new (Below.refl _ _) _, w'.heap.size, rfl, Blk.new w' _ _⟩
    | 11, _ =>
      obtain ⟨g10, h10, o10⟩ := hd 10 (List.elem_iff.1 (by kernel_rfl))
      refine wpOp_one rfl ?_
      clear hd
      rw [h10]
      go_wp2_with fail
      refine (CR.out g10 _ o10).mono ?_
      rintro e w'' ⟨rfl, b⟩
      go_wp2
      first | exact ⟨_, (by simp [upd, h10]; done), b, rfl⟩ | exact ⟨(by simp [upd, h10]; done), b⟩
    | k + 12, hk => exact absurd hk (by omega)
  case done =>
    intro v w' hb hf
    have h11 : v 11 = _ := hf 11 (by omega)
    clear hf
    simp only [List.drop_succ_cons, List.drop_zero]
    rw [h11]
    go_wp2
    go_ret
    exact ⟨by rw [HR.out]; rfl, below_on hb0 hb⟩

set_option maxHeartbeats 800000 in
theorem newest2_any (x y : Wr) (w : World) :
    Calls Try.prog 91 #[.agg #[.int .i64 x.1, .int .i64 x.2.1, .int .i64 x.2.2.1, .bool x.2.2.2], .agg #[.int .i64 y.1, .int .i64 y.2.1, .int .i64 y.2.2.1, .bool y.2.2.2]] w (Says (.bool (x.2.2.1 == y.2.2.1)) w) := by
  obtain ⟨x1, x2, x3, x4⟩ := x
  obtain ⟨y1, y2, y3, y4⟩ := y
  have hb0 : Below w.heap.size w ((w.alloc (.cells #[.int .i64 x1, .int .i64 x2, .int .i64 x3, .bool x4] 35)).alloc (.cells #[.int .i64 y1, .int .i64 y2, .int .i64 y3, .bool y4] 35)) := below_new (below_new (Below.refl _ _) _) _
  go_enter Try.func91, Try.ntmps91
  go_wp2
  go_ret
  exact ⟨rfl, hb0⟩

namespace So
/-- The row of writes, without their marks. -/
def row (T : List Tw) : List Wr := T.map (·.1)
theorem row_len (T : List Tw) : (row T).length = T.length := List.length_map _
theorem row_get {T : List Tw} {i : Nat} (h : i < T.length) : (row T)[i]? = some (g T i).1 := by unfold row; rw [List.getElem?_map, g_get h]; rfl
theorem row_set (T : List Tw) (i : Nat) (x : Tw) : (row T).set i x.1 = row (T.set i x) := by unfold row; rw [List.map_set]
end So
/-- A row of writes of one's own; older memory is as it was. -/
structure RowIs (wb : World) (b off : Nat) (T : List Tw) (w : World) : Prop where
  lay : Lay w b off (Nt.wrCells (So.row T))
  lt : b < w.heap.size
  own : wb.heap.size ≤ b
  below : Below wb.heap.size wb w
section
variable {wb w w' : World} {b off : Nat} {T : List Tw}
theorem RowIs.later (h : RowIs wb b off T w) (hb : Below w.heap.size w w') : RowIs wb b off T w' := ⟨h.lay.later h.lt hb, Nat.lt_of_lt_of_le h.lt hb.size, h.own, below_on h.below hb⟩
theorem RowIs.drew (h : RowIs wb b off T w) : RowIs wb b off T w.drew := ⟨h.lay, h.lt, h.own, h.below.drew⟩
theorem RowIs.cells (h : RowIs wb b off T w) {i : Nat} (hi : i < T.length) :
    (w.cell? ⟨b, off + i * 4, none⟩ = some (.int .i64 (So.g T i).1.1) ∧ w.cell? ⟨b, off + i * 4 + 1, none⟩ = some (.int .i64 (So.g T i).1.2.1) ∧ w.cell? ⟨b, off + i * 4 + 2, none⟩ = some (.int .i64 (So.g T i).1.2.2.1) ∧ w.cell? ⟨b, off + i * 4 + 3, none⟩ = some (.bool (So.g T i).1.2.2.2)) ∧
    (w.frozen? ⟨b, off + i * 4, none⟩ = false ∧ w.frozen? ⟨b, off + i * 4 + 1, none⟩ = false ∧ w.frozen? ⟨b, off + i * 4 + 2, none⟩ = false ∧ w.frozen? ⟨b, off + i * 4 + 3, none⟩ = false) := by
  obtain ⟨g0, g1, g2, g3⟩ := wr_get (So.row T) _ i (So.row_get hi)
  have l0 := h.lay _ _ g0
  have l1 := h.lay _ _ g1
  have l2 := h.lay _ _ g2
  have l3 := h.lay _ _ g3
  rw [← Nat.add_assoc] at l1 l2 l3
  exact ⟨⟨l0.1, l1.1, l2.1, l3.1⟩, l0.2, l1.2, l2.2, l3.2⟩
/-- Element i is written anew. -/
theorem RowIs.put (h : RowIs wb b off T w) {i : Nat} (hi : i < T.length) (x : Tw) :
    RowIs wb b off (T.set i x) ((((w.setCell ⟨b, off + i * 4, none⟩ (.int .i64 x.1.1)).setCell ⟨b, off + i * 4 + 1, none⟩ (.int .i64 x.1.2.1)).setCell ⟨b, off + i * 4 + 2, none⟩ (.int .i64 x.1.2.2.1)).setCell ⟨b, off + i * 4 + 3, none⟩ (.bool x.1.2.2.2)) := by
  have hq := (((h.lay.put (i * 4) (.int .i64 x.1.1)).put (i * 4 + 1) (.int .i64 x.1.2.1)).put (i * 4 + 2) (.int .i64 x.1.2.2.1)).put (i * 4 + 3) (.bool x.1.2.2.2)
  rw [wr_set (So.row T) x.1 i (by rw [So.row_len]; exact hi), So.row_set] at hq
  exact ⟨hq, by simpa using h.lt, h.own, (((h.below.setCell (p := ⟨b, _, none⟩) h.own _).setCell (p := ⟨b, _, none⟩) h.own _).setCell (p := ⟨b, _, none⟩) h.own _).setCell (p := ⟨b, _, none⟩) h.own _⟩
/-- Two elements have changed places. -/
theorem RowIs.swap (h : RowIs wb b off T w) {i j : Nat} (hi : i < T.length) (hj : j < T.length) {x y : Wr} (hx : (So.g T j).1 = x) (hy : (So.g T i).1 = y) :
    RowIs wb b off (So.sw T i j) ((((((((w.setCell ⟨b, off + i * 4, none⟩ (.int .i64 x.1)).setCell ⟨b, off + i * 4 + 1, none⟩ (.int .i64 x.2.1)).setCell ⟨b, off + i * 4 + 2, none⟩ (.int .i64 x.2.2.1)).setCell ⟨b, off + i * 4 + 3, none⟩ (.bool x.2.2.2)).setCell ⟨b, off + j * 4, none⟩ (.int .i64 y.1)).setCell ⟨b, off + j * 4 + 1, none⟩ (.int .i64 y.2.1)).setCell ⟨b, off + j * 4 + 2, none⟩ (.int .i64 y.2.2.1)).setCell ⟨b, off + j * 4 + 3, none⟩ (.bool y.2.2.2)) := by
  subst hx hy
  exact (h.put hi (So.g T j)).put (by simpa using hj) (So.g T i)
end

end Go.Proofs.Ytoaclofobfaflaa
