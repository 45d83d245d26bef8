/-
  What the method put of shelf's places does.
  Appending to a row of the call's own, within a round of a loop over a function. Nothing of the program is imported.
  What the method shelf of shelf's places answers.
  The zero value of shelf's places, by one name, however the program's text was loaded.
-/
import Derived.Test.YtbpgofgdlikedaaG12
import Derived.Test.YtbpgofgdlikedaaG14
import Derived.Test.YtbpgofgdlikedaaG10
import Derived.Test.YtbpgofgdlikedaaG01
import Derived.Test.YtbpgofgdlikedaaG03
import Derived.RangeFuncBox
import Derived.TacticsIn
namespace Go.Proofs.Ytbpgofgdlikedaa
open Go.RowKit Go.Shelf
attribute [local go_sem] Oper.semAt_some

namespace Sf
/-- A write is put into an array of writes, where it is newer than what stands there. -/
def dput (f : Nat → Wr) (x : Wr) : Nat → Wr := if 0 < St.cmpS x.1 x.2.1 (f x.2.2.1.toNat).1 (f x.2.2.1.toNat).2.1 then (fun i => if i = x.2.2.1.toNat then x else f i) else f
def dputs (f : Nat → Wr) (l : List Wr) : Nat → Wr := l.foldl dput f
theorem dputs_snoc (f : Nat → Wr) (l : List Wr) (x : Wr) : dputs f (l ++ [x]) = dput (dputs f l) x := by unfold dputs; rw [List.foldl_append]; rfl
/-- A list of right writes, each with that it is. -/
abbrev RW := { x : Wr // right x = true }
theorem rights : ∀ (l : List Wr), (∀ x ∈ l, right x = true) → ∃ xs : List RW, xs.map Subtype.val = l
  | [], _ => ⟨[], rfl⟩
  | x :: r, h => by
    obtain ⟨xs, hx⟩ := rights r fun y hy => h y (List.mem_cons_of_mem _ hy)
    exact ⟨⟨x, h x List.mem_cons_self⟩ :: xs, by rw [List.map_cons, hx]⟩
end Sf

set_option maxRecDepth 100000 in
set_option maxHeartbeats 6400000 in
theorem sdput_any (w0 : World) (p : Nat) (f : Nat → Wr) (A : Option Addr) (c : Nat) (l : List Wr) (w : World) (hle : w0.heap.size ≤ p) (hb : Below w0.heap.size w0 w) (hL : OneW w0 A c l) (hr : ∀ x ∈ l, Sf.right x = true) (hP : Blk w p 49 (Sf.arr f)) :
    Calls Try.prog 25 #[.pointer (some ⟨p, 0, none⟩), .slice A l.length c] w fun e w' => (∃ v, e = .returned v) ∧ Blk w' p 49 (Sf.arr (Sf.dputs f l)) ∧ Below w0.heap.size w0 w' := by
  have HL := Lib.hid hL
  have hpl := hP.lt
  have hz0 := hb.size
  have b0 := below_new hb (.cells #[.pointer (some ⟨p, 0, none⟩)] 59)
  have P0 := hP.alloc (.cells #[.pointer (some ⟨p, 0, none⟩)] 59)
  have Q0 := Blk.new w 59 #[.pointer (some ⟨p, 0, none⟩)]
  obtain ⟨W, hW⟩ : ∃ W, w.alloc (.cells #[.pointer (some ⟨p, 0, none⟩)] 59) = W := ⟨_, rfl⟩
  rw [hW] at b0 P0 Q0
  have HW := Lib.hid hW
  obtain ⟨xs, hxs⟩ := Sf.rights l hr
  clear hL hW hr hP hb
  refine (callsIn_wide (n := 3)).1 ?_
  refine callsIn_of_wp_marks Try.func25 rfl trivial ?_ rfl
  simp only [Try.ntmps25, List.size_toArray, List.length_cons, List.length_nil, Nat.reduceAdd, Nat.reduceSub, Array.replicate_succ, Array.replicate_zero, List.push_toArray, List.append_toArray, List.nil_append, List.cons_append]
  gi_wp2_with fail
  rw [HW.out]
  refine ⟨trivial, (callsIn_wide.2 (each_any A c l W)).mono ?_⟩
  rintro e w1 ⟨bl, rfl, hbl, b1⟩
  have bb1 := below_on b0 b1
  have P1 := P0.later b1
  have Q1 := Q0.later b1
  have hlt1 := Q1.lt
  have hz1 := bb1.size
  have SEQ := eachW_stops Subtype.val xs l hxs 2 (by omega) bl c A w1 (HL.out.later bb1) hbl
  have HXS := Lib.hid hxs
  clear b0 P0 Q0 b1 HW hbl hxs
  gi_wp2_with fail
  refine wpIn_rangeFunc_ownH rfl (by omega) (gf := 31) (lb := #[.pointer (some ⟨bl, 0, none⟩)]) rfl trivial enters_eachW SEQ KeepL.trans (fun W l' o o' _ h1 h2 _ => KeepL.put W l' o o' h1 h2) (Below.refl _ _) (fun _ => rfl)
    (fun pre W => (Blk W w.heap.size 59 #[.pointer (some ⟨p, 0, none⟩)] ∧ Blk W p 49 (Sf.arr (Sf.dputs f (pre.map Subtype.val)))) ∧ Below w0.heap.size w0 W)
    (fun _ _ _ => False)
    ?hI (fun _ _ _ _ _ h _ _ => h) ⟨⟨Q1, P1⟩, bb1⟩
    (fun x a' W => ∃ Bx, Blk W Bx 27 (Nt.wrArr x.val) ∧ a' = { tmps := #[.pointer (some ⟨p, 0, none⟩), .slice A l.length c, .pointer (some ⟨w.heap.size, 0, none⟩), undef, .int .i64 x.val.2.2.1, .pointer (some ⟨Bx, 0, none⟩), .slice A l.length c, .func (.func 31) #[] #[.pointer (some ⟨bl, 0, none⟩)], .int .i64 x.val.2.2.1, Nt.wrV x.val, undef, undef, undef, undef, undef, undef, undef, undef, undef, undef, undef, undef, undef, undef, undef], defers := [] })
    ?hAx ?assign ?body ?done (fun _ _ _ _ _ _ h _ => h.elim)
  case hI => exact OwnFrom.and (OwnFrom.and (Own.from (blk_own _ _ fun _ => #[.pointer (some ⟨p, 0, none⟩)]) _) (Own.from (blk_own _ _ fun (pre : List Sf.RW) => Sf.arr (Sf.dputs f (pre.map Subtype.val))) _)) (ownFrom_below (Nat.le_refl _) hz1)
  case hAx => exact fun x a' _ X Y row ⟨Bx, h1, h2⟩ hg hr => ⟨Bx, blk_own _ _ (fun (_ : Unit) => Nt.wrArr x.val) () X Y row h1 hg (fun r e => (hr r e).2), h2⟩
  case assign =>
    rintro l' pre ⟨x, hx⟩ W K ⟨⟨i0, i1⟩, i2⟩ hK
    obtain ⟨x0, x1, x2, x3⟩ := x
    unfold toldW Nt.wrV
    unfold Nt.wrV Nt.wrArr at hK
    dsimp only at hK ⊢
    have bN := below_new (Below.refl W.heap.size W) (.cells #[.int .i64 x0, .int .i64 x1, .int .i64 x2, .bool x3] 27)
    have HK := Lib.hid hK
    have F1 := Lib.hid (i1.later bN)
    have F2 := Lib.hid (below_on i2 bN)
    have F3 := Lib.hid (Blk.new W 27 #[.int .i64 x0, .int .i64 x1, .int .i64 x2, .bool x3])
    have F4 := Lib.hid (i0.later bN)
    have F5 := Lib.hid bN
    clear hK i0 i1 i2 bN SEQ P1 Q1
    gi_wp2
    exact HK.out _ _ (keepsF_below F5.out) (fun h => h.later F5.out) ⟨⟨F4.out, F1.out⟩, F2.out⟩ ⟨_, F3.out, rfl⟩
  case body =>
    rintro l' pre ⟨x, hx⟩ a' W hl _ ⟨⟨i0, i1⟩, i2⟩ ⟨Bx, hX, rfl⟩ hlt
    have hsn : Sf.dputs f ((pre ++ [(⟨x, hx⟩ : Sf.RW)]).map Subtype.val) = Sf.dput (Sf.dputs f (pre.map Subtype.val)) x := by rw [List.map_append]; exact Sf.dputs_snoc _ _ _
    have hob := (Sf.right_iff x).1 hx
    obtain ⟨F, hF⟩ : ∃ F, Sf.dputs f (pre.map Subtype.val) = F := ⟨_, rfl⟩
    rw [hF] at i1 hsn
    have hdp : Sf.dput F x = if 0 < St.cmpS x.1 x.2.1 (F x.2.2.1.toNat).1 (F x.2.2.1.toNat).2.1 then (fun i => if i = x.2.2.1.toNat then x else F i) else F := rfl
    rw [hdp] at hsn
    have hpx : p ≠ Bx := fun e => by
      have h1 : W.heap[p]? = _ := i1
      have h2 : W.heap[Bx]? = _ := hX
      rw [e, h2] at h1
      injection h1 with h1
      injection h1 with _ h4
      exact absurd h4 (by decide)
    obtain ⟨x0, x1, x2, x3⟩ := x
    dsimp only at hX hob hsn ⊢
    unfold Nt.wrArr at hX
    unfold Nt.wrV
    dsimp only at hX ⊢
    obtain ⟨o, rfl⟩ : ∃ o : Nat, x2 = (o : Int) := ⟨x2.toNat, by omega⟩
    rw [Int.toNat_natCast] at hsn
    have ho : o < 256 := by omega
    have ho0 : (0 : Int) ≤ (o : Int) := by omega
    have ho1 : (o : Int) < 256 := by omega
    have hFo : ∃ y, F o = y := ⟨_, rfl⟩
    obtain ⟨⟨y0, y1, y2, y3⟩, hy⟩ := hFo
    rw [hy] at hsn
    dsimp only at hsn
    have HSN := Lib.hid hsn
    have HX := Lib.hid hX
    have HQ := Lib.hid i0
    have HP := Lib.hid i1
    have HB := Lib.hid i2
    have HY := Lib.hid hy
    have hne : p ≠ Bx := hpx
    clear hX i0 i1 i2 hsn hy hdp hF hob SEQ P1 Q1 hl bb1
    gi_wp2_with fail
    refine wpIn_region_facts 8 (by kernel_rfl) (by kernel_rfl) (by kernel_rfl) ?letsoutR
      (fun v => { tmps := #[.pointer (some ⟨p, 0, none⟩), .slice A l.length c, .pointer (some ⟨w.heap.size, 0, none⟩), undef, .int .i64 (o : Int), .pointer (some ⟨Bx, 0, none⟩), .slice A l.length c, .func (.func 31) #[] #[.pointer (some ⟨bl, 0, none⟩)], .int .i64 (o : Int), .agg #[.int .i64 x0, .int .i64 x1, .int .i64 (o : Int), .bool x3], v 0, v 1, v 2, v 3, v 4, v 5, v 6, v 7, undef, undef, undef, undef, undef, undef, undef], defers := [] }) (fun _ => undef)
      (fun i x _ => match i with
        | 0 => x = .pointer (some ⟨Bx, 0, none⟩)
        | 1 => x = .agg #[.int .i64 x0, .int .i64 x1]
        | 2 => x = .pointer (some ⟨p, 0, none⟩)
        | 3 => x = .int .i64 (o : Int)
        | 4 => x = .pointer (some ⟨p, 0, none⟩)
        | 5 => x = .pointer (some ⟨p, o * 4, none⟩)
        | 6 => x = .pointer (some ⟨p, o * 4, none⟩)
        | 7 => x = .agg #[.int .i64 y0, .int .i64 y1]
        | _ => True)
      (fun w1 w2 => Below w1.heap.size w1 w2) (fun h1 h2 => below_on h1 h2) (fun _ => Below.refl _ _) (Below.drew (Below.refl _ _)) ?stabR ?stepR ?doneR
    case letsoutR => exact fun ⟨_, _, h⟩ => h
    case stabR =>
      rintro i x w1 w2 h hb
      exact h
    case stepR =>
      intro i hi v w' hb hd
      match i, hi with
      | 0, _ =>
        refine wpOp_oneK rfl (fun KK hKK => ?_)
        have HKK := Lib.hid hKK
        clear hKK hd
        go_wp2
        exact HKK.out _ _ ⟨_, (by simp [upd]; done), Below.refl _ _, rfl⟩
      | 1, _ =>
        have h0 : v 0 = _ := hd 0 (List.elem_iff.1 (by kernel_rfl))
        refine wpOp_oneK rfl (fun KK hKK => ?_)
        have HKK := Lib.hid hKK
        clear hKK hd
        rw [h0]
        have q0 := cell_later hb (HX.out.cell (i := 0) rfl)
        have q1 := cell_later hb (HX.out.cell (i := 1) rfl)
        go_wp2
        exact HKK.out _ _ ⟨_, (by simp [upd, h0]; done), Below.refl _ _, rfl⟩
      | 2, _ =>
        refine wpOp_oneK rfl (fun KK hKK => ?_)
        have HKK := Lib.hid hKK
        clear hKK hd
        have q0 := cell_later hb (HQ.out.cell (i := 0) rfl)
        go_wp2
        exact HKK.out _ _ ⟨_, (by simp [upd]; done), Below.refl _ _, rfl⟩
      | 3, _ =>
        refine wpOp_oneK rfl (fun KK hKK => ?_)
        have HKK := Lib.hid hKK
        clear hKK hd
        go_wp2
        exact HKK.out _ _ ⟨_, (by simp [upd]; done), Below.refl _ _, rfl⟩
      | 4, _ =>
        have h2 : v 2 = _ := hd 2 (List.elem_iff.1 (by kernel_rfl))
        refine wpOp_oneK rfl (fun KK hKK => ?_)
        have HKK := Lib.hid hKK
        clear hKK hd
        rw [h2]
        go_wp2
        exact HKK.out _ _ ⟨_, (by simp [upd, h2]; done), Below.refl _ _, rfl⟩
      | 5, _ =>
        have h3 : v 3 = _ := hd 3 (List.elem_iff.1 (by kernel_rfl))
        have h4 : v 4 = _ := hd 4 (List.elem_iff.1 (by kernel_rfl))
        refine wpOp_oneK rfl (fun KK hKK => ?_)
        have HKK := Lib.hid hKK
        clear hKK hd
        rw [h3, h4]
        go_wp2
        exact HKK.out _ _ ⟨_, (by simp [upd, h3, h4]; done), Below.refl _ _, rfl⟩
      | 6, _ =>
        have h5 : v 5 = _ := hd 5 (List.elem_iff.1 (by kernel_rfl))
        refine wpOp_oneK rfl (fun KK hKK => ?_)
        have HKK := Lib.hid hKK
        clear hKK hd
        rw [h5]
        go_wp2
        exact HKK.out _ _ ⟨_, (by simp [upd, h5]; done), Below.refl _ _, rfl⟩
      | 7, _ =>
        have h6 : v 6 = _ := hd 6 (List.elem_iff.1 (by kernel_rfl))
        refine wpOp_oneK rfl (fun KK hKK => ?_)
        have HKK := Lib.hid hKK
        clear hKK hd
        rw [h6]
        obtain ⟨r0, r1, -, -⟩ := HP.out.wrs_cells o ho
        rw [HY.out] at r0 r1
        replace r0 := cell_later hb r0
        replace r1 := cell_later hb r1
        dsimp only at r0 r1
        go_wp2
        exact HKK.out _ _ ⟨_, (by simp [upd, h6]; done), Below.refl _ _, rfl⟩
      | k + 8, hk => exact absurd hk (by omega)
    case doneR =>
      intro v w5 hb hf
      have h0 : v 0 = _ := hf 0 (by decide)
      have h1 : v 1 = _ := hf 1 (by decide)
      have h2 : v 2 = _ := hf 2 (by decide)
      have h3 : v 3 = _ := hf 3 (by decide)
      have h4 : v 4 = _ := hf 4 (by decide)
      have h5 : v 5 = _ := hf 5 (by decide)
      have h6 : v 6 = _ := hf 6 (by decide)
      have h7 : v 7 = _ := hf 7 (by decide)
      clear hf
      rw [h0, h1, h2, h3, h4, h5, h6, h7]
      clear h0 h1 h2 h3 h4 h5 h6 h7
      have NC := Lib.hid (compare_any x0 x1 y0 y1 w5)
      have BW := Lib.hid hb
      clear hb
      obtain ⟨cm, hcm⟩ : ∃ cm, St.cmpS x0 x1 y0 y1 = cm := ⟨_, rfl⟩
      rw [hcm] at NC HSN
      clear hcm
      go_wp2_with fail
      refine NC.out.mono ?_
      rintro e w6 ⟨rfl, b6⟩
      have b7 := below_on BW.out b6
      have X6 := HX.out.later b7
      have Q6 := HQ.out.later b7
      have P6 := HP.out.later b7
      have bb6 := below_on HB.out b7
      by_cases hc : 0 < cm
      · have hd : decide (0 < cm) = true := decide_eq_true hc
        have hsn := HSN.out
        rw [if_pos hc] at hsn
        have H2 := Lib.hid hsn
        have X6' := Lib.hid X6
        have Q6' := Lib.hid Q6
        have P6' := Lib.hid P6
        have BB6 := Lib.hid bb6
        have B7 := Lib.hid b7
        clear hsn HSN X6 Q6 P6 bb6 b7 b6 NC BW
        go_wp2_with fail
        gi_wp2_with fail
        refine wpIn_region_facts 5 (by kernel_rfl) (by kernel_rfl) (by kernel_rfl) ?letsoutS
          (fun v => { tmps := #[.pointer (some ⟨p, 0, none⟩), .slice A l.length c, .pointer (some ⟨w.heap.size, 0, none⟩), undef, .int .i64 (o : Int), .pointer (some ⟨Bx, 0, none⟩), .slice A l.length c, .func (.func 31) #[] #[.pointer (some ⟨bl, 0, none⟩)], .int .i64 (o : Int), .agg #[.int .i64 x0, .int .i64 x1, .int .i64 (o : Int), .bool x3], .pointer (some ⟨Bx, 0, none⟩), .agg #[.int .i64 x0, .int .i64 x1], .pointer (some ⟨p, 0, none⟩), .int .i64 (o : Int), .pointer (some ⟨p, 0, none⟩), .pointer (some ⟨p, o * 4, none⟩), .pointer (some ⟨p, o * 4, none⟩), .agg #[.int .i64 y0, .int .i64 y1], .int .i64 cm, .bool true, v 0, v 1, v 2, v 3, v 4], defers := [] }) (fun _ => undef)
          (fun i x _ => match i with
            | 0 => x = .pointer (some ⟨p, 0, none⟩)
            | 1 => x = .int .i64 (o : Int)
            | 2 => x = .agg #[.int .i64 x0, .int .i64 x1, .int .i64 (o : Int), .bool x3]
            | 3 => x = .pointer (some ⟨p, 0, none⟩)
            | 4 => x = .pointer (some ⟨p, o * 4, none⟩)
            | _ => True)
          (fun w1 w2 => Below w1.heap.size w1 w2) (fun h1 h2 => below_on h1 h2) (fun _ => Below.refl _ _) (Below.drew (Below.refl _ _)) ?stabS ?stepS ?doneS
        case letsoutS => exact fun ⟨_, _, h⟩ => h
        case stabS =>
          rintro i x w1 w2 h hb
          exact h
        case stepS =>
          intro i hi v w' hb hd
          match i, hi with
          | 0, _ =>
            refine wpOp_oneK rfl (fun KK hKK => ?_)
            have HKK := Lib.hid hKK
            clear hKK hd
            have q0 := cell_later hb (Q6'.out.cell (i := 0) rfl)
            go_wp2
            exact HKK.out _ _ ⟨_, (by simp [upd]; done), Below.refl _ _, rfl⟩
          | 1, _ =>
            refine wpOp_oneK rfl (fun KK hKK => ?_)
            have HKK := Lib.hid hKK
            clear hKK hd
            go_wp2
            exact HKK.out _ _ ⟨_, (by simp [upd]; done), Below.refl _ _, rfl⟩
          | 2, _ =>
            refine wpOp_oneK rfl (fun KK hKK => ?_)
            have HKK := Lib.hid hKK
            clear hKK hd
            have q0 := cell_later hb (X6'.out.cell (i := 0) rfl)
            have q1 := cell_later hb (X6'.out.cell (i := 1) rfl)
            have q2 := cell_later hb (X6'.out.cell (i := 2) rfl)
            have q3 := cell_later hb (X6'.out.cell (i := 3) rfl)
            go_wp2
            exact HKK.out _ _ ⟨_, (by simp [upd]; done), Below.refl _ _, rfl⟩
          | 3, _ =>
            have h0 : v 0 = _ := hd 0 (List.elem_iff.1 (by kernel_rfl))
            refine wpOp_oneK rfl (fun KK hKK => ?_)
            have HKK := Lib.hid hKK
            clear hKK hd
            rw [h0]
            go_wp2
            exact HKK.out _ _ ⟨_, (by simp [upd, h0]; done), Below.refl _ _, rfl⟩
          | 4, _ =>
            have h1 : v 1 = _ := hd 1 (List.elem_iff.1 (by kernel_rfl))
            have h3 : v 3 = _ := hd 3 (List.elem_iff.1 (by kernel_rfl))
            refine wpOp_oneK rfl (fun KK hKK => ?_)
            have HKK := Lib.hid hKK
            clear hKK hd
            rw [h1, h3]
            go_wp2
            exact HKK.out _ _ ⟨_, (by simp [upd, h1, h3]; done), Below.refl _ _, rfl⟩
          | k + 5, hk => exact absurd hk (by omega)
        case doneS =>
          intro v w8 hb hf
          have h0 : v 0 = _ := hf 0 (by decide)
          have h1 : v 1 = _ := hf 1 (by decide)
          have h2 : v 2 = _ := hf 2 (by decide)
          have h3 : v 3 = _ := hf 3 (by decide)
          have h4 : v 4 = _ := hf 4 (by decide)
          clear hf
          rw [h0, h1, h2, h3, h4]
          clear h0 h1 h2 h3 h4
          have P8 := P6'.out.later hb
          have hb8 := below_on B7.out hb
          have bb8 := below_on BB6.out hb
          have Q8 := Q6'.out.later hb
          obtain ⟨m0, m1, m2, m3⟩ := P8.wrs_cells o ho
          have f0 := P8.free (o * 4)
          have f1 := P8.free (o * 4 + 1)
          have f2 := P8.free (o * 4 + 2)
          have f3 := P8.free (o * 4 + 3)
          have P9 := P8.wrs_put o ho (x0, x1, (o : Int), x3)
          have hqp : w.heap.size ≠ p := by omega
          have Q9 := (((Q8.far (p := ⟨p, o * 4, none⟩) hqp (.int .i64 x0)).far (p := ⟨p, o * 4 + 1, none⟩) hqp (.int .i64 x1)).far (p := ⟨p, o * 4 + 2, none⟩) hqp (.int .i64 (o : Int))).far (p := ⟨p, o * 4 + 3, none⟩) hqp (.bool x3)
          have B9 := (((bb8.setCell (p := ⟨p, o * 4, none⟩) hle (.int .i64 x0)).setCell (p := ⟨p, o * 4 + 1, none⟩) hle (.int .i64 x1)).setCell (p := ⟨p, o * 4 + 2, none⟩) hle (.int .i64 (o : Int))).setCell (p := ⟨p, o * 4 + 3, none⟩) hle (.bool x3)
          have K9 := (((KeepsOthers.setCell w8 ⟨p, o * 4, none⟩ (.int .i64 x0)).trans (KeepsOthers.setCell _ ⟨p, o * 4 + 1, none⟩ (.int .i64 x1))).trans (KeepsOthers.setCell _ ⟨p, o * 4 + 2, none⟩ (.int .i64 (o : Int)))).trans (KeepsOthers.setCell _ ⟨p, o * 4 + 3, none⟩ (.bool x3))
          rw [← H2.out] at P9
          have FIN := Lib.hid (And.intro (KeepsFrom.trans (keepsF_below hb8) (K9.from w1.heap.size)) (And.intro (show KeepL A c l W _ from fun _ => HL.out.later B9) (And.intro (And.intro Q9 P9) B9)))
          clear P8 hb8 bb8 Q8 P9 Q9 B9 K9 hb H2 X6' Q6' P6' BB6 B7 HX HQ HP HB
          go_wp2_with fail
          gi_wp2
          exact FIN.out
      · have hd : decide (0 < cm) = false := decide_eq_false hc
        have hsn := HSN.out
        rw [if_neg hc] at hsn
        rw [← hsn] at P6
        have FIN := Lib.hid (And.intro (keepsF_below (n0 := w1.heap.size) b7) (And.intro (show KeepL A c l W w6 from fun h => h.later b7) (And.intro (And.intro Q6 P6) bb6)))
        clear hsn HSN X6 Q6 P6 bb6 b7 b6 NC BW HX HQ HP HB
        go_wp2_with fail
        gi_wp2
        exact FIN.out
  case done =>
    rintro DD ys W hDD hys ⟨⟨i0, i1⟩, i2⟩ hK
    subst hys
    rw [HXS.out] at i1
    have PP := Lib.hid i1
    have I2 := Lib.hid i2
    clear SEQ i0 i1 i2 P1 Q1
    gi_wp2
    refine ⟨by simp, .inl ⟨_, _, rfl, run_takeDeferred hK, ?_⟩⟩
    have QP := blk_own _ _ (fun (_ : Unit) => Sf.arr (Sf.dputs f l)) () _ _ (some DD) PP.out (grownBy_putObj' _ DD (.deferred none)) (fun r e => by cases e; exact ⟨_, hK, rfl⟩)
    exact ⟨_, results_none rfl _ _ _, ⟨_, rfl⟩, QP, I2.out.trans (belowK_b (w := w0) (Nat.le_refl _) _ DD _ _ (by omega) hK rfl rfl)⟩
end Go.Proofs.Ytbpgofgdlikedaa
namespace Go.Proofs.Ytbpgofgdlikedaa
open Go.RowKit Go.Shelf
attribute [local go_sem] Oper.semAt_some

/-- Appending all of a slice to a row of the call's own, within a fence: the row lies where it lay, or in a new block. -/
theorem wpListIn_append_lies {F : Fence} {n : Nat} {P : Program} (w : World) {ops : Array Oper} {rest : List Oper} {o : Oper} {a : Act} {Q : Exit → Act → World → Prop} (hgd : o.guard = none) (s x : Operand) (t : TypeId)
    (ho : o.op = .call { callee := .builtin .append, args := #[s, x], argTypes := #[t, t] })
    (base : Nat) (e : TypeId) (i : TypeInfo) (z : Value) (size bytes : Nat) (ht : P.underlying t = some (.slice e)) (hi : P.info? e = some i) (hz : i.zero = some z)
    (hsize : i.size = size) (hby : i.bytes = bytes) (hzs : z.cells.size = size) (hsz : 0 < size)
    (v : Value) (k : Nat) (xs : List Value) (hs : a.eval s = v) (hown : w.ownsRow base e size v k xs)
    (A : Option Addr) (m c : Nat) (hA : A = none → m = 0 ∧ c = 0) (news : List Value) (hx : a.eval x = .slice A m c) (hl : news.length = m * size) (hr : Lies w A news) (h1 : ∀ u ∈ news, u.oneCell' = true)
    (h63 : k + m ≤ maxLen) (hbytes : (k + m) * bytes ≤ 140737488355328) (hbase : base ≤ w.heap.size)
    (h : ∀ v' w', w'.ownsRow base e size v' (k + m) (xs ++ news) → w.grownBy w' v.ownBlock → (v'.ownBlock = v.ownBlock ∨ v'.ownBlock = some w.heap.size) → wpListIn F n P ops Q rest (a.put o.dst v') w') :
    wpListIn F n P ops Q (o :: rest) a w := by
  refine wpListIn_plain hgd fun K hK => ?_
  obtain ⟨v', w', hrun, r1, r2, r3⟩ := run_append_lies (P := P) w base t o.type e i z size bytes ht hi hz hsize hby hzs hsz v k xs hown A m c hA news hl hr h1 h63 hbytes hbase
  unfold Oper.wpIn
  refine ⟨?_, ?_⟩
  · simp [Oper.about, ho, resolve, Target.leads, Sem.run_pure]
  · rw [Oper.semAt_plain F _ _ (by rw [ho]; intro c hc'; cases hc')]
    simp [execOp, ho, resolve, invoke, builtin, hs, hx, hrun, Result.andThen]
    exact hK _ _ (h v' w' r1 r2 r3)

/-- A row of the call's own speaks of cells alone. -/
theorem own_row {β : Type} (base : Nat) (e : TypeId) (size n : Nat) (v : Value) (xs : List Value) : Own (fun (_ : β) W => W.ownsRow base e size v n xs) := fun s X Y row h hg hr =>
  own_stays h (fun k hk => hg.block k (own_lt h k hk) (fun e' => by
    obtain ⟨o, ho, hc⟩ := hr k e'.symm
    rcases h.2 with ⟨h1, _⟩ | ⟨g, cap, cur, h1, _, hB, _⟩
    · rw [h1] at hk; cases hk
    · rw [h1] at hk
      injection hk with hk
      subst hk
      rw [hB] at ho
      cases ho
      cases hc))

end Go.Proofs.Ytbpgofgdlikedaa
namespace Go.Proofs.Ytbpgofgdlikedaa
open Go.RowKit Go.Shelf
attribute [local go_sem] Oper.semAt_some

namespace Sf
/-- The writes of an array, and those that are there. -/
def lst (f : Nat → Wr) : List Wr := (List.range 256).map f
def flt (l : List Wr) : List Wr := l.filter fun x => St.rgt x.1 x.2.1
theorem lst_len (f : Nat → Wr) : (lst f).length = 256 := by unfold lst; simp
theorem lst_at (f : Nat → Wr) (k : Nat) (hk : k < 256) : (lst f).getD k Nt.zeroW = f k := by
  unfold lst
  rw [List.getD_eq_getElem?_getD, List.getElem?_map, List.getElem?_range hk]
  rfl
theorem flt_snoc (l : List Wr) (x : Wr) : flt (l ++ [x]) = flt l ++ (if St.rgt x.1 x.2.1 = true then [x] else []) := by
  unfold flt
  rw [List.filter_append, List.filter_cons]
  split <;> rfl
theorem flt_len (l : List Wr) : (flt l).length ≤ l.length := List.length_filter_le _ _
end Sf
theorem OneW.of_arr {w : World} {p : Nat} {t : TypeId} {f : Nat → Wr} (h : Blk w p t (Sf.arr f)) : OneW w (some ⟨p, 0, none⟩) 256 (Sf.lst f) :=
  ⟨Nat.le_of_eq (Sf.lst_len f), by unfold maxLen; omega, (fun h => by cases h), fun _ => ⟨p, 0, rfl, fun j u hu => by
    have hj : j < 1024 := by
      have := (List.getElem?_eq_some_iff.1 hu).1
      rw [Nt.wrCells_length, Sf.lst_len] at this
      omega
    rw [Nat.zero_add]
    have hk : j / 4 < 256 := by omega
    obtain ⟨q0, q1, q2, q3⟩ := Nt.wrCells_get (Sf.lst f) (j / 4) (by rw [Sf.lst_len]; exact hk)
    obtain ⟨r0, r1, r2, r3⟩ := h.wrs_cells (j / 4) hk
    rw [Sf.lst_at f _ hk] at q0 q1 q2 q3
    have : j = j / 4 * 4 ∨ j = j / 4 * 4 + 1 ∨ j = j / 4 * 4 + 2 ∨ j = j / 4 * 4 + 3 := by omega
    rcases this with e | e | e | e
    · rw [← e] at q0 r0; rw [hu] at q0; injection q0 with q0; rw [q0]; exact r0
    · rw [← e] at q1 r1; rw [hu] at q1; injection q1 with q1; rw [q1]; exact r1
    · rw [← e] at q2 r2; rw [hu] at q2; injection q2 with q2; rw [q2]; exact r2
    · rw [← e] at q3 r3; rw [hu] at q3; injection q3 with q3; rw [q3]; exact r3⟩⟩

set_option maxRecDepth 100000 in
set_option maxHeartbeats 6400000 in
theorem sdshelf_any (p : Nat) (f : Nat → Wr) (w : World) (hP : Blk w p 49 (Sf.arr f)) :
    Calls Try.prog 26 #[.pointer (some ⟨p, 0, none⟩)] w fun e w' => ∃ v, e = .returned v ∧ w'.ownsRow w.heap.size 27 4 v (Sf.flt (Sf.lst f)).length (Nt.wrCells (Sf.flt (Sf.lst f))) ∧ Below w.heap.size w w' := by
  obtain ⟨i0, hI, hZ0, hZ1, hZ2⟩ := info_parts infoWr
  have hL := OneW.of_arr hP
  have hll := Sf.lst_len f
  obtain ⟨l, hl⟩ : ∃ l, Sf.lst f = l := ⟨_, rfl⟩
  rw [hl] at hL hll ⊢
  have HL := Lib.hid hL
  have HLL := Lib.hid hll
  have b0 := below_new (Below.refl w.heap.size w) (.cells #[.slice none 0 0] 22)
  have G0 := Blk.new w 22 #[.slice none 0 0]
  have P0 := hP.alloc (.cells #[.slice none 0 0] 22)
  obtain ⟨W, hW⟩ : ∃ W, w.alloc (.cells #[.slice none 0 0] 22) = W := ⟨_, rfl⟩
  rw [hW] at b0 G0 P0
  have HW := Lib.hid hW
  have NE := Lib.hid (show Calls Try.prog 20 #[.slice (some ⟨p, 0, none⟩) 256 256] W (WalkerW (some ⟨p, 0, none⟩) 256 l W) from by have := each_any (some ⟨p, 0, none⟩) 256 l W; rwa [hll] at this)
  clear hW hL hP hll hl
  refine (callsIn_wide (n := 3)).1 ?_
  refine callsIn_of_wp_marks Try.func26 rfl trivial ?_ rfl
  simp only [Try.ntmps26, List.size_toArray, List.length_cons, List.length_nil, Nat.reduceAdd, Nat.reduceSub, Array.replicate_succ, Array.replicate_zero, List.push_toArray, List.append_toArray, List.nil_append, List.cons_append]
  gi_wp2_with fail
  rw [HW.out]
  refine ⟨trivial, (callsIn_wide.2 NE.out).mono ?_⟩
  rintro e w1 ⟨bl, rfl, hbl, b1⟩
  have bb1 := below_on b0 b1
  have G1 := G0.later b1
  have hlt1 := G1.lt
  have hz1 := bb1.size
  have SEQ := eachW_stops id l l (List.map_id l) 2 (by omega) bl 256 (some ⟨p, 0, none⟩) w1 (HL.out.later bb1) hbl
  clear b0 G0 P0 b1 HW hbl NE
  gi_wp2_with fail
  refine wpIn_rangeFunc_ownH rfl (by omega) (gf := 31) (lb := #[.pointer (some ⟨bl, 0, none⟩)]) rfl trivial enters_eachW SEQ KeepL.trans (fun W l' o o' _ h1 h2 _ => KeepL.put W l' o o' h1 h2) (Below.refl _ _) (fun _ => rfl)
    (fun pre W => (∃ v, Boxed W w.heap.size 22 v ∧ W.ownsRow w.heap.size 27 4 v (Sf.flt pre).length (Nt.wrCells (Sf.flt pre)) ∧ True) ∧ Below w.heap.size w W)
    (fun _ _ _ => False)
    ?hI (fun _ _ _ _ _ h _ _ => h) ⟨⟨.slice none 0 0, G1, ⟨rfl, .inl ⟨rfl, rfl⟩⟩, trivial⟩, bb1⟩
    (fun x a' W => ∃ Bx, w.heap.size < Bx ∧ Blk W Bx 27 (Nt.wrArr x) ∧ a' = { tmps := #[.pointer (some ⟨p, 0, none⟩), undef, .slice none 0 0, .pointer (some ⟨w.heap.size, 0, none⟩), undef, .pointer (some ⟨Bx, 0, none⟩), .pointer (some ⟨p, 0, none⟩), .pointer (some ⟨p, 0, none⟩), .slice (some ⟨p, 0, none⟩) 256 256, .func (.func 31) #[] #[.pointer (some ⟨bl, 0, none⟩)], .int .i64 x.2.2.1, Nt.wrV x, undef, undef, undef, undef, undef, undef, undef, undef], defers := [] })
    ?hAx ?assign ?body ?done (fun _ _ _ _ _ _ h _ => h.elim)
  case hI => exact OwnFrom.and (Own.from (holdsRow_own w.heap.size w.heap.size 22 27 4 (fun pre => (Sf.flt pre).length) (fun pre => Nt.wrCells (Sf.flt pre)) (fun _ _ => True)) _) (ownFrom_below (Nat.le_refl _) hz1)
  case hAx => exact fun x a' _ X Y row ⟨Bx, h0, h1, h2⟩ hg hr => ⟨Bx, h0, blk_own _ _ (fun (_ : Unit) => Nt.wrArr x) () X Y row h1 hg (fun r e => (hr r e).2), h2⟩
  case assign =>
    rintro l' pre x W K ⟨⟨v, i0, i1, -⟩, i2⟩ hK
    obtain ⟨x0, x1, x2, x3⟩ := x
    unfold toldW Nt.wrV
    unfold Nt.wrV Nt.wrArr at hK
    dsimp only [id] at hK ⊢
    have bN := below_new (Below.refl W.heap.size W) (.cells #[.int .i64 x0, .int .i64 x1, .int .i64 x2, .bool x3] 27)
    have HK := Lib.hid hK
    have F1 := Lib.hid (own_later i1 bN)
    have F2 := Lib.hid (below_on i2 bN)
    have F3 := Lib.hid (Blk.new W 27 #[.int .i64 x0, .int .i64 x1, .int .i64 x2, .bool x3])
    have F4 := Lib.hid (i0.alloc (.cells #[.int .i64 x0, .int .i64 x1, .int .i64 x2, .bool x3] 27))
    have F5 := Lib.hid bN
    have F6 := Lib.hid i0.lt
    clear hK i0 i1 i2 bN SEQ G1
    gi_wp2
    exact HK.out _ _ (keepsF_below F5.out) (fun h => h.later F5.out) ⟨⟨_, F4.out, F1.out, trivial⟩, F2.out⟩ ⟨_, F6.out, F3.out, rfl⟩
  case body =>
    rintro l' pre x a' W hl _ ⟨⟨v8, hv, hrow, -⟩, i2⟩ ⟨Bx, hBx, hX, rfl⟩ hlt
    have hsn := Sf.flt_snoc pre x
    have hfl := Sf.flt_len pre
    have hlt2 : (Sf.flt pre).length ≤ 256 := by have := HLL.out; omega
    obtain ⟨M, hM⟩ : ∃ M, Sf.flt pre = M := ⟨_, rfl⟩
    rw [hM] at hsn hrow hlt2
    obtain ⟨VA, vc, hvv, -, -, -, -⟩ := own_form hrow
    subst hvv
    obtain ⟨x0, x1, x2, x3⟩ := x
    unfold Nt.wrV
    unfold Nt.wrArr at hX
    dsimp only at hX hsn ⊢
    have N1 := Lib.hid (right_any x0 x1 W)
    have g0 := hX.cell (i := 0) rfl
    have g1 := hX.cell (i := 1) rfl
    have HX := Lib.hid hX
    have HV := Lib.hid hv
    have HROW := Lib.hid hrow
    have I2 := Lib.hid i2
    cases hq : St.rgt x0 x1 with
    | false =>
      rw [hq, if_neg Bool.false_ne_true, List.append_nil] at hsn
      rw [hq] at N1
      have HSN := Lib.hid hsn
      clear hX hv hrow i2 hsn hq SEQ G1 hl hM hfl
      gi_wp2_with fail
      refine ⟨trivial, (CallsIn.inRound l' (callsIn_wide.2 N1.out)).mono ?_⟩
      rintro e w2 ⟨rfl, b2⟩
      have FIN := Lib.hid (show KeepsFrom w1.heap.size W w2 ∧ KeepL (some ⟨p, 0, none⟩) 256 l W w2 ∧ (∃ v, Boxed w2 w.heap.size 22 v ∧ w2.ownsRow w.heap.size 27 4 v (Sf.flt (pre ++ [(x0, x1, x2, x3)])).length (Nt.wrCells (Sf.flt (pre ++ [(x0, x1, x2, x3)]))) ∧ True) ∧ Below w.heap.size w w2 from
        ⟨keepsF_below b2, fun h => h.later b2, ⟨_, Blk.later HV.out b2, by rw [HSN.out]; exact own_later HROW.out b2, trivial⟩, below_on I2.out b2⟩)
      clear b2 g0 g1 HV HROW HX
      gi_wp2
      exact FIN.out
    | true =>
      rw [hq, if_pos rfl] at hsn
      rw [hq] at N1
      have HSN := Lib.hid hsn
      clear hX hv hrow i2 hsn hq SEQ G1 hl hM hfl
      gi_wp2_with fail
      refine ⟨trivial, (CallsIn.inRound l' (callsIn_wide.2 N1.out)).mono ?_⟩
      rintro e w2 ⟨rfl, b2⟩
      have X2 := HX.out.later b2
      have hv6 : Boxed w2 w.heap.size 22 (.slice VA M.length vc) := Blk.later HV.out b2
      have hc6 := hv6.cell
      have hrow6 := own_later HROW.out b2
      have hlt6 := hv6.lt
      have hbw6 := below_on I2.out b2
      have hsz6 := hbw6.size
      have k0 := X2.cell (i := 0) rfl
      have k1 := X2.cell (i := 1) rfl
      have k2 := X2.cell (i := 2) rfl
      have k3 := X2.cell (i := 3) rfl
      have HBW6 := Lib.hid hbw6
      have B2 := Lib.hid b2
      clear b2 g0 g1 hbw6 X2 N1
      gi_wp2_with (gi_at_builtin; refine Go.Proofs.Ytbpgofgdlikedaa.wpListIn_append_lies _ rfl _ _ 22 rfl w.heap.size 27 i0 (.agg #[.int .i64 0, .int .i64 0, .int .i64 0, .bool false]) 4 32 Try.underlying22 hI hZ0 hZ1 hZ2 rfl (by decide) _ M.length (Nt.wrCells M) rfl (hrow6.alloc _) (some ⟨w2.heap.size, 0, none⟩) 1 1 (fun h => by cases h) (Nt.wrCells [(x0, x1, x2, x3)]) rfl rfl ?c1 (Nt.wrCells_one _) ?c3 ?c4 ?c5 ?_)
      case c1 =>
        intro _
        refine ⟨w2.heap.size, 0, rfl, fun j u hu => ?_⟩
        rw [Nat.zero_add]
        exact (Blk.new w2 27 #[.int .i64 x0, .int .i64 x1, .int .i64 x2, .bool x3]).cell (by simpa [Nt.wrCells, Nt.wrCell] using hu)
      case c3 => unfold maxLen; omega
      case c4 => omega
      case c5 => simp; omega
      intro v' w7 hown1 hg1 hm1
      obtain ⟨g', cap', rfl⟩ := ownsRow_succ hown1
      obtain ⟨hv1, hv2, hr2, hk2, hb2⟩ := hv6.appended (by decide) hrow6 hsz6 (by omega) hown1 hg1
      have hc1 := hv1.cell
      have hf1 := hv1.frozen
      have HV2 := Lib.hid hv2
      have HR2 := Lib.hid hr2
      have KF := Lib.hid (KeepsFrom.trans (keepsF_below (n0 := w1.heap.size) B2.out) (hk2.from _))
      have FB := Lib.hid (HBW6.out.trans hb2)
      clear hv2 hr2 hown1 hg1 hrow6 hv6 hv1 hk2 hb2 hc6
      gi_wp2
      exact ⟨KF.out, fun _ => HL.out.later FB.out, ⟨_, HV2.out, by rw [HSN.out, Nt.wrCells_append, List.length_append]; exact HR2.out, trivial⟩, FB.out⟩
  case done =>
    rintro DD ys W hDD hys ⟨⟨v, hv, hrow, -⟩, i2⟩ hK
    subst hys
    obtain ⟨VA, vc, hvv, -, -, -, -⟩ := own_form hrow
    subst hvv
    have hc := hv.cell
    have HROW := Lib.hid hrow
    have I2 := Lib.hid i2
    clear SEQ hv hrow i2 G1
    gi_wp2
    refine ⟨by simp, .inl ⟨_, _, rfl, run_takeDeferred hK, ?_⟩⟩
    have QR := own_row w.heap.size 27 4 (Sf.flt ys).length (.slice VA (Sf.flt ys).length vc) (Nt.wrCells (Sf.flt ys)) () _ _ (some DD) HROW.out (grownBy_putObj' _ DD (.deferred none)) (fun r e => by cases e; exact ⟨_, hK, rfl⟩)
    exact ⟨.slice VA (Sf.flt ys).length vc, by simp [results, Try.f26, go_sem], _, rfl, QR, I2.out.trans (belowK_b (w := w) (Nat.le_refl _) _ DD _ _ (by omega) hK rfl rfl)⟩
end Go.Proofs.Ytbpgofgdlikedaa
namespace Go.Proofs.Ytbpgofgdlikedaa.Fb

def Try.zeroCells49 : Array Value := Sf.arr fun _ => Nt.zeroW

end Go.Proofs.Ytbpgofgdlikedaa.Fb
namespace Go.Proofs.Ytbpgofgdlikedaa
open Fb

set_option maxRecDepth 100000 in
theorem pls_zero : Try.zeroCells49 = Sf.arr (fun _ => Nt.zeroW) := by rfl
@[simp] theorem pls_zeroV (w : World) : (zeroValue 49).run Try.prog w = .ok (.agg Try.zeroCells49) w := by kernel_rfl
@[simp] theorem pls_zero_size : Try.zeroCells49.size = 1024 := by rw [pls_zero, Sf.arr_size]
@[simp] theorem pls_zero_ne : ¬ Try.zeroCells49 = #[] := fun h => by have h2 := pls_zero_size; rw [h] at h2; cases h2

theorem infoPls : (Try.prog.info? 49).map (·.size) = some 1024 := by kernel_rfl

end Go.Proofs.Ytbpgofgdlikedaa
