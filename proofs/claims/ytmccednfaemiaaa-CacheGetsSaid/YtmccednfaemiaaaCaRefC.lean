/-
  What telltaleref12's Put answers.
-/
import Derived.Test.YtmccednfaemiaaaCaRefB
namespace Go.Proofs.Ytmccednfaemiaaa
open Go.RowKit Fb

theorem OwnC.tail {w : World} {base b off c : Nat} {z : Bc} {r : List Bc} (h : OwnC w base (some ⟨b, off, none⟩) c (z :: r)) : OwnC w base (some ⟨b, off + 4, none⟩) (c - 1) r := by
  have hle := h.one.le
  have hcap := h.one.cap
  simp only [List.length_cons] at hle
  refine ⟨⟨by omega, by omega, (fun e => by cases e), fun hne => ⟨b, off + 4, rfl, fun j u hu => ?_⟩, fun y hy => h.one.each y (List.mem_cons_of_mem _ hy)⟩, fun b' off' e => ?_, fun y hy => h.byte y (List.mem_cons_of_mem _ hy)⟩
  · obtain ⟨b2, off2, e2, hc2⟩ := h.one.lies (by rw [Ca.cells_cons]; simp [Ca.cell])
    injection e2 with e2
    injection e2 with e3 e4
    subst e3 e4
    rw [Nat.add_assoc]
    refine hc2 (4 + j) u ?_
    rw [Ca.cells_cons, List.getElem?_append_right (by simp [Ca.cell])]
    rw [← hu]
    congr 1
    simp [Ca.cell]
  · injection e with e
    injection e with e3 e4
    subst e3
    exact h.row b off rfl
theorem OwnC.tail1 {w : World} {base b off : Nat} {z : Bc} {r : List Bc} (h : OwnC w base (some ⟨b, off, none⟩) 1 (z :: r)) : r = [] ∧ OwnC w base (some ⟨b, off, none⟩) 0 r := by
  have hle := h.one.le
  simp only [List.length_cons] at hle
  have hr : r = [] := List.eq_nil_of_length_eq_zero (by omega)
  subst hr
  exact ⟨rfl, ⟨⟨Nat.le_refl _, Nat.zero_le _, (fun e => by cases e), Lies.nil, fun y hy => by cases hy⟩, h.row, fun y hy => by cases hy⟩⟩
namespace Ca
theorem fit_gone (room : Int) (x : Bd) (r : List Bd) (h : room < (used (x :: r) : Int)) : fit room (x :: r) = fit room r := by rw [fit, if_pos h]
theorem fit_stay (room : Int) : ∀ (l : List Bd), ¬ room < (used l : Int) → fit room l = l
  | [], _ => rfl
  | x :: r, h => by rw [fit, if_neg h]
theorem fmd_parts {L : List Bc} {room : Int} (h : fmd (L.map Bc.b) room = true) : 0 ≤ room ∧ room ≤ 16777216 ∧ L.length ≤ 256 ∧ (used (L.map Bc.b) : Int) ≤ room ∧ Fits L := by
  unfold fmd at h
  simp only [Bool.and_eq_true, decide_eq_true_eq, List.length_map] at h
  obtain ⟨⟨h1, h2, h3⟩, h4, h5⟩ := h
  have h6 := (oks_iff _).1 h4
  refine ⟨h1, h2, h3, h5, ⟨by omega, fun z hz => ?_⟩⟩
  obtain ⟨j, hj, rfl⟩ := List.mem_iff_getElem.1 hz
  have h7 := (h6 j (by rw [List.length_map]; exact hj)).1
  rw [map_getD, getD_lt hj] at h7
  have := (right_obj h7).2.2
  omega
end Ca

set_option maxRecDepth 100000 in
set_option maxHeartbeats 6400000 in
theorem cput_any (A X : Option Addr) (cc d : Nat) (L : List Bc) (room : Int) (x : Bd) (w : World) (h : OneC w A cc L) (hx : OneB w X d x.v) :
    Calls Try.prog 20 #[.slice A L.length cc, .int .i64 room, .agg (bdCells X d x)] w (GivesCE (Ca.putR (L.map Bc.b) room x).1 (Ca.putR (L.map Bc.b) room x).2 w) := by
  obtain ⟨i0, hI, hZ0, hZ1, hZ2⟩ := info_parts infoBdy
  obtain ⟨x0, x1, x2, vl⟩ := x
  unfold bdCells
  dsimp only at hx ⊢
  have hR : Ca.putR (L.map Bc.b) room ⟨x0, x1, x2, vl⟩ = if Ca.fmd (L.map Bc.b) room = true then (if Wi.bright ⟨x0, x1, x2, vl⟩ = true then (Ca.fit room (Ca.forget (L.map Bc.b) x0 ++ [⟨x0, x1, x2, vl⟩]), 0) else ([], 1)) else ([], 1) := rfl
  rw [hR]
  have b0 := below_new (Below.refl w.heap.size w) (.cells #[.int .i64 x0, .int .i64 x1, .int .i64 x2, .slice X vl.length d] 38)
  have B0 := Blk.new w 38 #[.int .i64 x0, .int .i64 x1, .int .i64 x2, .slice X vl.length d]
  obtain ⟨W0, hW⟩ : ∃ W0, w.alloc (.cells #[.int .i64 x0, .int .i64 x1, .int .i64 x2, .slice X vl.length d] 38) = W0 := ⟨_, rfl⟩
  rw [hW] at b0 B0
  have HW := Lib.hid hW
  have HL := Lib.hid h
  have N1 := Lib.hid (cformed_any A cc L room W0 (h.later b0))
  have N2 := Lib.hid (fun w' => show Calls Try.prog 24 #[.agg #[.int .i64 x0, .int .i64 x1, .int .i64 x2, .slice X vl.length d]] w' (Says (.bool (Wi.bright ⟨x0, x1, x2, vl⟩)) w') from bright_any X d ⟨x0, x1, x2, vl⟩ w')
  have HV := Lib.hid hx
  have HB0 := Lib.hid b0
  have HBB := Lib.hid B0
  clear hR h hW B0 b0 hx
  cases hf : Ca.fmd (L.map Bc.b) room with
  | false =>
    rw [hf] at N1
    rw [if_neg Bool.false_ne_true]
    clear hf
    go_enter Try.func20, Try.ntmps20
    go_wp2_with fail
    rw [HW.out]
    refine N1.out.mono ?_
    rintro e w1 ⟨rfl, b1⟩
    have BB := Lib.hid (below_on HB0.out b1)
    clear N1 N2 b1
    go_wp2
    go_ret2
    exact ⟨none, 0, [], rfl, rfl, OwnC.nil _ _, BB.out⟩
  | true =>
  rw [if_pos rfl]
  rw [hf] at N1
  have hfp := Ca.fmd_parts hf
  cases hr : Wi.bright ⟨x0, x1, x2, vl⟩ with
  | false =>
    rw [hr] at N2
    rw [if_neg Bool.false_ne_true]
    clear hf hr hfp
    go_enter Try.func20, Try.ntmps20
    go_wp2_with fail
    rw [HW.out]
    refine N1.out.mono ?_
    rintro e w1 ⟨rfl, b1⟩
    have B1 := HBB.out.later b1
    have q0 := B1.cell (i := 0) rfl
    have q1 := B1.cell (i := 1) rfl
    have q2 := B1.cell (i := 2) rfl
    have q3 := B1.cell (i := 3) rfl
    have bb := below_on HB0.out b1
    clear N1 b1 B1
    go_wp2_with fail
    refine (N2.out _).mono ?_
    rintro e w2 ⟨rfl, b2⟩
    have BB := Lib.hid (below_on bb b2)
    clear N2 bb b2 q0 q1 q2 q3
    go_wp2
    go_ret2
    exact ⟨none, 0, [], rfl, rfl, OwnC.nil _ _, BB.out⟩
  | true =>
    rw [if_pos rfl]
    rw [hr] at N2
    obtain ⟨r0, r1, hl256, hused, hfits⟩ := hfp
    have hx256 := (Ca.right_obj hr).2.2
    dsimp only at hx256
    have hfl := Ca.forget_len (L.map Bc.b) x0
    have hfu := Ca.forget_used (L.map Bc.b) x0
    obtain ⟨F, hF⟩ : ∃ F, Ca.forget (L.map Bc.b) x0 = F := ⟨_, rfl⟩
    rw [List.length_map] at hfl
    have HFF := Lib.hid hF
    have HFITS := Lib.hid hfits
    rw [hF] at hfl hfu ⊢
    obtain ⟨uL, huL⟩ : ∃ u, Ca.used (L.map Bc.b) = u := ⟨_, rfl⟩
    rw [huL] at hused hfu
    clear hf hr hF huL hfits
    go_enter Try.func20, Try.ntmps20
    go_wp2_with fail
    rw [HW.out]
    refine N1.out.mono ?_
    rintro e w1 ⟨rfl, b1⟩
    have B1 := HBB.out.later b1
    have q0 := B1.cell (i := 0) rfl
    have q1 := B1.cell (i := 1) rfl
    have q2 := B1.cell (i := 2) rfl
    have q3 := B1.cell (i := 3) rfl
    have bb := below_on HB0.out b1
    clear N1 b1
    go_wp2_with fail
    refine (N2.out _).mono ?_
    rintro e W ⟨rfl, b2⟩
    have B2 := B1.later b2
    have bbW := below_on bb b2
    have hzW := bbW.size
    have HX := Lib.hid (show W.cell? ⟨w.heap.size, 0, none⟩ = some (.int .i64 x0) ∧ W.cell? ⟨w.heap.size, 1, none⟩ = some (.int .i64 x1) ∧ W.cell? ⟨w.heap.size, 2, none⟩ = some (.int .i64 x2) ∧ W.cell? ⟨w.heap.size, 3, none⟩ = some (.slice X vl.length d) from ⟨B2.cell rfl, B2.cell rfl, B2.cell rfl, B2.cell rfl⟩)
    have BBW := Lib.hid bbW
    have NF := Lib.hid (fun w' (hb : Below W.heap.size W w') => show Calls Try.prog 17 #[.slice A L.length cc, .int .i64 x0] w' (fun e w'' => ∃ v M, e = .returned v ∧ List.map Bc.b M = F ∧ OwnRC w'' w'.heap.size 38 5 v M ∧ Below w'.heap.size w' w'') from by rw [← HFF.out]; exact cforget_any A cc L x0 w' (HL.out.later (below_on bbW hb)) HFITS.out)
    have NB := Lib.hid (fun w' (hb : Below W.heap.size W w') => show Calls Try.prog 18 #[.agg #[.int .i64 x0, .int .i64 x1, .int .i64 x2, .slice X vl.length d]] w' (GivesBd ⟨x0, x1, x2, vl⟩ w') from cbody_any X d ⟨x0, x1, x2, vl⟩ w' (show vl.length ≤ 140737488355328 by omega) (HV.out.later (below_on bbW hb)))
    clear N2 bb b2 q0 q1 q2 q3 B1 B2 bbW
    go_upto_region 3 with (fail)
    refine wp_region_facts 7 (by kernel_rfl) (by kernel_rfl)
      (fun v => { tmps := #[.slice A L.length cc, .int .i64 room, .agg #[.int .i64 x0, .int .i64 x1, .int .i64 x2, .slice X vl.length d], undef, undef, .pointer (some ⟨w.heap.size, 0, none⟩), .slice none 0 0, .int .i64 0, undef, .slice A L.length cc, .int .i64 room, .bool true, .bool false, .bool false, .agg #[.int .i64 x0, .int .i64 x1, .int .i64 x2, .slice X vl.length d], .bool true, .bool false, .bool false, v 0, v 1, v 2, v 3, v 4, v 5, v 6, undef, undef, undef, undef, undef, undef, undef, undef], defers := [] }) (fun _ => undef)
      (fun i x wx => match i with
        | 0 => x = .slice A L.length cc
        | 1 => x = .pointer (some ⟨w.heap.size, 0, none⟩)
        | 2 => x = .int .i64 x0
        | 3 => ∃ VA e M, x = .slice VA (List.length M) e ∧ List.map Bc.b M = F ∧ OwnRC wx W.heap.size 38 5 (.slice VA (List.length M) e) M
        | 4 => x = .agg #[.int .i64 x0, .int .i64 x1, .int .i64 x2, .slice X vl.length d]
        | 5 => ∃ Y e, x = .agg #[.int .i64 x0, .int .i64 x1, .int .i64 x2, .slice Y vl.length e] ∧ wx.ownsRow W.heap.size 5 1 (.slice Y vl.length e) vl.length (bCells vl)
        | 6 => ∃ g Y e, x = .slice (some ⟨g, 0, none⟩) 1 1 ∧ Blk wx g 38 #[.int .i64 x0, .int .i64 x1, .int .i64 x2, .slice Y vl.length e] ∧ wx.ownsRow W.heap.size 5 1 (.slice Y vl.length e) vl.length (bCells vl)
        | _ => True)
      (fun w1 w2 => Below w1.heap.size w1 w2) (fun h1 h2 => below_on h1 h2) (fun _ => Below.refl _ _) (Below.drew (Below.refl _ _)) ?stab ?step ?done
    case stab =>
      rintro i x w1 w2 h hb
      match i, h with
      | 0, h => exact h
      | 1, h => exact h
      | 2, h => exact h
      | 3, h => obtain ⟨VA, e, M, h1, h2, h3⟩ := h; exact ⟨VA, e, M, h1, h2, h3.later hb⟩
      | 4, h => exact h
      | 5, h => obtain ⟨Y, e, h1, h2⟩ := h; exact ⟨Y, e, h1, own_later h2 hb⟩
      | 6, h => obtain ⟨g, Y, e, h1, h2, h3⟩ := h; exact ⟨g, Y, e, h1, h2.later hb, own_later h3 hb⟩
      | i + 7, _ => trivial
    case step =>
      intro i hi v w' hb hd
      match i, hi with
      | 0, _ =>
        refine wpOp_oneK rfl (fun KK hKK => ?_)
        have HKK := Lib.hid hKK
        clear hKK hd
        go_wp2
        exact HKK.out _ _ ⟨_, (by simp [upd]; done), Below.refl _ _, rfl⟩
      | 1, _ =>
        refine wpOp_oneK rfl (fun KK hKK => ?_)
        have HKK := Lib.hid hKK
        clear hKK hd
        go_wp2
        exact HKK.out _ _ ⟨_, (by simp [upd]; done), Below.refl _ _, rfl⟩
      | 2, _ =>
        have h1 : v 1 = _ := hd 1 (List.elem_iff.1 (by kernel_rfl))
        refine wpOp_oneK rfl (fun KK hKK => ?_)
        have HKK := Lib.hid hKK
        clear hKK hd
        rw [h1]
        have q0 := cell_later hb HX.out.1
        go_wp2
        exact HKK.out _ _ ⟨_, (by simp [upd, h1]; done), Below.refl _ _, rfl⟩
      | 3, _ =>
        have h0 : v 0 = _ := hd 0 (List.elem_iff.1 (by kernel_rfl))
        have h2 : v 2 = _ := hd 2 (List.elem_iff.1 (by kernel_rfl))
        refine wpOp_oneK rfl (fun KK hKK => ?_)
        have HKK := Lib.hid hKK
        clear hKK hd
        rw [h0, h2]
        have hsz := hb.size
        go_wp2_with fail
        refine (NF.out _ hb).mono ?_
        rintro e w'' ⟨u, M, rfl, hm, ho, b⟩
        obtain ⟨VA, ey, hu, -⟩ := ho.form
        subst hu
        have HO := Lib.hid (ho.lower hsz)
        have HM := Lib.hid hm
        clear ho hm
        go_wp2
        exact HKK.out _ _ ⟨_, (by simp [upd, h0, h2]; done), b, VA, ey, M, rfl, HM.out, HO.out⟩
      | 4, _ =>
        refine wpOp_oneK rfl (fun KK hKK => ?_)
        have HKK := Lib.hid hKK
        clear hKK hd
        have q0 := cell_later hb HX.out.1
        have q1 := cell_later hb HX.out.2.1
        have q2 := cell_later hb HX.out.2.2.1
        have q3 := cell_later hb HX.out.2.2.2
        go_wp2
        exact HKK.out _ _ ⟨_, (by simp [upd]; done), Below.refl _ _, rfl⟩
      | 5, _ =>
        have h4 : v 4 = _ := hd 4 (List.elem_iff.1 (by kernel_rfl))
        refine wpOp_oneK rfl (fun KK hKK => ?_)
        have HKK := Lib.hid hKK
        clear hKK hd
        rw [h4]
        have hsz := hb.size
        go_wp2_with fail
        refine (NB.out _ hb).mono ?_
        rintro e w'' ⟨Y, ey, rfl, ho, b⟩
        have HO := Lib.hid (own_base ho hsz)
        clear ho
        unfold bdCells
        go_wp2
        exact HKK.out _ _ ⟨_, (by simp [upd, h4]; done), b, Y, ey, rfl, HO.out⟩
      | 6, _ =>
        obtain ⟨Y5, e5, h5, o5⟩ := hd 5 (List.elem_iff.1 (by kernel_rfl))
        refine wpOp_oneK rfl (fun KK hKK => ?_)
        have HKK := Lib.hid hKK
        clear hKK hd
        rw [h5]
        have bn := below_new (Below.refl w'.heap.size w') (.cells #[.int .i64 x0, .int .i64 x1, .int .i64 x2, .slice Y5 vl.length e5] 38)
        have HO := Lib.hid (own_later o5 bn)
        have HBN := Lib.hid (Blk.new w' 38 #[.int .i64 x0, .int .i64 x1, .int .i64 x2, .slice Y5 vl.length e5])
        clear o5
        go_wp2
        exact HKK.out _ _ ⟨_, (by simp [upd, h5]; done), bn, _, Y5, e5, rfl, HBN.out, HO.out⟩
      | k + 7, hk => exact absurd hk (by omega)
    case done =>
      intro v w5 hb hf
      obtain ⟨Y3, e3, M3, h3, m3, o3⟩ := hf 3 (by decide)
      obtain ⟨g6, Y6, e6, h6, b6, o6⟩ := hf 6 (by decide)
      clear hf
      rw [h3, h6]
      simp only [List.drop_succ_cons, List.drop_zero]
      have hsz := hb.size
      have hml : M3.length = F.length := by have := congrArg List.length m3; simpa using this
      have hrow := o3.row
      have hyL : Lies w5 (some ⟨g6, 0, none⟩) (Ca.cell ⟨Y6, e6, ⟨x0, x1, x2, vl⟩⟩) := fun _ => ⟨g6, 0, rfl, fun j u hu => by
        rw [Nat.zero_add]
        exact b6.cell (by simpa [Ca.cell] using hu)⟩
      have HM3 := Lib.hid m3
      have HO3 := Lib.hid o3
      have HO6 := Lib.hid o6
      have HBW := Lib.hid hb
      have hm1 : M3.length ≤ 256 := by omega
      clear hb m3 o3 o6 b6 NF NB HX hml
      go_wp2_with (at_builtin; refine Go.Proofs.Ytmccednfaemiaaa.wpList_append_lies _ rfl _ _ 22 rfl W.heap.size 38 i0 (.agg #[.int .i64 0, .int .i64 0, .int .i64 0, .slice none 0 0]) 4 48 Try.underlying22 hI hZ0 hZ1 hZ2 rfl (by decide) _ M3.length (Ca.cells M3) rfl hrow (some ⟨g6, 0, none⟩) 1 1 (fun h => by cases h) (Ca.cell ⟨Y6, e6, ⟨x0, x1, x2, vl⟩⟩) rfl rfl hyL (by intro u hu; simp [Ca.cell] at hu; rcases hu with rfl | rfl | rfl | rfl <;> rfl) ?h63 ?hbytes hsz ?_)
      case h63 => unfold maxLen; omega
      case hbytes => omega
      intro v' wz hownz hgz _
      have bwz : Below W.heap.size W wz := HBW.out.grown hgz hsz (fun r e => own_ge hrow r e)
      have hRz := HO3.out.snoc (by decide) hgz ⟨Y6, e6, ⟨x0, x1, x2, vl⟩⟩ HO6.out HV.out.byte hownz
      obtain ⟨VZ, cz, hvz, hOz⟩ := hRz.form
      subst hvz
      obtain ⟨Z, hZ⟩ : ∃ Z, M3 ++ [(⟨Y6, e6, ⟨x0, x1, x2, vl⟩⟩ : Bc)] = Z := ⟨_, rfl⟩
      have hZm : Z.map Bc.b = F ++ [⟨x0, x1, x2, vl⟩] := by rw [← hZ, List.map_append, HM3.out]; rfl
      have hZu : Ca.used (Z.map Bc.b) ≤ 16777472 := by
        rw [hZm, Ca.used_append]
        simp only [Ca.used]
        omega
      rw [hZ] at hOz
      have hZl : M3.length + 1 = Z.length := by rw [← hZ, List.length_append]; rfl
      rw [hZ]
      have HO := Lib.hid (hOz.lower hzW)
      have HBZ := Lib.hid (below_on BBW.out bwz)
      have HZM := Lib.hid hZm
      clear hownz hgz hrow hyL bwz hRz hOz HM3 HO3 HO6 HBW hZ hZm hZl hsz
      go_wp2_with fail
      go_loopw [8] (fun s8 wr => ∃ (AZ : Option Addr) (c8 : Nat) (M : List Bc), s8 = .slice AZ M.length c8 ∧ OwnC wr w.heap.size AZ c8 M ∧ Ca.fit room (M.map Bc.b) = Ca.fit room (Z.map Bc.b) ∧ Ca.used (M.map Bc.b) ≤ 16777472 ∧ Below w.heap.size w wr) (fun s8 _ => match s8 with | .slice _ n _ => n | _ => 0)
      case atStart => exact ⟨VZ, cz, Z, rfl, HO.out, rfl, hZu, HBZ.out⟩
      case round =>
        obtain ⟨AZ, c8, M, rfl, hO, hfit, hMu, hbw⟩ := hrel
        have NU := Lib.hid (cused_any AZ c8 M wr hO.one (by omega))
        obtain ⟨u, hu⟩ : ∃ u, Ca.used (M.map Bc.b) = u := ⟨_, rfl⟩
        rw [hu] at NU hMu
        have HU := Lib.hid hu
        have HO := Lib.hid hO
        have HFIT := Lib.hid hfit
        have BW := Lib.hid hbw
        clear hO hfit hbw hu
        by_cases hroom : room < (u : Int)
        · have hd : decide (room < (u : Int)) = true := decide_eq_true hroom
          have hne : M ≠ [] := fun e => by
            have := HU.out
            rw [e] at this
            have h0 : u = 0 := this.symm
            omega
          cases M with
          | nil => exact absurd rfl hne
          | cons z r =>
            obtain ⟨b, off, hA, -⟩ := HO.out.one.at hne
            subst hA
            have hfg := Ca.fit_gone room z.b (r.map Bc.b) (by have := HU.out; rw [List.map_cons] at this; rw [this]; exact hroom)
            have hru : Ca.used (r.map Bc.b) ≤ 16777472 := by have := HU.out; rw [List.map_cons] at this; simp only [Ca.used] at this; omega
            have HFG := Lib.hid (show Ca.fit room (r.map Bc.b) = Ca.fit room (Z.map Bc.b) from by rw [← HFIT.out, List.map_cons, hfg])
            have hle := HO.out.one.le
            have hcap := HO.out.one.cap
            unfold maxLen at hcap
            rw [List.length_cons] at hle ⊢
            rw [List.length_cons] at NU
            clear hfg hne HFIT hroom
            by_cases hc1 : c8 = 1
            · subst hc1
              obtain ⟨hr0, hO2⟩ := HO.out.tail1
              subst hr0
              have HO2 := Lib.hid hO2
              clear hO2 HO
              go_wp2_with fail
              refine NU.out.mono ?_
              rintro e w9 ⟨rfl, b9⟩
              have HO3 := Lib.hid (HO2.out.later b9)
              have BB := Lib.hid (below_on BW.out b9)
              clear b9 NU
              go_wp2_with fail
              go_roundw
              case rel => exact ⟨some ⟨b, off, none⟩, 0, [], by first | rfl | trivial | simp, HO3.out, HFG.out, hru, BB.out⟩
              case measure => simp
            · have HO2 := Lib.hid (HO.out.tail)
              clear HO
              go_wp2_with fail
              refine NU.out.mono ?_
              rintro e w9 ⟨rfl, b9⟩
              have HO3 := Lib.hid (HO2.out.later b9)
              have BB := Lib.hid (below_on BW.out b9)
              clear b9 NU
              go_wp2_with fail
              go_roundw
              case rel => exact ⟨some ⟨b, off + 4, none⟩, c8 - 1, r, by first | rfl | trivial | simp, HO3.out, HFG.out, hru, BB.out⟩
              case measure => simp
        · have hd : decide (room < (u : Int)) = false := decide_eq_false hroom
          have hst := Ca.fit_stay room (M.map Bc.b) (by rw [HU.out]; exact hroom)
          have HST := Lib.hid (show M.map Bc.b = Ca.fit room (F ++ [⟨x0, x1, x2, vl⟩]) from by rw [← HZM.out, ← HFIT.out, hst])
          clear hst hroom
          go_wp2_with fail
          refine NU.out.mono ?_
          rintro e w9 ⟨rfl, b9⟩
          have HO3 := Lib.hid (HO.out.later b9)
          have BB := Lib.hid (below_on BW.out b9)
          clear b9 NU
          go_wp2
          go_ret2
          exact ⟨AZ, c8, M, rfl, HST.out, HO3.out, BB.out⟩
end Go.Proofs.Ytmccednfaemiaaa
