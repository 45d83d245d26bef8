/-
  What the landed cache's Forget and Get answer.
-/
import Derived.Test.YtmccednfaemiaaaCdA
namespace Go.Proofs.Ytmccednfaemiaaa
open Go.RowKit

set_option maxRecDepth 100000 in
set_option maxHeartbeats 3200000 in
theorem cdforget_any (A : Option Addr) (c : Nat) (L : List Bc) (o : Int) (w : World) (h : OneC w A c L) (hf : Fits L) :
    Calls Try.prog 16 #[.slice A L.length c, .int .i64 o] w fun e w' => ∃ v M, e = .returned v ∧ M.map Bc.b = Ca.forget (L.map Bc.b) o ∧ OwnRC w' w.heap.size 38 5 v M ∧ Below w.heap.size w w' := by
  obtain ⟨i0, hI, hZ0, hZ1, hZ2⟩ := info_parts infoBdy
  have hn := hf.n
  have HL := Lib.hid h
  have HZ := Lib.hid hf.each
  have HY := Lib.hid (fun k hk hx => Ca.forget_yes (L := L) (k := k) (o := o) hk hx)
  have HN := Lib.hid (fun k hk hx => Ca.forget_no (L := L) (k := k) (o := o) hk hx)
  clear h hf
  go_enter Try.func16, Try.ntmps16
  go_wp2_with fail
  go_loopw [5, 10] (fun s5 s10 wr => ∃ (k : Nat) (M : List Bc), k ≤ L.length ∧ s10 = .int .i64 (k : Int) ∧ M.map Bc.b = Ca.forget ((L.take k).map Bc.b) o ∧ OwnRC wr w.heap.size 38 5 s5 M ∧ Below w.heap.size w wr) (fun _ s10 _ => L.length - (intOf s10).toNat)
  case atStart => exact ⟨0, [], Nat.zero_le _, rfl, rfl, OwnRC.nil _ _ _ _, Below.refl _ _⟩
  case round =>
    obtain ⟨k, M, hk, rfl, hM, hR, hbw⟩ := hrel
    by_cases hlt : k < L.length
    · have hml : M.length ≤ k := by
        have h1 := congrArg List.length hM
        have h2 := Ca.forget_len ((L.take k).map Bc.b) o
        rw [List.length_map] at h1
        rw [List.length_map, List.length_take] at h2
        omega
      have hne : L ≠ [] := fun e => by subst e; simp at hlt
      obtain ⟨b, off, hA, hcs⟩ := (HL.out.later hbw).at hne
      obtain ⟨e0, e1, e2, e3⟩ := hcs k hlt
      have hxb := (HL.out.later hbw).each _ (Ca.getD_mem hlt)
      have hxz := HZ.out _ (Ca.getD_mem hlt)
      have hty := HY.out k hlt
      have htn := HN.out k hlt
      subst hA
      have hi0 : (0 : Int) ≤ (k : Int) := by omega
      have hi1 : (k : Int) < (L.length : Int) := by omega
      obtain ⟨x, hx⟩ : ∃ x, L.getD k Bc.zero = x := ⟨_, rfl⟩
      rw [hx] at e0 e1 e2 e3 hxb hxz hty htn
      obtain ⟨X, d, ⟨x0, x1, x2, v⟩⟩ := x
      dsimp only at e0 e1 e2 e3 hxb hxz hty htn
      obtain ⟨VA, vc, hvv, -, -, -, -⟩ := own_form hR.row
      subst hvv
      have bx := below_new (Below.refl wr.heap.size wr) (.cells #[.int .i64 x0, .int .i64 x1, .int .i64 x2, .slice X v.length d] 38)
      have hX := Blk.new wr 38 #[.int .i64 x0, .int .i64 x1, .int .i64 x2, .slice X v.length d]
      obtain ⟨W1, hW1⟩ : ∃ W1, wr.alloc (.cells #[.int .i64 x0, .int .i64 x1, .int .i64 x2, .slice X v.length d] 38) = W1 := ⟨_, rfl⟩
      rw [hW1] at bx hX
      have HW1 := Lib.hid hW1
      have HX := Lib.hid hX
      have q0 := hX.cell (i := 0) rfl
      have HM := Lib.hid hM
      have HR := Lib.hid (hR.later bx)
      have BW := Lib.hid (below_on hbw bx)
      have HIB := Lib.hid hxb.byte
      have hxb := hxb.later bx
      clear hW1 hX bx
      by_cases hd : x0 = o
      · have hd1 : (x0 != o) = false := by rw [bne_eq_false_iff_eq]; exact hd
        have HTN := Lib.hid (htn hd)
        clear hcs hx hxb hxz hty htn hM hR hbw hd
        go_upto_region 5 with (fail)
        rw [HW1.out]
        clear HW1 e0 e1 e2 e3
        go_wp2_with fail
        go_roundw
        case rel => exact ⟨k + 1, M, by omega, by go_num, by rw [HTN.out]; exact HM.out, HR.out, BW.out⟩
        case measure => simp [intOf]; omega
      have hd1 : (x0 != o) = true := by rw [bne_iff_ne]; exact hd
      have HTS := Lib.hid (hty hd)
      have NB := Lib.hid (show Calls Try.prog 27 #[.agg #[.int .i64 x0, .int .i64 x1, .int .i64 x2, .slice X v.length d]] W1 (GivesBd ⟨x0, x1, x2, v⟩ W1) from cdown_any X d ⟨x0, x1, x2, v⟩ W1 hxz hxb)
      have q1 := HX.out.cell (i := 1) rfl
      have q2 := HX.out.cell (i := 2) rfl
      have q3 := HX.out.cell (i := 3) rfl
      clear hcs hx hxb hxz hty htn hM hR hbw hd
      go_upto_region 5 with (fail)
      rw [HW1.out]
      clear HW1 e0 e1 e2 e3
      go_wp2_with fail
      refine NB.out.mono ?_
      rintro e w2 ⟨Y, dy, rfl, hoy, b2⟩
      unfold bdCells
      dsimp only at hoy ⊢
      have bz := below_new (Below.refl w2.heap.size w2) (.cells #[.int .i64 x0, .int .i64 x1, .int .i64 x2, .slice Y v.length dy] 38)
      have hR2 := HR.out.later (below_on b2 bz)
      have hoy2 := own_later (own_base hoy BW.out.size) bz
      have hbw2 := below_on (below_on BW.out b2) bz
      have hszw := hbw2.size
      have hy1 : Lies (w2.alloc (.cells #[.int .i64 x0, .int .i64 x1, .int .i64 x2, .slice Y v.length dy] 38)) (some ⟨w2.heap.size, 0, none⟩) (Ca.cell ⟨Y, dy, ⟨x0, x1, x2, v⟩⟩) := fun _ => ⟨w2.heap.size, 0, rfl, fun j u hu => by
        rw [Nat.zero_add]
        exact (Blk.new w2 38 #[.int .i64 x0, .int .i64 x1, .int .i64 x2, .slice Y v.length dy]).cell (by simpa [Ca.cell] using hu)⟩
      have HR2 := Lib.hid hR2
      have HO2 := Lib.hid hoy2
      have hrow := hR2.row
      clear b2 hR2 hoy2 hoy NB
      go_wp2_with (at_builtin; refine Go.Proofs.Ytmccednfaemiaaa.wpList_append_lies _ rfl _ _ 22 rfl w.heap.size 38 i0 (.agg #[.int .i64 0, .int .i64 0, .int .i64 0, .slice none 0 0]) 4 48 Try.underlying22 hI hZ0 hZ1 hZ2 rfl (by decide) _ M.length (Ca.cells M) rfl hrow (some ⟨w2.heap.size, 0, none⟩) 1 1 (fun h => by cases h) (Ca.cell ⟨Y, dy, ⟨x0, x1, x2, v⟩⟩) rfl rfl hy1 (by intro u hu; simp [Ca.cell] at hu; rcases hu with rfl | rfl | rfl | rfl <;> rfl) ?h63 ?hbytes hszw ?_)
      case h63 => unfold maxLen; omega
      case hbytes => omega
      intro v' wz hownz hgz _
      have bwz : Below w.heap.size w wz := hbw2.grown hgz (by omega) (fun r e => own_ge hrow r e)
      have hRz := HR2.out.snoc (by decide) hgz ⟨Y, dy, ⟨x0, x1, x2, v⟩⟩ HO2.out HIB.out hownz
      obtain ⟨gv, capv, rfl⟩ := ownsRow_succ hownz
      have HQ := Lib.hid (And.intro hRz bwz)
      clear hownz hgz hrow hy1 bwz hRz hbw2 bz
      go_wp2_with fail
      go_roundw
      case rel => exact ⟨k + 1, M ++ [⟨Y, dy, ⟨x0, x1, x2, v⟩⟩], by omega, by go_num, by rw [List.map_append, HM.out, HTS.out]; rfl, HQ.out.1, HQ.out.2⟩
      case measure => simp [intOf]; omega
    · obtain rfl : k = L.length := by omega
      rw [List.take_length] at hM
      have HR := Lib.hid hR
      obtain ⟨VA, vc, hvv, -, -, -, -⟩ := own_form hR.row
      subst hvv
      have HM := Lib.hid hM
      have BW := Lib.hid hbw
      clear hM hR hbw
      go_wp2
      go_ret
      exact ⟨_, M, rfl, HM.out, HR.out, BW.out⟩

set_option maxRecDepth 100000 in
set_option maxHeartbeats 3200000 in
theorem cdget_any (A : Option Addr) (c : Nat) (L : List Bc) (o sc sn : Int) (w : World) (h : OneC w A c L) (hf : Fits L) :
    Calls Try.prog 10 #[.slice A L.length c, .int .i64 o, .agg #[.int .i64 sc, .int .i64 sn]] w (GivesVE (Ca.getR (L.map Bc.b) o sc sn).1 (Ca.getR (L.map Bc.b) o sc sn).2 w) := by
  have hn := hf.n
  have HL := Lib.hid h
  have HZ := Lib.hid hf.each
  have HY := Lib.hid (fun k hk hb hx => Ca.get_yes (L := L) (k := k) (o := o) (c := sc) (n := sn) hk hb hx)
  have HN := Lib.hid (fun hb => Ca.get_no (L := L) (o := o) (c := sc) (n := sn) hb)
  obtain ⟨R, hR⟩ : ∃ R, Ca.getR (L.map Bc.b) o sc sn = R := ⟨_, rfl⟩
  rw [hR] at HY HN ⊢
  have b0 := below_new (Below.refl w.heap.size w) (.cells #[.int .i64 sc, .int .i64 sn] 24)
  have B0 := Blk.new w 24 #[.int .i64 sc, .int .i64 sn]
  obtain ⟨W, hW⟩ : ∃ W, w.alloc (.cells #[.int .i64 sc, .int .i64 sn] 24) = W := ⟨_, rfl⟩
  rw [hW] at b0 B0
  have HW := Lib.hid hW
  have HB := Lib.hid b0
  have HS := Lib.hid B0
  clear h hf hR hW b0 B0
  go_enter Try.func10, Try.ntmps10
  go_wp2_with fail
  rw [HW.out]
  go_loopw [12] (fun s12 wr => ∃ k : Nat, k ≤ L.length ∧ s12 = .int .i64 (k : Int) ∧ (∀ j, j < k → ¬ Ca.isAt (L.getD j Bc.zero).b o sc sn) ∧ Below W.heap.size W wr) (fun s12 _ => L.length - (intOf s12).toNat)
  case atStart => exact ⟨0, Nat.zero_le _, rfl, fun j hj => by omega, Below.refl _ _⟩
  case round =>
    obtain ⟨k, hk, rfl, hno, hbw⟩ := hrel
    by_cases hlt : k < L.length
    · have hne : L ≠ [] := fun e => by subst e; simp at hlt
      have hbb := below_on HB.out hbw
      obtain ⟨b, off, hA, hcs⟩ := (HL.out.later hbb).at hne
      obtain ⟨e0, e1, e2, e3⟩ := hcs k hlt
      have hxb := (HL.out.later hbb).each _ (Ca.getD_mem hlt)
      have hxz := HZ.out _ (Ca.getD_mem hlt)
      have hy := HY.out k hlt hno
      have HL' := HL
      subst hA
      have hi0 : (0 : Int) ≤ (k : Int) := by omega
      have hi1 : (k : Int) < (L.length : Int) := by omega
      have hS := HS.out.later hbw
      have s0 := hS.cell (i := 0) rfl
      have s1 := hS.cell (i := 1) rfl
      obtain ⟨x, hx⟩ : ∃ x, L.getD k Bc.zero = x := ⟨_, rfl⟩
      rw [hx] at e0 e1 e2 e3 hxb hxz hy
      obtain ⟨X, d, ⟨x0, x1, x2, v⟩⟩ := x
      dsimp only at e0 e1 e2 e3 hxb hxz hy
      have bx := below_new (Below.refl wr.heap.size wr) (.cells #[.int .i64 x0, .int .i64 x1, .int .i64 x2, .slice X v.length d] 38)
      have hXB := Blk.new wr 38 #[.int .i64 x0, .int .i64 x1, .int .i64 x2, .slice X v.length d]
      obtain ⟨W1, hW1⟩ : ∃ W1, wr.alloc (.cells #[.int .i64 x0, .int .i64 x1, .int .i64 x2, .slice X v.length d] 38) = W1 := ⟨_, rfl⟩
      rw [hW1] at bx hXB
      have HW1 := Lib.hid hW1
      have p0 := hXB.cell (i := 0) rfl
      have p1 := hXB.cell (i := 1) rfl
      have p2 := hXB.cell (i := 2) rfl
      have p3 := hXB.cell (i := 3) rfl
      have t0 := cell_later bx s0
      have t1 := cell_later bx s1
      have hbw := below_on hbw bx
      have hbb := below_on hbb bx
      have hxb := hxb.later bx
      clear hW1 hXB bx s0 s1
      have HX := Lib.hid hx
      have HNO := Lib.hid hno
      have BW := Lib.hid hbw
      have BB := Lib.hid hbb
      have XB := Lib.hid hxb
      have hnext : ¬ Ca.isAt ⟨x0, x1, x2, v⟩ o sc sn → ∀ j, j < k + 1 → ¬ Ca.isAt (L.getD j Bc.zero).b o sc sn := fun h1 j hj => by
        by_cases e : j = k
        · subst e; rw [hx]; exact h1
        · exact hno j (by omega)
      have HNX := Lib.hid hnext
      have HYY := Lib.hid hy
      clear hcs hx hno hbw hbb hxb hy hnext hS
      by_cases q0 : x0 = o
      · by_cases q1 : x1 = sc
        · by_cases q2 : x2 = sn
          · have d0 : (x0 == o) = true := beq_iff_eq.2 q0
            have d1 : (x1 == sc) = true := beq_iff_eq.2 q1
            have d2 : (x2 == sn) = true := beq_iff_eq.2 q2
            have HR := Lib.hid (HYY.out ⟨q0, q1, q2⟩)
            clear q0 q1 q2
            have NC := Lib.hid (scloneB_any X d v W1 hxz XB.out)
            go_upto_region 4 with (fail)
            rw [HW1.out]
            clear HW1 e0 e1 e2 e3
            go_wp2_with fail
            refine NC.out.mono ?_
            rintro e w3 ⟨u, rfl, ho, b3⟩
            have HO := Lib.hid (own_base ho BB.out.size)
            have BB3 := Lib.hid (below_on BB.out b3)
            clear ho b3
            go_wp2
            go_ret2
            rw [HR.out]
            exact ⟨_, rfl, HO.out, BB3.out⟩
          · have d0 : (x0 == o) = true := beq_iff_eq.2 q0
            have d1 : (x1 == sc) = true := beq_iff_eq.2 q1
            have d2 : (x2 == sn) = false := beq_eq_false_iff_ne.2 q2
            have HX2 := Lib.hid (HNX.out (fun h => q2 h.2.2))
            clear q0 q1 q2
            go_upto_region 4 with (fail)
            rw [HW1.out]
            clear HW1 e0 e1 e2 e3
            go_wp2_with fail
            go_roundw
            case rel => exact ⟨k + 1, by omega, by go_num, HX2.out, BW.out⟩
            case measure => simp [intOf]; omega
        · have d0 : (x0 == o) = true := beq_iff_eq.2 q0
          have d1 : (x1 == sc) = false := beq_eq_false_iff_ne.2 q1
          have HX2 := Lib.hid (HNX.out (fun h => q1 h.2.1))
          clear q0 q1
          go_upto_region 4 with (fail)
          rw [HW1.out]
          clear HW1 e0 e1 e2 e3
          go_wp2_with fail
          go_roundw
          case rel => exact ⟨k + 1, by omega, by go_num, HX2.out, BW.out⟩
          case measure => simp [intOf]; omega
      · have d0 : (x0 == o) = false := beq_eq_false_iff_ne.2 q0
        have HX2 := Lib.hid (HNX.out (fun h => q0 h.1))
        clear q0
        go_upto_region 4 with (fail)
        rw [HW1.out]
        clear HW1 e0 e1 e2 e3
        go_wp2_with fail
        go_roundw
        case rel => exact ⟨k + 1, by omega, by go_num, HX2.out, BW.out⟩
        case measure => simp [intOf]; omega
    · obtain rfl : k = L.length := by omega
      have hR := HN.out hno
      subst hR
      have BB := Lib.hid (below_on HB.out hbw)
      clear hno hbw
      go_wp2
      go_ret2
      exact ⟨_, rfl, ⟨rfl, .inl ⟨rfl, rfl⟩⟩, BB.out⟩

end Go.Proofs.Ytmccednfaemiaaa
