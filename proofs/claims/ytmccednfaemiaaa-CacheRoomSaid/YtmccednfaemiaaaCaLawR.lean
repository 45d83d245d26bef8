/-
  The law CacheRoom over the contracts of cache's functions.
-/
import Derived.Test.YtmccednfaemiaaaCaRoomM
namespace Go.Proofs.Ytmccednfaemiaaa
open Go.RowKit Fb

set_option maxRecDepth 100000 in
set_option maxHeartbeats 12800000 in
theorem lawCRoom_any (SS : CacheSpec) (A : Option Addr) (c0 : Nat) (L : List Bc) (r : Int) (w : World) (h : OneC w A c0 L) (hr0 : 0 ≤ r) (hr1 : r ≤ 65535) :
    Calls Try.prog 5 #[.slice A L.length c0, .int .u16 r] w (Says (.bool true) w) := by
  obtain ⟨i0, hI, hZ0, hZ1, hZ2⟩ := info_parts infoBdy
  have HL := Lib.hid h
  have hll := h.len
  have N0 := Lib.hid (calive_any SS w)
  by_cases hg : 60 < L.length
  · have hd : decide ((60 : Int) < (L.length : Int)) = true := decide_eq_true (by omega)
    clear hg h
    go_enter Try.func5, Try.ntmps5
    go_wp2_with fail
    refine N0.out.mono ?_
    rintro e w1 ⟨rfl, b1⟩
    have B1 := Lib.hid b1
    clear b1 N0
    go_wp2
    go_ret
    exact ⟨rfl, B1.out⟩
  have hd : decide ((60 : Int) < (L.length : Int)) = false := decide_eq_false (by omega)
  have hl60 : L.length ≤ 60 := by omega
  have hcv : IntKind.i64.wrap r = r := IntWalk.i64_in _ (by omega)
  have HFN := Lib.hid (Ca.fmd_nil hr0 (show r ≤ 16777216 by omega))
  clear hg h hll
  go_enter Try.func5, Try.ntmps5
  go_wp2_with fail
  refine N0.out.mono ?_
  rintro e w1 ⟨rfl, b1⟩
  have B1 := Lib.hid b1
  clear b1 N0
  go_wp2_with fail
  go_loopw [5, 6, 7] (fun s5 s6 s7 wr => ∃ (k cs : Nat) (As : Option Addr) (M C : List Bc), k ≤ L.length ∧ s7 = .int .i64 (k : Int) ∧ s5 = .slice As M.length cs ∧ OneC wr As cs M ∧ Ca.fmd (M.map Bc.b) r = true ∧ (M.map Bc.b).Sublist (C.map Bc.b) ∧ C.length ≤ k ∧ wr.ownsRow w.heap.size 38 4 s6 C.length (Ca.cells C) ∧ (∀ z ∈ C, z ∈ L) ∧ Below w.heap.size w wr) (fun _ _ s7 _ => L.length - (intOf s7).toNat)
  case atStart => exact ⟨0, 0, none, [], [], Nat.zero_le _, rfl, rfl, OneC.nil _, HFN.out, List.Sublist.refl _, Nat.le_refl _, ⟨rfl, .inl ⟨rfl, rfl⟩⟩, (fun z hz => by cases hz), B1.out⟩
  case round =>
    clear HFN B1
    obtain ⟨k, cs, As, M, C, hk, rfl, rfl, hO, hfm, hsub, hCk, hrow, hCL, hbw⟩ := hrel
    obtain ⟨VA, vc, hvv, gv1, gv2, gv3, gv4⟩ := own_form hrow
    subst hvv
    by_cases hlt : k < L.length
    · clear gv1 gv2 gv3 gv4
      have hi0 : (0 : Int) ≤ (k : Int) := by omega
      have hi1 : (k : Int) < (L.length : Int) := by omega
      have hne : L ≠ [] := fun e => by subst e; simp at hlt
      obtain ⟨b, off, hA, hcs⟩ := (HL.out.later hbw).at hne
      have hE := hcs k hlt
      have hxb := (HL.out.later hbw).each _ (Ca.getD_mem hlt)
      have hxm := Ca.getD_mem hlt
      have HL' := HL
      subst hA
      obtain ⟨zx, hx⟩ : ∃ x, L.getD k Bc.zero = x := ⟨_, rfl⟩
      rw [hx] at hE hxb hxm
      have hwr := fun (hb : Wi.bright zx.b = true) => Ca.put_room hfm hsub (by rw [List.length_map]; omega) hb
      have hwn := fun (hb : Wi.bright zx.b = false) => Ca.put_wrong hfm hb
      have hcell : Ca.cell zx = (bdCells zx.X zx.d zx.b).toList := rfl
      obtain ⟨X, d, xb⟩ := zx
      obtain ⟨x0, x1, x2, vl⟩ := xb
      dsimp only at hE hxb hwr hwn
      obtain ⟨e0, e1, e2, e3⟩ := hE
      have HXM := Lib.hid hxm
      have HE0 := Lib.hid (And.intro e0 (And.intro e1 (And.intro e2 e3)))
      have hml : M.length ≤ 256 := by have := (Ca.fmd_parts hfm).2.2.1; omega
      have NP := Lib.hid (show Calls Try.prog 19 #[.slice As M.length cs, .int .i64 r, .agg #[.int .i64 x0, .int .i64 x1, .int .i64 x2, .slice X vl.length d]] wr (GivesCE (Ca.putR (M.map Bc.b) r ⟨x0, x1, x2, vl⟩).1 (Ca.putR (M.map Bc.b) r ⟨x0, x1, x2, vl⟩).2 wr) from SS.put As X cs d M r ⟨x0, x1, x2, vl⟩ wr hO hxb)
      have BW := Lib.hid hbw
      have HO := Lib.hid hO
      have HFM := Lib.hid hfm
      have HSUB := Lib.hid hsub
      have HROW := Lib.hid hrow
      have HCL := Lib.hid hCL
      have HXB := Lib.hid hxb
      cases hbr : Wi.bright ⟨x0, x1, x2, vl⟩ with
      | false =>
        have hp := hwn hbr
        have HPP := Lib.hid hp
        have NR := Lib.hid (fun w' => show Calls Try.prog 24 #[.agg #[.int .i64 x0, .int .i64 x1, .int .i64 x2, .slice X vl.length d]] w' (Says (.bool false) w') from by rw [← hbr]; exact bright_any X d ⟨x0, x1, x2, vl⟩ w')
        rw [hp] at NP
        dsimp only at NP
        clear hcs hx hxb hxm hwr hwn hcell hO hfm hsub hrow hCL hbw hp hbr HE0
        go_wp2_with fail
        refine NP.out.mono ?_
        rintro e w2 ⟨A2, c2, M2, rfl, -, -, b2⟩
        have e0 := cell_later b2 e0
        have e1 := cell_later b2 e1
        have e2 := cell_later b2 e2
        have e3 := cell_later b2 e3
        have HB2 := Lib.hid b2
        clear b2 NP
        go_wp2_with fail
        refine (NR.out _).mono ?_
        rintro e w3 ⟨rfl, b3⟩
        have b23 := below_on HB2.out b3
        have BB := Lib.hid (below_on BW.out b23)
        have HO3 := Lib.hid (HO.out.later b23)
        have HR3 := Lib.hid (own_later HROW.out b23)
        clear b3 b23 NR HB2 e0 e1 e2 e3
        go_wp2_with fail
        go_roundw
        case rel => exact ⟨k + 1, cs, As, M, C, by omega, by go_num, rfl, HO3.out, HFM.out, HSUB.out, by omega, HR3.out, HCL.out, BB.out⟩
        case measure => simp [intOf]; omega
      | true =>
        obtain ⟨hp1, hp2, hp3, hp4⟩ := hwr hbr
        rw [hp1] at NP
        dsimp only at NP hp2 hp3 hp4
        obtain ⟨S', hS'⟩ : ∃ S', Ca.fit r (Ca.forget (M.map Bc.b) x0 ++ [⟨x0, x1, x2, vl⟩]) = S' := ⟨_, rfl⟩
        rw [hS'] at NP hp2 hp3 hp4
        have hv256 := (Ca.right_obj hbr).2.2
        dsimp only at hv256
        obtain ⟨n, hn⟩ : ∃ n, vl.length = n := ⟨_, rfl⟩
        rw [hn] at hv256
        have HP2 := Lib.hid hp2
        have HP3 := Lib.hid hp3
        have HP4 := Lib.hid hp4
        have HN := Lib.hid hn
        have HX := Lib.hid hx
        clear hcs hx hxb hxm hwr hwn hcell hO hfm hsub hrow hCL hbw hp1 hp2 hp3 hp4 hS' hbr hn
        go_wp2_with fail
        refine NP.out.mono ?_
        rintro e w2 ⟨A7, c7, M7, rfl, hM7, hO7, b2⟩
        have HM7 := Lib.hid hM7
        have f0 := cell_later b2 e0
        have f1 := cell_later b2 e1
        have f2 := cell_later b2 e2
        have f3 := cell_later b2 e3
        have bz := below_new (Below.refl w2.heap.size w2) (.cells #[.int .i64 x0, .int .i64 x1, .int .i64 x2, .slice X vl.length d] 38)
        have hrow2 := own_later HROW.out (below_on b2 bz)
        have bb2 := below_on BW.out (below_on b2 bz)
        have hszw := bb2.size
        have hy1 : Lies (w2.alloc (.cells #[.int .i64 x0, .int .i64 x1, .int .i64 x2, .slice X vl.length d] 38)) (some ⟨w2.heap.size, 0, none⟩) (Ca.cell ⟨X, d, ⟨x0, x1, x2, vl⟩⟩) := fun _ => ⟨w2.heap.size, 0, rfl, fun j u hu => by
          rw [Nat.zero_add]
          exact (Blk.new w2 38 #[.int .i64 x0, .int .i64 x1, .int .i64 x2, .slice X vl.length d]).cell (by simpa [Ca.cell] using hu)⟩
        have HO2 := Lib.hid (hO7.later bz)
        have HB2 := Lib.hid bb2
        have HW0 := Lib.hid (below_on b2 bz)
        have hwr0 : ∀ q, (Value.slice VA C.length vc).ownBlock = some q → q < wr.heap.size := own_lt HROW.out
        have HQ0 := Lib.hid hwr0
        clear hM7 hO7 b2 bz bb2 NP hwr0
        go_wp2_with (at_builtin; refine Go.Proofs.Ytmccednfaemiaaa.wpList_append_lies _ rfl _ _ 22 rfl w.heap.size 38 i0 (.agg #[.int .i64 0, .int .i64 0, .int .i64 0, .slice none 0 0]) 4 48 Try.underlying22 hI hZ0 hZ1 hZ2 rfl (by decide) _ C.length (Ca.cells C) rfl hrow2 (some ⟨w2.heap.size, 0, none⟩) 1 1 (fun h => by cases h) (Ca.cell ⟨X, d, ⟨x0, x1, x2, vl⟩⟩) rfl rfl hy1 (by intro u hu; simp [Ca.cell] at hu; rcases hu with rfl | rfl | rfl | rfl <;> rfl) ?h63 ?hbytes hszw ?_)
        case h63 => unfold maxLen; omega
        case hbytes => omega
        intro v' wz hownz hgz _
        have bwz : Below w.heap.size w wz := HB2.out.grown hgz (by omega) (fun r e => own_ge hrow2 r e)
        have hst : ∀ q, wr.heap.size ≤ q → q < (w2.alloc (.cells #[.int .i64 x0, .int .i64 x1, .int .i64 x2, .slice X vl.length d] 38)).heap.size → wz.heap[q]? = (w2.alloc (.cells #[.int .i64 x0, .int .i64 x1, .int .i64 x2, .slice X vl.length d] 38)).heap[q]? := fun q hq1 hq2 => hgz.block q hq2 (fun e => by have := HQ0.out q e.symm; omega)
        have hO3 : OneC wz A7 c7 M7 := by
          have ho := HO2.out
          refine ⟨ho.one.le, ho.one.cap, ho.one.noA, fun hne => ?_, fun z hz => ⟨(ho.one.each z hz).le, (ho.one.each z hz).cap, (ho.one.each z hz).noA, fun hne => ?_, (ho.one.each z hz).byte⟩⟩
          · obtain ⟨bq, oq, e, hc⟩ := ho.one.lies hne
            refine ⟨bq, oq, e, fun j u hu => (World.cell?_of_block (hst bq (ho.row bq oq e) ?_)).trans (hc j u hu)⟩
            have := World.block_lt_of_cell? _ _ (hc j u hu)
            simpa using this
          · obtain ⟨bq, oq, e, hc⟩ := (ho.one.each z hz).lies hne
            obtain ⟨g1, g2, -⟩ := ho.byte z hz bq oq e
            exact ⟨bq, oq, e, fun j u hu => (World.cell?_of_block (hst bq g1 g2)).trans (hc j u hu)⟩
        have hLz := HL'.out.later bwz
        obtain ⟨bL, offL, hAL, hcL⟩ := hLz.at (fun e => by rw [e] at hlt; exact absurd hlt (Nat.not_lt_zero _))
        injection hAL with hAL
        injection hAL with hAL1 hAL2
        subst hAL1 hAL2
        have hEz := hcL k hlt
        obtain ⟨gv, capv, hvz⟩ := ownsRow_succ hownz
        subst hvz
        have HOZ := Lib.hid hO3
        have HRZ := Lib.hid (show wz.ownsRow w.heap.size 38 4 (.slice (some ⟨gv, 0, none⟩) (C.length + 1) capv) (C ++ [(⟨X, d, ⟨x0, x1, x2, vl⟩⟩ : Bc)]).length (Ca.cells (C ++ [(⟨X, d, ⟨x0, x1, x2, vl⟩⟩ : Bc)])) from by
          rw [Ca.cells_append, List.length_append]
          have : Ca.cells [(⟨X, d, ⟨x0, x1, x2, vl⟩⟩ : Bc)] = Ca.cell ⟨X, d, ⟨x0, x1, x2, vl⟩⟩ := List.append_nil _
          rw [this]
          exact hownz)
        have BZ := Lib.hid bwz
        have hus := (Ca.fmd_parts (L := M7) (room := r) (by rw [HM7.out]; exact HP2.out))
        have HFITS := Lib.hid hus.2.2.2.2
        obtain ⟨uS, huS⟩ : ∃ u, Ca.used (M7.map Bc.b) = u := ⟨_, rfl⟩
        have NU := Lib.hid (show Calls Try.prog 13 #[.slice A7 M7.length c7] wz (Says (.int .i64 (uS : Int)) wz) from by rw [← huS]; exact SS.used A7 c7 M7 wz hO3 (by omega))
        have hur : decide (r < (uS : Int)) = false := decide_eq_false (by rw [← huS]; omega)
        have HE := Lib.hid hEz
        clear hO3 hst hownz hgz hrow2 hy1 bwz hLz hcL hEz hus huS HO2 HB2 HW0 HQ0 f0 f1 f2 f3 e0 e1 e2 e3 HE0
        go_wp2_with fail
        refine NU.out.mono ?_
        rintro e w3 ⟨rfl, b3⟩
        have HOZ3 := Lib.hid (HOZ.out.later b3)
        have HRZ3 := Lib.hid (own_later HRZ.out b3)
        have BZ3 := Lib.hid (below_on BZ.out b3)
        have NFM := Lib.hid (show Calls Try.prog 21 #[.slice A7 M7.length c7, .int .i64 r] w3 (Says (.bool true) w3) from by
          have := SS.formed A7 c7 M7 r w3 (HOZ.out.later b3)
          rwa [HM7.out, HP2.out] at this)
        clear b3 NU HOZ HRZ BZ HE
        go_wp2_with fail
        refine NFM.out.mono ?_
        rintro e w4 ⟨rfl, b4⟩
        have HOZ4 := Lib.hid (HOZ3.out.later b4)
        have HRZ4 := Lib.hid (own_later HRZ3.out b4)
        have BZ4 := Lib.hid (below_on BZ3.out b4)
        have hL4 := HL'.out.later (below_on BZ3.out b4)
        obtain ⟨bL, offL, hAL, hcL⟩ := hL4.at (fun e => by rw [e] at hlt; exact absurd hlt (Nat.not_lt_zero _))
        injection hAL with hAL
        injection hAL with hAL1 hAL2
        subst hAL1 hAL2
        have hE4 := hcL k hlt
        rw [HX.out] at hE4
        dsimp only at hE4
        obtain ⟨e0, e1, e2, e3⟩ := hE4
        have HE := Lib.hid (And.intro e0 (And.intro e1 (And.intro e2 e3)))
        have hl60 : L.length ≤ 9223372036854775807 := by omega
        clear b4 NFM HOZ3 HRZ3 BZ3 hcL hL4
        go_upto_region 18 with (fail)
        by_cases hnr : (vl.length : Int) ≤ r
        · have hdn : decide ((vl.length : Int) ≤ r) = true := decide_eq_true hnr
          have NG := Lib.hid (fun w' (hb : Below w4.heap.size w4 w') => show Calls Try.prog 10 #[.slice A7 M7.length c7, .int .i64 x0, .agg #[.int .i64 x1, .int .i64 x2]] w' (GivesVE vl 0 w') from by
            have hNG := SS.get A7 c7 M7 x0 x1 x2 w' (HOZ4.out.later hb) HFITS.out
            have hP4 := HP4.out
            rw [if_pos hnr] at hP4
            rw [HM7.out, hP4] at hNG
            exact hNG)
          clear hnr
          refine wp_region_facts 16 (by kernel_rfl) (by kernel_rfl)
            (fun v => { tmps := #[.slice (some ⟨b, off, none⟩) L.length c0, .int .u16 r, undef, undef, u4, .slice A7 M7.length c7, .slice (some ⟨gv, 0, none⟩) (C.length + 1) capv, .int .i64 (k : Int), .slice A7 M7.length c7, .int .i64 0, v 15, u11, undef, undef, .bool true, .bool false, .slice (some ⟨b, off, none⟩) L.length c0, .int .i64 (L.length : Int), .bool false, .int .i64 (k : Int), .slice (some ⟨b, off, none⟩) L.length c0, .int .i64 (L.length : Int), .bool true, u23, u24, .tuple #[.slice A7 M7.length c7, .int .i64 0], .slice As M.length cs, .int .u16 r, .int .i64 r, .slice (some ⟨b, off, none⟩) L.length c0, .int .i64 (k : Int), .pointer (some ⟨b, off + k * 4, none⟩), .agg #[.int .i64 x0, .int .i64 x1, .int .i64 x2, .slice X vl.length d], .tuple #[.slice A7 M7.length c7, .int .i64 0], .slice A7 M7.length c7, .int .i64 0, .int .i64 0, .bool false, u38, u39, u40, u41, u42, .slice A7 M7.length c7, .slice VA C.length vc, .slice (some ⟨b, off, none⟩) L.length c0, .int .i64 (k : Int), .pointer (some ⟨b, off + k * 4, none⟩), .agg #[.int .i64 x0, .int .i64 x1, .int .i64 x2, .slice X vl.length d], .slice (some ⟨w2.heap.size, 0, none⟩) 1 1, .slice (some ⟨gv, 0, none⟩) (C.length + 1) capv, .slice A7 M7.length c7, .int .i64 (uS : Int), .int .u16 r, .int .i64 r, .bool false, .bool false, .slice A7 M7.length c7, .int .u16 r, .int .i64 r, .bool true, .bool false, .bool false, v 12, v 0, v 1, v 2, v 3, v 4, v 5, v 6, v 7, v 8, v 9, v 10, v 11, v 13, v 14, u78, u79, u80, u81, u82, u83, u84, u85, u86, u87, u88, u89, u90, u91, u92, u93, u94, u95, u96, u97, u98, u99, u100, u101, u102, u103, undef, undef, undef, undef, undef, undef, undef, undef, undef, undef, undef, undef, undef, undef, undef, undef, undef, undef, undef, undef, undef, undef, undef, undef, undef, undef, undef, undef, undef], defers := [] }) (fun i => match i with | 0 => u64 | 1 => u65 | 2 => u66 | 3 => u67 | 4 => u68 | 5 => u69 | 6 => u70 | 7 => u71 | 8 => u72 | 9 => u73 | 10 => u74 | 11 => u75 | 12 => u63 | 13 => u76 | 14 => u77 | 15 => u10 | _ => undef)
            (fun i x wx => match i with
              | 0 => x = .slice A7 M7.length c7
              | 1 => x = .slice (some ⟨b, off, none⟩) L.length c0
              | 2 => x = .int .i64 (k : Int)
              | 3 => x = .pointer (some ⟨b, off + k * 4, none⟩)
              | 4 => x = .pointer (some ⟨b, off + k * 4, none⟩)
              | 5 => x = .int .i64 x0
              | 6 => x = .slice (some ⟨b, off, none⟩) L.length c0
              | 7 => x = .int .i64 (k : Int)
              | 8 => x = .pointer (some ⟨b, off + k * 4, none⟩)
              | 9 => x = .pointer (some ⟨b, off + k * 4 + 1, none⟩)
              | 10 => x = .agg #[.int .i64 x1, .int .i64 x2]
              | 11 => ∃ A9 c9, x = .tuple #[.slice A9 vl.length c9, .int .i64 0] ∧ OneB wx A9 c9 vl
              | 12 => ∃ A9 c9, x = .tuple #[.slice A9 vl.length c9, .int .i64 0] ∧ OneB wx A9 c9 vl
              | 13 => ∃ A9 c9, x = .slice A9 vl.length c9 ∧ OneB wx A9 c9 vl
              | 14 => x = .int .i64 0
              | 15 => ∃ A9 c9, x = .slice A9 vl.length c9 ∧ OneB wx A9 c9 vl
              | _ => True)
            (fun w1 w2 => Below w1.heap.size w1 w2) (fun h1 h2 => below_on h1 h2) (fun _ => Below.refl _ _) (Below.drew (Below.refl _ _)) ?stabP ?stepP ?doneP
          case stabP =>
            rintro i x w1 w2 h hb
            match i, h with
            | 0, h => exact h
            | 1, h => exact h
            | 2, h => exact h
            | 3, h => exact h
            | 4, h => exact h
            | 5, h => exact h
            | 6, h => exact h
            | 7, h => exact h
            | 8, h => exact h
            | 9, h => exact h
            | 10, h => exact h
            | 11, h => obtain ⟨A9, c9, e9, h9⟩ := h; exact ⟨A9, c9, e9, h9.later hb⟩
            | 12, h => obtain ⟨A9, c9, e9, h9⟩ := h; exact ⟨A9, c9, e9, h9.later hb⟩
            | 13, h => obtain ⟨A9, c9, e9, h9⟩ := h; exact ⟨A9, c9, e9, h9.later hb⟩
            | 14, h => exact h
            | 15, h => obtain ⟨A9, c9, e9, h9⟩ := h; exact ⟨A9, c9, e9, h9.later hb⟩
            | i + 16, _ => trivial
          case stepP =>
            intro i hi v w' hb hd
            match i, hi with
            | 0, _ =>
              refine wpOp_oneK rfl (fun KK hKK => ?_)
              have HKK := Lib.hid hKK
              clear hKK hd
              go_wp2
              exact HKK.out _ _ ⟨_, (by simp [upd]; done), Below.refl _ _, rfl⟩
            | 1, _ =>
              refine wpOp_oneK rfl (fun KK hKK => ?_)
              have HKK := Lib.hid hKK
              clear hKK hd
              go_wp2
              exact HKK.out _ _ ⟨_, (by simp [upd]; done), Below.refl _ _, rfl⟩
            | 2, _ =>
              refine wpOp_oneK rfl (fun KK hKK => ?_)
              have HKK := Lib.hid hKK
              clear hKK hd
              go_wp2
              exact HKK.out _ _ ⟨_, (by simp [upd]; done), Below.refl _ _, rfl⟩
            | 3, _ =>
              have h1 : v 1 = _ := hd 1 (List.elem_iff.1 (by kernel_rfl))
              have h2 : v 2 = _ := hd 2 (List.elem_iff.1 (by kernel_rfl))
              refine wpOp_oneK rfl (fun KK hKK => ?_)
              have HKK := Lib.hid hKK
              clear hKK hd
              rw [h1, h2]
              go_wp2
              exact HKK.out _ _ ⟨_, (by simp [upd, h1, h2]; done), Below.refl _ _, rfl⟩
            | 4, _ =>
              have h3 : v 3 = _ := hd 3 (List.elem_iff.1 (by kernel_rfl))
              refine wpOp_oneK rfl (fun KK hKK => ?_)
              have HKK := Lib.hid hKK
              clear hKK hd
              rw [h3]
              go_wp2
              exact HKK.out _ _ ⟨_, (by simp [upd, h3]; done), Below.refl _ _, rfl⟩
            | 5, _ =>
              have h4 : v 4 = _ := hd 4 (List.elem_iff.1 (by kernel_rfl))
              refine wpOp_oneK rfl (fun KK hKK => ?_)
              have HKK := Lib.hid hKK
              clear hKK hd
              rw [h4]
              have q0 := cell_later hb HE.out.1
              go_wp2
              exact HKK.out _ _ ⟨_, (by simp [upd, h4]; done), Below.refl _ _, rfl⟩
            | 6, _ =>
              refine wpOp_oneK rfl (fun KK hKK => ?_)
              have HKK := Lib.hid hKK
              clear hKK hd
              go_wp2
              exact HKK.out _ _ ⟨_, (by simp [upd]; done), Below.refl _ _, rfl⟩
            | 7, _ =>
              refine wpOp_oneK rfl (fun KK hKK => ?_)
              have HKK := Lib.hid hKK
              clear hKK hd
              go_wp2
              exact HKK.out _ _ ⟨_, (by simp [upd]; done), Below.refl _ _, rfl⟩
            | 8, _ =>
              have h6 : v 6 = _ := hd 6 (List.elem_iff.1 (by kernel_rfl))
              have h7 : v 7 = _ := hd 7 (List.elem_iff.1 (by kernel_rfl))
              refine wpOp_oneK rfl (fun KK hKK => ?_)
              have HKK := Lib.hid hKK
              clear hKK hd
              rw [h6, h7]
              go_wp2
              exact HKK.out _ _ ⟨_, (by simp [upd, h6, h7]; done), Below.refl _ _, rfl⟩
            | 9, _ =>
              have h8 : v 8 = _ := hd 8 (List.elem_iff.1 (by kernel_rfl))
              refine wpOp_oneK rfl (fun KK hKK => ?_)
              have HKK := Lib.hid hKK
              clear hKK hd
              rw [h8]
              go_wp2
              exact HKK.out _ _ ⟨_, (by simp [upd, h8]; done), Below.refl _ _, rfl⟩
            | 10, _ =>
              have h9 : v 9 = _ := hd 9 (List.elem_iff.1 (by kernel_rfl))
              refine wpOp_oneK rfl (fun KK hKK => ?_)
              have HKK := Lib.hid hKK
              clear hKK hd
              rw [h9]
              have q0 := cell_later hb HE.out.2.1
              have q1 := cell_later hb HE.out.2.2.1
              go_wp2
              exact HKK.out _ _ ⟨_, (by simp [upd, h9]; done), Below.refl _ _, rfl⟩
            | 11, _ =>
              have h0 : v 0 = _ := hd 0 (List.elem_iff.1 (by kernel_rfl))
              have h5 : v 5 = _ := hd 5 (List.elem_iff.1 (by kernel_rfl))
              have h10 : v 10 = _ := hd 10 (List.elem_iff.1 (by kernel_rfl))
              refine wpOp_oneK rfl (fun KK hKK => ?_)
              have HKK := Lib.hid hKK
              clear hKK hd
              rw [h0, h5, h10]
              go_wp2_with fail
              refine (NG.out _ hb).mono ?_
              rintro e w'' ⟨v6, rfl, ho6, b⟩
              obtain ⟨A6, c6, rfl, hB6⟩ := OneB.of_own ho6 HXB.out.byte
              go_wp2
              exact HKK.out _ _ ⟨_, (by simp [upd, h0, h5, h10]; done), b, A6, c6, rfl, hB6⟩
            | 12, _ =>
              obtain ⟨B11, d11, h11, hB11⟩ := hd 11 (List.elem_iff.1 (by kernel_rfl))
              refine wpOp_oneK rfl (fun KK hKK => ?_)
              have HKK := Lib.hid hKK
              clear hKK hd
              rw [h11]
              go_wp2
              exact HKK.out _ _ ⟨_, (by simp [upd, h11]; done), Below.refl _ _, B11, d11, rfl, hB11⟩
            | 13, _ =>
              obtain ⟨B12, d12, h12, hB12⟩ := hd 12 (List.elem_iff.1 (by kernel_rfl))
              refine wpOp_oneK rfl (fun KK hKK => ?_)
              have HKK := Lib.hid hKK
              clear hKK hd
              rw [h12]
              go_wp2
              exact HKK.out _ _ ⟨_, (by simp [upd, h12]; done), Below.refl _ _, B12, d12, rfl, hB12⟩
            | 14, _ =>
              obtain ⟨B12, d12, h12, hB12⟩ := hd 12 (List.elem_iff.1 (by kernel_rfl))
              refine wpOp_oneK rfl (fun KK hKK => ?_)
              have HKK := Lib.hid hKK
              clear hKK hd
              rw [h12]
              go_wp2
              exact HKK.out _ _ ⟨_, (by simp [upd, h12]; done), Below.refl _ _, rfl⟩
            | 15, _ =>
              obtain ⟨B13, d13, h13, hB13⟩ := hd 13 (List.elem_iff.1 (by kernel_rfl))
              refine wpOp_oneK rfl (fun KK hKK => ?_)
              have HKK := Lib.hid hKK
              clear hKK hd
              rw [h13]
              go_wp2
              exact HKK.out _ _ ⟨_, (by simp [upd, h13]; done), Below.refl _ _, B13, d13, rfl, hB13⟩
            | k + 16, hk => exact absurd hk (by omega)
          case doneP =>
            intro v w5 hb hf
            have h0 : v 0 = _ := hf 0 (by decide)
            have h1 : v 1 = _ := hf 1 (by decide)
            have h2 : v 2 = _ := hf 2 (by decide)
            have h3 : v 3 = _ := hf 3 (by decide)
            have h4 : v 4 = _ := hf 4 (by decide)
            have h5 : v 5 = _ := hf 5 (by decide)
            have h6 : v 6 = _ := hf 6 (by decide)
            have h7 : v 7 = _ := hf 7 (by decide)
            have h8 : v 8 = _ := hf 8 (by decide)
            have h9 : v 9 = _ := hf 9 (by decide)
            have h10 : v 10 = _ := hf 10 (by decide)
            obtain ⟨B11, d11, h11, hB11⟩ := hf 11 (by decide)
            obtain ⟨B12, d12, h12, hB12⟩ := hf 12 (by decide)
            obtain ⟨B13, d13, h13, hB13⟩ := hf 13 (by decide)
            have h14 : v 14 = _ := hf 14 (by decide)
            obtain ⟨B15, d15, h15, hB15⟩ := hf 15 (by decide)
            clear hf
            rw [h0, h1, h2, h3, h4, h5, h6, h7, h8, h9, h10, h11, h12, h13, h14, h15]
            have f3 := cell_later hb e3
            have HOZ6 := Lib.hid (HOZ4.out.later hb)
            have HRZ6 := Lib.hid (own_later HRZ4.out hb)
            have BZ6 := Lib.hid (below_on BZ4.out hb)
            have NS := Lib.hid (show Calls Try.prog 12 #[.slice B15 vl.length d15, .slice X vl.length d] w5 (Says (.bool true) w5) from by
              have := bsame_any B15 X d15 d vl vl w5 hB15 ((HL'.out.each _ HXM.out).later BZ6.out)
              rw [decide_eq_true (rfl : vl = vl)] at this
              exact this)
            clear hB11 hB12 hB13 hB15 hb NG HOZ4 HRZ4 BZ4 e0 e1 e2 e3 HE
            go_wp2_with fail
            refine NS.out.mono ?_
            rintro e w7 ⟨rfl, b7⟩
            have HOZ7 := Lib.hid (HOZ6.out.later b7)
            have HRZ7 := Lib.hid (own_later HRZ6.out b7)
            have BZ7 := Lib.hid (below_on BZ6.out b7)
            clear b7 NS HOZ6 HRZ6 BZ6 f3
            go_wp2_with fail
            go_roundw
            case rel => exact ⟨k + 1, c7, A7, M7, C ++ [⟨X, d, ⟨x0, x1, x2, vl⟩⟩], by omega, by go_num, rfl, HOZ7.out, by rw [HM7.out]; exact HP2.out, by rw [HM7.out, List.map_append]; exact HP3.out, by rw [List.length_append]; simp; omega, (by rw [show (C ++ [(⟨X, d, ⟨x0, x1, x2, vl⟩⟩ : Bc)]).length = C.length + 1 from by simp] at HRZ7 ⊢; exact HRZ7.out), (fun z hz => by rcases List.mem_append.1 hz with hz | hz; exact HCL.out z hz; rw [List.mem_singleton] at hz; subst hz; exact HXM.out), BZ7.out⟩
            case measure => simp [intOf]; omega
        · have hdn : decide ((vl.length : Int) ≤ r) = false := decide_eq_false hnr
          have NG := Lib.hid (fun w' (hb : Below w4.heap.size w4 w') => show Calls Try.prog 10 #[.slice A7 M7.length c7, .int .i64 x0, .agg #[.int .i64 x1, .int .i64 x2]] w' (GivesVE [] 10 w') from by
            have hNG := SS.get A7 c7 M7 x0 x1 x2 w' (HOZ4.out.later hb) HFITS.out
            have hP4 := HP4.out
            rw [if_neg hnr] at hP4
            rw [HM7.out, hP4] at hNG
            exact hNG)
          clear hnr
          refine wp_region_facts 16 (by kernel_rfl) (by kernel_rfl)
            (fun v => { tmps := #[.slice (some ⟨b, off, none⟩) L.length c0, .int .u16 r, undef, undef, u4, .slice A7 M7.length c7, .slice (some ⟨gv, 0, none⟩) (C.length + 1) capv, .int .i64 (k : Int), .slice A7 M7.length c7, .int .i64 0, v 15, u11, undef, undef, .bool true, .bool false, .slice (some ⟨b, off, none⟩) L.length c0, .int .i64 (L.length : Int), .bool false, .int .i64 (k : Int), .slice (some ⟨b, off, none⟩) L.length c0, .int .i64 (L.length : Int), .bool true, u23, u24, .tuple #[.slice A7 M7.length c7, .int .i64 0], .slice As M.length cs, .int .u16 r, .int .i64 r, .slice (some ⟨b, off, none⟩) L.length c0, .int .i64 (k : Int), .pointer (some ⟨b, off + k * 4, none⟩), .agg #[.int .i64 x0, .int .i64 x1, .int .i64 x2, .slice X vl.length d], .tuple #[.slice A7 M7.length c7, .int .i64 0], .slice A7 M7.length c7, .int .i64 0, .int .i64 0, .bool false, u38, u39, u40, u41, u42, .slice A7 M7.length c7, .slice VA C.length vc, .slice (some ⟨b, off, none⟩) L.length c0, .int .i64 (k : Int), .pointer (some ⟨b, off + k * 4, none⟩), .agg #[.int .i64 x0, .int .i64 x1, .int .i64 x2, .slice X vl.length d], .slice (some ⟨w2.heap.size, 0, none⟩) 1 1, .slice (some ⟨gv, 0, none⟩) (C.length + 1) capv, .slice A7 M7.length c7, .int .i64 (uS : Int), .int .u16 r, .int .i64 r, .bool false, .bool false, .slice A7 M7.length c7, .int .u16 r, .int .i64 r, .bool true, .bool false, .bool false, v 12, v 0, v 1, v 2, v 3, v 4, v 5, v 6, v 7, v 8, v 9, v 10, v 11, v 13, v 14, u78, u79, u80, u81, u82, u83, u84, u85, u86, u87, u88, u89, u90, u91, u92, u93, u94, u95, u96, u97, u98, u99, u100, u101, u102, u103, undef, undef, undef, undef, undef, undef, undef, undef, undef, undef, undef, undef, undef, undef, undef, undef, undef, undef, undef, undef, undef, undef, undef, undef, undef, undef, undef, undef, undef], defers := [] }) (fun i => match i with | 0 => u64 | 1 => u65 | 2 => u66 | 3 => u67 | 4 => u68 | 5 => u69 | 6 => u70 | 7 => u71 | 8 => u72 | 9 => u73 | 10 => u74 | 11 => u75 | 12 => u63 | 13 => u76 | 14 => u77 | 15 => u10 | _ => undef)
            (fun i x wx => match i with
              | 0 => x = .slice A7 M7.length c7
              | 1 => x = .slice (some ⟨b, off, none⟩) L.length c0
              | 2 => x = .int .i64 (k : Int)
              | 3 => x = .pointer (some ⟨b, off + k * 4, none⟩)
              | 4 => x = .pointer (some ⟨b, off + k * 4, none⟩)
              | 5 => x = .int .i64 x0
              | 6 => x = .slice (some ⟨b, off, none⟩) L.length c0
              | 7 => x = .int .i64 (k : Int)
              | 8 => x = .pointer (some ⟨b, off + k * 4, none⟩)
              | 9 => x = .pointer (some ⟨b, off + k * 4 + 1, none⟩)
              | 10 => x = .agg #[.int .i64 x1, .int .i64 x2]
              | 11 => ∃ A9 c9, x = .tuple #[.slice A9 0 c9, .int .i64 10] ∧ OneB wx A9 c9 ([] : List Int)
              | 12 => ∃ A9 c9, x = .tuple #[.slice A9 0 c9, .int .i64 10] ∧ OneB wx A9 c9 ([] : List Int)
              | 13 => ∃ A9 c9, x = .slice A9 0 c9 ∧ OneB wx A9 c9 ([] : List Int)
              | 14 => x = .int .i64 10
              | 15 => ∃ A9 c9, x = .slice A9 0 c9 ∧ OneB wx A9 c9 ([] : List Int)
              | _ => True)
            (fun w1 w2 => Below w1.heap.size w1 w2) (fun h1 h2 => below_on h1 h2) (fun _ => Below.refl _ _) (Below.drew (Below.refl _ _)) ?stabQ ?stepQ ?doneQ
          case stabQ =>
            rintro i x w1 w2 h hb
            match i, h with
            | 0, h => exact h
            | 1, h => exact h
            | 2, h => exact h
            | 3, h => exact h
            | 4, h => exact h
            | 5, h => exact h
            | 6, h => exact h
            | 7, h => exact h
            | 8, h => exact h
            | 9, h => exact h
            | 10, h => exact h
            | 11, h => obtain ⟨A9, c9, e9, h9⟩ := h; exact ⟨A9, c9, e9, h9.later hb⟩
            | 12, h => obtain ⟨A9, c9, e9, h9⟩ := h; exact ⟨A9, c9, e9, h9.later hb⟩
            | 13, h => obtain ⟨A9, c9, e9, h9⟩ := h; exact ⟨A9, c9, e9, h9.later hb⟩
            | 14, h => exact h
            | 15, h => obtain ⟨A9, c9, e9, h9⟩ := h; exact ⟨A9, c9, e9, h9.later hb⟩
            | i + 16, _ => trivial
          case stepQ =>
            intro i hi v w' hb hd
            match i, hi with
            | 0, _ =>
              refine wpOp_oneK rfl (fun KK hKK => ?_)
              have HKK := Lib.hid hKK
              clear hKK hd
              go_wp2
              exact HKK.out _ _ ⟨_, (by simp [upd]; done), Below.refl _ _, rfl⟩
            | 1, _ =>
              refine wpOp_oneK rfl (fun KK hKK => ?_)
              have HKK := Lib.hid hKK
              clear hKK hd
              go_wp2
              exact HKK.out _ _ ⟨_, (by simp [upd]; done), Below.refl _ _, rfl⟩
            | 2, _ =>
              refine wpOp_oneK rfl (fun KK hKK => ?_)
              have HKK := Lib.hid hKK
              clear hKK hd
              go_wp2
              exact HKK.out _ _ ⟨_, (by simp [upd]; done), Below.refl _ _, rfl⟩
            | 3, _ =>
              have h1 : v 1 = _ := hd 1 (List.elem_iff.1 (by kernel_rfl))
              have h2 : v 2 = _ := hd 2 (List.elem_iff.1 (by kernel_rfl))
              refine wpOp_oneK rfl (fun KK hKK => ?_)
              have HKK := Lib.hid hKK
              clear hKK hd
              rw [h1, h2]
              go_wp2
              exact HKK.out _ _ ⟨_, (by simp [upd, h1, h2]; done), Below.refl _ _, rfl⟩
            | 4, _ =>
              have h3 : v 3 = _ := hd 3 (List.elem_iff.1 (by kernel_rfl))
              refine wpOp_oneK rfl (fun KK hKK => ?_)
              have HKK := Lib.hid hKK
              clear hKK hd
              rw [h3]
              go_wp2
              exact HKK.out _ _ ⟨_, (by simp [upd, h3]; done), Below.refl _ _, rfl⟩
            | 5, _ =>
              have h4 : v 4 = _ := hd 4 (List.elem_iff.1 (by kernel_rfl))
              refine wpOp_oneK rfl (fun KK hKK => ?_)
              have HKK := Lib.hid hKK
              clear hKK hd
              rw [h4]
              have q0 := cell_later hb HE.out.1
              go_wp2
              exact HKK.out _ _ ⟨_, (by simp [upd, h4]; done), Below.refl _ _, rfl⟩
            | 6, _ =>
              refine wpOp_oneK rfl (fun KK hKK => ?_)
              have HKK := Lib.hid hKK
              clear hKK hd
              go_wp2
              exact HKK.out _ _ ⟨_, (by simp [upd]; done), Below.refl _ _, rfl⟩
            | 7, _ =>
              refine wpOp_oneK rfl (fun KK hKK => ?_)
              have HKK := Lib.hid hKK
              clear hKK hd
              go_wp2
              exact HKK.out _ _ ⟨_, (by simp [upd]; done), Below.refl _ _, rfl⟩
            | 8, _ =>
              have h6 : v 6 = _ := hd 6 (List.elem_iff.1 (by kernel_rfl))
              have h7 : v 7 = _ := hd 7 (List.elem_iff.1 (by kernel_rfl))
              refine wpOp_oneK rfl (fun KK hKK => ?_)
              have HKK := Lib.hid hKK
              clear hKK hd
              rw [h6, h7]
              go_wp2
              exact HKK.out _ _ ⟨_, (by simp [upd, h6, h7]; done), Below.refl _ _, rfl⟩
            | 9, _ =>
              have h8 : v 8 = _ := hd 8 (List.elem_iff.1 (by kernel_rfl))
              refine wpOp_oneK rfl (fun KK hKK => ?_)
              have HKK := Lib.hid hKK
              clear hKK hd
              rw [h8]
              go_wp2
              exact HKK.out _ _ ⟨_, (by simp [upd, h8]; done), Below.refl _ _, rfl⟩
            | 10, _ =>
              have h9 : v 9 = _ := hd 9 (List.elem_iff.1 (by kernel_rfl))
              refine wpOp_oneK rfl (fun KK hKK => ?_)
              have HKK := Lib.hid hKK
              clear hKK hd
              rw [h9]
              have q0 := cell_later hb HE.out.2.1
              have q1 := cell_later hb HE.out.2.2.1
              go_wp2
              exact HKK.out _ _ ⟨_, (by simp [upd, h9]; done), Below.refl _ _, rfl⟩
            | 11, _ =>
              have h0 : v 0 = _ := hd 0 (List.elem_iff.1 (by kernel_rfl))
              have h5 : v 5 = _ := hd 5 (List.elem_iff.1 (by kernel_rfl))
              have h10 : v 10 = _ := hd 10 (List.elem_iff.1 (by kernel_rfl))
              refine wpOp_oneK rfl (fun KK hKK => ?_)
              have HKK := Lib.hid hKK
              clear hKK hd
              rw [h0, h5, h10]
              go_wp2_with fail
              refine (NG.out _ hb).mono ?_
              rintro e w'' ⟨v6, rfl, ho6, b⟩
              obtain ⟨A6, c6, rfl, hB6⟩ := OneB.of_own ho6 (by intro x hx; cases hx)
              go_wp2
              exact HKK.out _ _ ⟨_, (by simp [upd, h0, h5, h10]; done), b, A6, c6, rfl, hB6⟩
            | 12, _ =>
              obtain ⟨B11, d11, h11, hB11⟩ := hd 11 (List.elem_iff.1 (by kernel_rfl))
              refine wpOp_oneK rfl (fun KK hKK => ?_)
              have HKK := Lib.hid hKK
              clear hKK hd
              rw [h11]
              go_wp2
              exact HKK.out _ _ ⟨_, (by simp [upd, h11]; done), Below.refl _ _, B11, d11, rfl, hB11⟩
            | 13, _ =>
              obtain ⟨B12, d12, h12, hB12⟩ := hd 12 (List.elem_iff.1 (by kernel_rfl))
              refine wpOp_oneK rfl (fun KK hKK => ?_)
              have HKK := Lib.hid hKK
              clear hKK hd
              rw [h12]
              go_wp2
              exact HKK.out _ _ ⟨_, (by simp [upd, h12]; done), Below.refl _ _, B12, d12, rfl, hB12⟩
            | 14, _ =>
              obtain ⟨B12, d12, h12, hB12⟩ := hd 12 (List.elem_iff.1 (by kernel_rfl))
              refine wpOp_oneK rfl (fun KK hKK => ?_)
              have HKK := Lib.hid hKK
              clear hKK hd
              rw [h12]
              go_wp2
              exact HKK.out _ _ ⟨_, (by simp [upd, h12]; done), Below.refl _ _, rfl⟩
            | 15, _ =>
              obtain ⟨B13, d13, h13, hB13⟩ := hd 13 (List.elem_iff.1 (by kernel_rfl))
              refine wpOp_oneK rfl (fun KK hKK => ?_)
              have HKK := Lib.hid hKK
              clear hKK hd
              rw [h13]
              go_wp2
              exact HKK.out _ _ ⟨_, (by simp [upd, h13]; done), Below.refl _ _, B13, d13, rfl, hB13⟩
            | k + 16, hk => exact absurd hk (by omega)
          case doneQ =>
            intro v w5 hb hf
            have h0 : v 0 = _ := hf 0 (by decide)
            have h1 : v 1 = _ := hf 1 (by decide)
            have h2 : v 2 = _ := hf 2 (by decide)
            have h3 : v 3 = _ := hf 3 (by decide)
            have h4 : v 4 = _ := hf 4 (by decide)
            have h5 : v 5 = _ := hf 5 (by decide)
            have h6 : v 6 = _ := hf 6 (by decide)
            have h7 : v 7 = _ := hf 7 (by decide)
            have h8 : v 8 = _ := hf 8 (by decide)
            have h9 : v 9 = _ := hf 9 (by decide)
            have h10 : v 10 = _ := hf 10 (by decide)
            obtain ⟨B11, d11, h11, hB11⟩ := hf 11 (by decide)
            obtain ⟨B12, d12, h12, hB12⟩ := hf 12 (by decide)
            obtain ⟨B13, d13, h13, hB13⟩ := hf 13 (by decide)
            have h14 : v 14 = _ := hf 14 (by decide)
            obtain ⟨B15, d15, h15, hB15⟩ := hf 15 (by decide)
            clear hf
            rw [h0, h1, h2, h3, h4, h5, h6, h7, h8, h9, h10, h11, h12, h13, h14, h15]
            have f3 := cell_later hb e3
            have HOZ6 := Lib.hid (HOZ4.out.later hb)
            have HRZ6 := Lib.hid (own_later HRZ4.out hb)
            have BZ6 := Lib.hid (below_on BZ4.out hb)
            clear hB11 hB12 hB13 hB15 hb NG HOZ4 HRZ4 BZ4 e0 e1 e2 e3 HE
            go_wp2_with fail
            go_roundw
            case rel => exact ⟨k + 1, c7, A7, M7, C ++ [⟨X, d, ⟨x0, x1, x2, vl⟩⟩], by omega, by go_num, rfl, HOZ6.out, by rw [HM7.out]; exact HP2.out, by rw [HM7.out, List.map_append]; exact HP3.out, by rw [List.length_append]; simp; omega, (by rw [show (C ++ [(⟨X, d, ⟨x0, x1, x2, vl⟩⟩ : Bc)]).length = C.length + 1 from by simp] at HRZ6 ⊢; exact HRZ6.out), (fun z hz => by rcases List.mem_append.1 hz with hz | hz; exact HCL.out z hz; rw [List.mem_singleton] at hz; subst hz; exact HXM.out), BZ6.out⟩
            case measure => simp [intOf]; omega
    · rename World => W0
      have hd0 : decide ((k : Int) < (L.length : Int)) = false := decide_eq_false (by omega)
      have hOC : OneC W0 VA vc C := ⟨gv1, gv2, gv3, gv4, fun z hz => (HL.out.later hbw).each _ (hCL z hz)⟩
      have hM60 : M.length ≤ 60 := by have := hsub.length_le; simp at this; omega
      have hC60 : C.length ≤ 60 := by omega
      have hw1 : IntKind.i64.wrap ((M.length : Int) - 1) = (M.length : Int) - 1 := IntWalk.i64_in _ (by omega)
      have HOM := Lib.hid hO
      have HOC := Lib.hid hOC
      have HSUB := Lib.hid hsub
      have BW := Lib.hid hbw
      clear gv1 gv2 gv3 gv4 hO hOC hsub hbw hfm hrow hCL
      go_wp2_with fail
      go_loopw [12, 13] (fun s12 s13 wq => ∃ (kk ii : Nat), kk ≤ C.length ∧ ii ≤ M.length ∧ s12 = .int .i64 (kk : Int) ∧ s13 = .int .i64 ((ii : Int) - 1) ∧ ((M.take ii).map Bc.b).Sublist ((C.map Bc.b).take kk) ∧ Below W0.heap.size W0 wq) (fun _ s13 _ => (intOf s13 + 1).toNat)
      case atStart => exact ⟨C.length, M.length, Nat.le_refl _, Nat.le_refl _, rfl, rfl, by rw [List.take_of_length_le (Nat.le_refl _), List.take_of_length_le (by rw [List.length_map]; exact Nat.le_refl _)]; exact HSUB.out, Below.refl _ _⟩
      case round =>
        clear HSUB hw1
        obtain ⟨kk, ii, hkk, hii, rfl, rfl, hs2, hbq⟩ := hrel
        cases ii with
        | zero =>
          have BQ := Lib.hid (below_on BW.out hbq)
          have hdz : decide ((0 : Int) ≤ -1) = false := rfl
          rw [show ((0 : Nat) : Int) - 1 = -1 from rfl]
          clear hs2 hbq
          go_wp2
          go_ret
          exact ⟨rfl, BQ.out⟩
        | succ m =>
          rw [show ((m + 1 : Nat) : Int) - 1 = (m : Int) from by omega]
          have hiM : m < M.length := by omega
          rw [Ca.take_snoc hiM] at hs2
          obtain ⟨p, hp1, hp2, hp3⟩ := Ca.sub_last hs2
          rw [List.length_take, List.length_map] at hp1
          have hpk : p < kk := by omega
          have hpC : p < C.length := by omega
          rw [List.getElem?_take_of_lt hpk, List.getElem?_map, List.getElem?_eq_getElem hpC] at hp2
          rw [List.take_take, Nat.min_eq_left (by omega)] at hp3
          have hsame : (C.getD p Bc.zero).b = (M.getD m Bc.zero).b := by
            rw [List.getD_eq_getElem?_getD, List.getElem?_eq_getElem hpC]
            simpa using hp2
          obtain ⟨q0, hq0⟩ : ∃ q0 : Nat, kk = q0 + 1 := ⟨kk - 1, by omega⟩
          have hq1 : q0 < C.length := by omega
          have hp0 : p ≤ q0 := by omega
          have hdg : decide ((0 : Int) ≤ (m : Int)) = true := decide_eq_true (by omega)
          have hw2 : IntKind.i64.wrap ((kk : Int) - 1) = (q0 : Int) := by rw [show (kk : Int) - 1 = (q0 : Int) from by omega]; exact IntWalk.i64_in _ (by omega)
          have HP3 := Lib.hid hp3
          have HSM := Lib.hid hsame
          have BQ := Lib.hid hbq
          clear hs2 hbq hp1 hp2 hp3 hsame hq0
          go_wp2_with fail
          go_loopw [12] (fun s12 wq => ∃ q : Nat, p ≤ q ∧ q ≤ q0 ∧ s12 = .int .i64 (q : Int) ∧ Below W0.heap.size W0 wq) (fun s12 _ => (intOf s12).toNat)
          case atStart => exact ⟨q0, hp0, Nat.le_refl _, rfl, BQ.out⟩
          case round =>
            clear BQ hw2
            obtain ⟨q, hpq, hqq, rfl, hbi⟩ := hrel
            have hi0 : (0 : Int) ≤ (q : Int) := by omega
            have hi1 : (q : Int) < (C.length : Int) := by omega
            have hj0 : (0 : Int) ≤ (m : Int) := by omega
            have hj1 : (m : Int) < (M.length : Int) := by omega
            have hdq : decide ((0 : Int) ≤ (q : Int)) = true := decide_eq_true hi0
            have hdl : decide ((q : Int) < 0) = false := decide_eq_false (by omega)
            have hwi : IntKind.i64.wrap ((m : Int) - 1) = (m : Int) - 1 := IntWalk.i64_in _ (by omega)
            obtain ⟨bc, oc, hA, hcC⟩ := (HOC.out.later hbi).at (fun e => by rw [e] at hi1; simp at hi1; omega)
            obtain ⟨bs, os, hB, hcM⟩ := (HOM.out.later hbi).at (fun e => by rw [e] at hj1; simp at hj1; omega)
            have hE := hcC q (by omega)
            have hF := hcM m hiM
            have hx1 := fun w' (hb : Below W0.heap.size W0 w') => (HOC.out.later hb).each _ (Ca.getD_mem (show q < C.length by omega))
            have hy1 := fun w' (hb : Below W0.heap.size W0 w') => (HOM.out.later hb).each _ (Ca.getD_mem hiM)
            have HOC' := HOC
            have HOM' := HOM
            subst hA hB
            have hsame := HSM.out
            have hpz : q = p → (C.getD q Bc.zero).b = (M.getD m Bc.zero).b := fun e => by rw [e]; exact hsame
            obtain ⟨zy, hx⟩ : ∃ x, C.getD q Bc.zero = x := ⟨_, rfl⟩
            obtain ⟨zx, hy⟩ : ∃ y, M.getD m Bc.zero = y := ⟨_, rfl⟩
            rw [hx] at hE hx1 hpz
            rw [hy] at hF hy1 hpz
            obtain ⟨same, hsm⟩ : ∃ same, Wi.bsame zy.b zx.b = same := ⟨_, rfl⟩
            have NS := Lib.hid (fun w' (hb : Below W0.heap.size W0 w') => show Calls Try.prog 23 #[.agg (bdCells zy.X zy.d zy.b), .agg (bdCells zx.X zx.d zx.b)] w' (Says (.bool same) w') from by rw [← hsm]; exact bsamebody_any zy.X zx.X zy.d zx.d zy.b zx.b w' (hx1 w' hb) (hy1 w' hb))
            have hlt2 : same = false → p < q := fun e => by
              rcases Nat.lt_or_ge p q with h9 | h9
              · exact h9
              · have h8 := (Wi.bsame_iff zy.b zx.b).2 (hpz (by omega))
                rw [hsm, e] at h8
                cases h8
            unfold bdCells at NS
            have HE := Lib.hid hE
            have HF := Lib.hid hF
            have HLT := Lib.hid hlt2
            have BI := Lib.hid hbi
            clear hcC hcM hE hF hx1 hy1 hsame hpz hx hy hsm hlt2 hbi HSM
            cases same with
            | true =>
              go_upto_region 26 with (fail)
              refine wp_region_facts 13 (by kernel_rfl) (by kernel_rfl)
                (fun v => { tmps := #[.slice A L.length c0, .int .u16 r, undef, undef, u4, .slice (some ⟨bs, os, none⟩) M.length cs, .slice (some ⟨bc, oc, none⟩) C.length vc, .int .i64 (k : Int), u8, u9, u10, u11, .int .i64 (q : Int), .int .i64 (m : Int), .bool true, .bool false, .slice A L.length c0, .int .i64 (L.length : Int), .bool false, .int .i64 (k : Int), .slice A L.length c0, .int .i64 (L.length : Int), .bool false, u23, u24, u25, u26, u27, u28, u29, u30, u31, u32, u33, u34, u35, u36, u37, u38, u39, u40, u41, u42, u43, u44, u45, u46, u47, u48, u49, u50, u51, u52, u53, u54, u55, u56, u57, u58, u59, u60, u61, u62, u63, u64, u65, u66, u67, u68, u69, u70, u71, u72, u73, u74, u75, u76, u77, u78, u79, u80, u81, u82, u83, u84, u85, u86, u87, u88, u89, u90, u91, u92, u93, u94, u95, u96, u97, u98, u99, u100, u101, u102, u103, .slice (some ⟨bc, oc, none⟩) C.length vc, .int .i64 (C.length : Int), .slice (some ⟨bs, os, none⟩) M.length cs, .int .i64 (M.length : Int), .int .i64 ((M.length : Int) - 1), .int .i64 (m : Int), .bool true, u111, u112, .int .i64 (kk : Int), .int .i64 (q0 : Int), v 0, v 1, v 2, v 3, v 4, v 5, v 6, v 7, v 8, v 9, v 10, v 11, v 12, u128, u129, u130, u131, u132], defers := [] }) (fun i => match i with | 0 => u115 | 1 => u116 | 2 => u117 | 3 => u118 | 4 => u119 | 5 => u120 | 6 => u121 | 7 => u122 | 8 => u123 | 9 => u124 | 10 => u125 | 11 => u126 | 12 => u127 | _ => undef)
                (fun i x wx => match i with
                  | 0 => x = .int .i64 (q : Int)
                  | 1 => x = .bool true
                  | 2 => x = .bool true
                  | 3 => x = .slice (some ⟨bc, oc, none⟩) C.length vc
                  | 4 => x = .int .i64 (q : Int)
                  | 5 => x = .pointer (some ⟨bc, oc + q * 4, none⟩)
                  | 6 => x = .agg #[.int .i64 zy.b.o, .int .i64 zy.b.c, .int .i64 zy.b.n, .slice zy.X zy.b.v.length zy.d]
                  | 7 => x = .slice (some ⟨bs, os, none⟩) M.length cs
                  | 8 => x = .int .i64 (m : Int)
                  | 9 => x = .pointer (some ⟨bs, os + m * 4, none⟩)
                  | 10 => x = .agg #[.int .i64 zx.b.o, .int .i64 zx.b.c, .int .i64 zx.b.n, .slice zx.X zx.b.v.length zx.d]
                  | 11 => x = .bool true
                  | 12 => x = .bool false
                  | _ => True)
                (fun w1 w2 => Below w1.heap.size w1 w2) (fun h1 h2 => below_on h1 h2) (fun _ => Below.refl _ _) (Below.drew (Below.refl _ _)) ?stabX ?stepX ?doneX
              case stabX =>
                rintro i x w1 w2 h hb
                match i, h with
                | 0, h => exact h
                | 1, h => exact h
                | 2, h => exact h
                | 3, h => exact h
                | 4, h => exact h
                | 5, h => exact h
                | 6, h => exact h
                | 7, h => exact h
                | 8, h => exact h
                | 9, h => exact h
                | 10, h => exact h
                | 11, h => exact h
                | 12, h => exact h
                | i + 13, _ => trivial
              case stepX =>
                intro i hi v w' hb hd
                match i, hi with
                | 0, _ =>
                  refine wpOp_oneK rfl (fun KK hKK => ?_)
                  have HKK := Lib.hid hKK
                  clear hKK hd
                  go_wp2
                  exact HKK.out _ _ ⟨_, (by simp [upd]; done), Below.refl _ _, rfl⟩
                | 1, _ =>
                  have h0 : v 0 = _ := hd 0 (List.elem_iff.1 (by kernel_rfl))
                  refine wpOp_oneK rfl (fun KK hKK => ?_)
                  have HKK := Lib.hid hKK
                  clear hKK hd
                  rw [h0]
                  go_wp2
                  exact HKK.out _ _ ⟨_, (by simp [upd, h0]; done), Below.refl _ _, rfl⟩
                | 2, _ =>
                  have h1 : v 1 = _ := hd 1 (List.elem_iff.1 (by kernel_rfl))
                  refine wpOp_oneK rfl (fun KK hKK => ?_)
                  have HKK := Lib.hid hKK
                  clear hKK hd
                  rw [h1]
                  go_wp2
                  exact HKK.out _ _ ⟨_, (by simp [upd, h1]; done), Below.refl _ _, rfl⟩
                | 3, _ =>
                  have h2 : v 2 = _ := hd 2 (List.elem_iff.1 (by kernel_rfl))
                  refine wpOp_oneK rfl (fun KK hKK => ?_)
                  have HKK := Lib.hid hKK
                  clear hKK hd
                  rw [h2]
                  go_wp2
                  exact HKK.out _ _ ⟨_, (by simp [upd, h2]; done), Below.refl _ _, rfl⟩
                | 4, _ =>
                  have h2 : v 2 = _ := hd 2 (List.elem_iff.1 (by kernel_rfl))
                  refine wpOp_oneK rfl (fun KK hKK => ?_)
                  have HKK := Lib.hid hKK
                  clear hKK hd
                  rw [h2]
                  go_wp2
                  exact HKK.out _ _ ⟨_, (by simp [upd, h2]; done), Below.refl _ _, rfl⟩
                | 5, _ =>
                  have h2 : v 2 = _ := hd 2 (List.elem_iff.1 (by kernel_rfl))
                  have h3 : v 3 = _ := hd 3 (List.elem_iff.1 (by kernel_rfl))
                  have h4 : v 4 = _ := hd 4 (List.elem_iff.1 (by kernel_rfl))
                  refine wpOp_oneK rfl (fun KK hKK => ?_)
                  have HKK := Lib.hid hKK
                  clear hKK hd
                  rw [h2, h3, h4]
                  go_wp2
                  exact HKK.out _ _ ⟨_, (by simp [upd, h2, h3, h4]; done), Below.refl _ _, rfl⟩
                | 6, _ =>
                  have h2 : v 2 = _ := hd 2 (List.elem_iff.1 (by kernel_rfl))
                  have h5 : v 5 = _ := hd 5 (List.elem_iff.1 (by kernel_rfl))
                  refine wpOp_oneK rfl (fun KK hKK => ?_)
                  have HKK := Lib.hid hKK
                  clear hKK hd
                  rw [h2, h5]
                  have q0 := cell_later hb HE.out.1
                  have q1 := cell_later hb HE.out.2.1
                  have q2 := cell_later hb HE.out.2.2.1
                  have q3 := cell_later hb HE.out.2.2.2
                  go_wp2
                  exact HKK.out _ _ ⟨_, (by simp [upd, h2, h5]; done), Below.refl _ _, rfl⟩
                | 7, _ =>
                  have h2 : v 2 = _ := hd 2 (List.elem_iff.1 (by kernel_rfl))
                  refine wpOp_oneK rfl (fun KK hKK => ?_)
                  have HKK := Lib.hid hKK
                  clear hKK hd
                  rw [h2]
                  go_wp2
                  exact HKK.out _ _ ⟨_, (by simp [upd, h2]; done), Below.refl _ _, rfl⟩
                | 8, _ =>
                  have h2 : v 2 = _ := hd 2 (List.elem_iff.1 (by kernel_rfl))
                  refine wpOp_oneK rfl (fun KK hKK => ?_)
                  have HKK := Lib.hid hKK
                  clear hKK hd
                  rw [h2]
                  go_wp2
                  exact HKK.out _ _ ⟨_, (by simp [upd, h2]; done), Below.refl _ _, rfl⟩
                | 9, _ =>
                  have h2 : v 2 = _ := hd 2 (List.elem_iff.1 (by kernel_rfl))
                  have h7 : v 7 = _ := hd 7 (List.elem_iff.1 (by kernel_rfl))
                  have h8 : v 8 = _ := hd 8 (List.elem_iff.1 (by kernel_rfl))
                  refine wpOp_oneK rfl (fun KK hKK => ?_)
                  have HKK := Lib.hid hKK
                  clear hKK hd
                  rw [h2, h7, h8]
                  go_wp2
                  exact HKK.out _ _ ⟨_, (by simp [upd, h2, h7, h8]; done), Below.refl _ _, rfl⟩
                | 10, _ =>
                  have h2 : v 2 = _ := hd 2 (List.elem_iff.1 (by kernel_rfl))
                  have h9 : v 9 = _ := hd 9 (List.elem_iff.1 (by kernel_rfl))
                  refine wpOp_oneK rfl (fun KK hKK => ?_)
                  have HKK := Lib.hid hKK
                  clear hKK hd
                  rw [h2, h9]
                  have q0 := cell_later hb HF.out.1
                  have q1 := cell_later hb HF.out.2.1
                  have q2 := cell_later hb HF.out.2.2.1
                  have q3 := cell_later hb HF.out.2.2.2
                  go_wp2
                  exact HKK.out _ _ ⟨_, (by simp [upd, h2, h9]; done), Below.refl _ _, rfl⟩
                | 11, _ =>
                  have h2 : v 2 = _ := hd 2 (List.elem_iff.1 (by kernel_rfl))
                  have h6 : v 6 = _ := hd 6 (List.elem_iff.1 (by kernel_rfl))
                  have h10 : v 10 = _ := hd 10 (List.elem_iff.1 (by kernel_rfl))
                  refine wpOp_oneK rfl (fun KK hKK => ?_)
                  have HKK := Lib.hid hKK
                  clear hKK hd
                  rw [h2, h6, h10]
                  go_wp2_with fail
                  refine (NS.out _ (below_on BI.out hb)).mono ?_
                  rintro e w'' ⟨rfl, b⟩
                  go_wp2
                  exact HKK.out _ _ ⟨_, (by simp [upd, h2, h6, h10]; done), b, rfl⟩
                | 12, _ =>
                  have h2 : v 2 = _ := hd 2 (List.elem_iff.1 (by kernel_rfl))
                  have h11 : v 11 = _ := hd 11 (List.elem_iff.1 (by kernel_rfl))
                  refine wpOp_oneK rfl (fun KK hKK => ?_)
                  have HKK := Lib.hid hKK
                  clear hKK hd
                  rw [h2, h11]
                  go_wp2
                  exact HKK.out _ _ ⟨_, (by simp [upd, h2, h11]; done), Below.refl _ _, rfl⟩
                | k + 13, hk => exact absurd hk (by omega)
              case doneX =>
                intro v w5 hb hf
                have h2 : v 2 = _ := hf 2 (by decide)
                have h12 : v 12 = _ := hf 12 (by decide)
                clear hf
                rw [h2, h12]
                have B6 := Lib.hid (below_on BI.out hb)
                clear hb NS
                go_wp2_with fail
                go_roundw
                case rel => exact ⟨q, m, by omega, by omega, rfl, rfl, Ca.sub_take HP3.out hpq, B6.out⟩
                case measure => simp [intOf]
            | false =>
              have hpq2 := HLT.out rfl
              obtain ⟨q1, hq9⟩ : ∃ q1 : Nat, q = q1 + 1 := ⟨q - 1, by omega⟩
              have hw3 : IntKind.i64.wrap ((q : Int) - 1) = (q1 : Int) := by rw [show (q : Int) - 1 = (q1 : Int) from by omega]; exact IntWalk.i64_in _ (by omega)
              have HQ9 := Lib.hid hq9
              clear hq9
              go_upto_region 26 with (fail)
              refine wp_region_facts 13 (by kernel_rfl) (by kernel_rfl)
                (fun v => { tmps := #[.slice A L.length c0, .int .u16 r, undef, undef, u4, .slice (some ⟨bs, os, none⟩) M.length cs, .slice (some ⟨bc, oc, none⟩) C.length vc, .int .i64 (k : Int), u8, u9, u10, u11, .int .i64 (q : Int), .int .i64 (m : Int), .bool true, .bool false, .slice A L.length c0, .int .i64 (L.length : Int), .bool false, .int .i64 (k : Int), .slice A L.length c0, .int .i64 (L.length : Int), .bool false, u23, u24, u25, u26, u27, u28, u29, u30, u31, u32, u33, u34, u35, u36, u37, u38, u39, u40, u41, u42, u43, u44, u45, u46, u47, u48, u49, u50, u51, u52, u53, u54, u55, u56, u57, u58, u59, u60, u61, u62, u63, u64, u65, u66, u67, u68, u69, u70, u71, u72, u73, u74, u75, u76, u77, u78, u79, u80, u81, u82, u83, u84, u85, u86, u87, u88, u89, u90, u91, u92, u93, u94, u95, u96, u97, u98, u99, u100, u101, u102, u103, .slice (some ⟨bc, oc, none⟩) C.length vc, .int .i64 (C.length : Int), .slice (some ⟨bs, os, none⟩) M.length cs, .int .i64 (M.length : Int), .int .i64 ((M.length : Int) - 1), .int .i64 (m : Int), .bool true, u111, u112, .int .i64 (kk : Int), .int .i64 (q0 : Int), v 0, v 1, v 2, v 3, v 4, v 5, v 6, v 7, v 8, v 9, v 10, v 11, v 12, u128, u129, u130, u131, u132], defers := [] }) (fun i => match i with | 0 => u115 | 1 => u116 | 2 => u117 | 3 => u118 | 4 => u119 | 5 => u120 | 6 => u121 | 7 => u122 | 8 => u123 | 9 => u124 | 10 => u125 | 11 => u126 | 12 => u127 | _ => undef)
                (fun i x wx => match i with
                  | 0 => x = .int .i64 (q : Int)
                  | 1 => x = .bool true
                  | 2 => x = .bool true
                  | 3 => x = .slice (some ⟨bc, oc, none⟩) C.length vc
                  | 4 => x = .int .i64 (q : Int)
                  | 5 => x = .pointer (some ⟨bc, oc + q * 4, none⟩)
                  | 6 => x = .agg #[.int .i64 zy.b.o, .int .i64 zy.b.c, .int .i64 zy.b.n, .slice zy.X zy.b.v.length zy.d]
                  | 7 => x = .slice (some ⟨bs, os, none⟩) M.length cs
                  | 8 => x = .int .i64 (m : Int)
                  | 9 => x = .pointer (some ⟨bs, os + m * 4, none⟩)
                  | 10 => x = .agg #[.int .i64 zx.b.o, .int .i64 zx.b.c, .int .i64 zx.b.n, .slice zx.X zx.b.v.length zx.d]
                  | 11 => x = .bool false
                  | 12 => x = .bool true
                  | _ => True)
                (fun w1 w2 => Below w1.heap.size w1 w2) (fun h1 h2 => below_on h1 h2) (fun _ => Below.refl _ _) (Below.drew (Below.refl _ _)) ?stabY ?stepY ?doneY
              case stabY =>
                rintro i x w1 w2 h hb
                match i, h with
                | 0, h => exact h
                | 1, h => exact h
                | 2, h => exact h
                | 3, h => exact h
                | 4, h => exact h
                | 5, h => exact h
                | 6, h => exact h
                | 7, h => exact h
                | 8, h => exact h
                | 9, h => exact h
                | 10, h => exact h
                | 11, h => exact h
                | 12, h => exact h
                | i + 13, _ => trivial
              case stepY =>
                intro i hi v w' hb hd
                match i, hi with
                | 0, _ =>
                  refine wpOp_oneK rfl (fun KK hKK => ?_)
                  have HKK := Lib.hid hKK
                  clear hKK hd
                  go_wp2
                  exact HKK.out _ _ ⟨_, (by simp [upd]; done), Below.refl _ _, rfl⟩
                | 1, _ =>
                  have h0 : v 0 = _ := hd 0 (List.elem_iff.1 (by kernel_rfl))
                  refine wpOp_oneK rfl (fun KK hKK => ?_)
                  have HKK := Lib.hid hKK
                  clear hKK hd
                  rw [h0]
                  go_wp2
                  exact HKK.out _ _ ⟨_, (by simp [upd, h0]; done), Below.refl _ _, rfl⟩
                | 2, _ =>
                  have h1 : v 1 = _ := hd 1 (List.elem_iff.1 (by kernel_rfl))
                  refine wpOp_oneK rfl (fun KK hKK => ?_)
                  have HKK := Lib.hid hKK
                  clear hKK hd
                  rw [h1]
                  go_wp2
                  exact HKK.out _ _ ⟨_, (by simp [upd, h1]; done), Below.refl _ _, rfl⟩
                | 3, _ =>
                  have h2 : v 2 = _ := hd 2 (List.elem_iff.1 (by kernel_rfl))
                  refine wpOp_oneK rfl (fun KK hKK => ?_)
                  have HKK := Lib.hid hKK
                  clear hKK hd
                  rw [h2]
                  go_wp2
                  exact HKK.out _ _ ⟨_, (by simp [upd, h2]; done), Below.refl _ _, rfl⟩
                | 4, _ =>
                  have h2 : v 2 = _ := hd 2 (List.elem_iff.1 (by kernel_rfl))
                  refine wpOp_oneK rfl (fun KK hKK => ?_)
                  have HKK := Lib.hid hKK
                  clear hKK hd
                  rw [h2]
                  go_wp2
                  exact HKK.out _ _ ⟨_, (by simp [upd, h2]; done), Below.refl _ _, rfl⟩
                | 5, _ =>
                  have h2 : v 2 = _ := hd 2 (List.elem_iff.1 (by kernel_rfl))
                  have h3 : v 3 = _ := hd 3 (List.elem_iff.1 (by kernel_rfl))
                  have h4 : v 4 = _ := hd 4 (List.elem_iff.1 (by kernel_rfl))
                  refine wpOp_oneK rfl (fun KK hKK => ?_)
                  have HKK := Lib.hid hKK
                  clear hKK hd
                  rw [h2, h3, h4]
                  go_wp2
                  exact HKK.out _ _ ⟨_, (by simp [upd, h2, h3, h4]; done), Below.refl _ _, rfl⟩
                | 6, _ =>
                  have h2 : v 2 = _ := hd 2 (List.elem_iff.1 (by kernel_rfl))
                  have h5 : v 5 = _ := hd 5 (List.elem_iff.1 (by kernel_rfl))
                  refine wpOp_oneK rfl (fun KK hKK => ?_)
                  have HKK := Lib.hid hKK
                  clear hKK hd
                  rw [h2, h5]
                  have q0 := cell_later hb HE.out.1
                  have q1 := cell_later hb HE.out.2.1
                  have q2 := cell_later hb HE.out.2.2.1
                  have q3 := cell_later hb HE.out.2.2.2
                  go_wp2
                  exact HKK.out _ _ ⟨_, (by simp [upd, h2, h5]; done), Below.refl _ _, rfl⟩
                | 7, _ =>
                  have h2 : v 2 = _ := hd 2 (List.elem_iff.1 (by kernel_rfl))
                  refine wpOp_oneK rfl (fun KK hKK => ?_)
                  have HKK := Lib.hid hKK
                  clear hKK hd
                  rw [h2]
                  go_wp2
                  exact HKK.out _ _ ⟨_, (by simp [upd, h2]; done), Below.refl _ _, rfl⟩
                | 8, _ =>
                  have h2 : v 2 = _ := hd 2 (List.elem_iff.1 (by kernel_rfl))
                  refine wpOp_oneK rfl (fun KK hKK => ?_)
                  have HKK := Lib.hid hKK
                  clear hKK hd
                  rw [h2]
                  go_wp2
                  exact HKK.out _ _ ⟨_, (by simp [upd, h2]; done), Below.refl _ _, rfl⟩
                | 9, _ =>
                  have h2 : v 2 = _ := hd 2 (List.elem_iff.1 (by kernel_rfl))
                  have h7 : v 7 = _ := hd 7 (List.elem_iff.1 (by kernel_rfl))
                  have h8 : v 8 = _ := hd 8 (List.elem_iff.1 (by kernel_rfl))
                  refine wpOp_oneK rfl (fun KK hKK => ?_)
                  have HKK := Lib.hid hKK
                  clear hKK hd
                  rw [h2, h7, h8]
                  go_wp2
                  exact HKK.out _ _ ⟨_, (by simp [upd, h2, h7, h8]; done), Below.refl _ _, rfl⟩
                | 10, _ =>
                  have h2 : v 2 = _ := hd 2 (List.elem_iff.1 (by kernel_rfl))
                  have h9 : v 9 = _ := hd 9 (List.elem_iff.1 (by kernel_rfl))
                  refine wpOp_oneK rfl (fun KK hKK => ?_)
                  have HKK := Lib.hid hKK
                  clear hKK hd
                  rw [h2, h9]
                  have q0 := cell_later hb HF.out.1
                  have q1 := cell_later hb HF.out.2.1
                  have q2 := cell_later hb HF.out.2.2.1
                  have q3 := cell_later hb HF.out.2.2.2
                  go_wp2
                  exact HKK.out _ _ ⟨_, (by simp [upd, h2, h9]; done), Below.refl _ _, rfl⟩
                | 11, _ =>
                  have h2 : v 2 = _ := hd 2 (List.elem_iff.1 (by kernel_rfl))
                  have h6 : v 6 = _ := hd 6 (List.elem_iff.1 (by kernel_rfl))
                  have h10 : v 10 = _ := hd 10 (List.elem_iff.1 (by kernel_rfl))
                  refine wpOp_oneK rfl (fun KK hKK => ?_)
                  have HKK := Lib.hid hKK
                  clear hKK hd
                  rw [h2, h6, h10]
                  go_wp2_with fail
                  refine (NS.out _ (below_on BI.out hb)).mono ?_
                  rintro e w'' ⟨rfl, b⟩
                  go_wp2
                  exact HKK.out _ _ ⟨_, (by simp [upd, h2, h6, h10]; done), b, rfl⟩
                | 12, _ =>
                  have h2 : v 2 = _ := hd 2 (List.elem_iff.1 (by kernel_rfl))
                  have h11 : v 11 = _ := hd 11 (List.elem_iff.1 (by kernel_rfl))
                  refine wpOp_oneK rfl (fun KK hKK => ?_)
                  have HKK := Lib.hid hKK
                  clear hKK hd
                  rw [h2, h11]
                  go_wp2
                  exact HKK.out _ _ ⟨_, (by simp [upd, h2, h11]; done), Below.refl _ _, rfl⟩
                | k + 13, hk => exact absurd hk (by omega)
              case doneY =>
                intro v w5 hb hf
                have h2 : v 2 = _ := hf 2 (by decide)
                have h12 : v 12 = _ := hf 12 (by decide)
                clear hf
                rw [h2, h12]
                have B6 := Lib.hid (below_on BI.out hb)
                clear hb NS
                go_wp2_with fail
                go_roundw
                case rel => exact ⟨q1, by have := HQ9.out; omega, by have := HQ9.out; omega, rfl, B6.out⟩
                case measure => have := HQ9.out; simp [intOf]; omega
end Go.Proofs.Ytmccednfaemiaaa
