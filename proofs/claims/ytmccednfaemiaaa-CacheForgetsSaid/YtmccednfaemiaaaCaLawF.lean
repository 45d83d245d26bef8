/-
  The law CacheForgets over the contracts of cache's functions.
-/
import Derived.Test.YtmccednfaemiaaaCaSpec
namespace Go.Proofs.Ytmccednfaemiaaa
open Go.RowKit Fb

namespace Ca
theorem forget_twice (l : List Bd) (o : Int) : forget (forget l o) o = forget l o := by unfold forget; rw [List.filter_filter]; simp
/-- How many of the first k stay. -/
def stayTo (L : List Bc) (o : Int) (k : Nat) : Nat := (forget ((L.take k).map Bc.b) o).length
theorem stay_le (L : List Bc) (o : Int) (k : Nat) : stayTo L o k ≤ k := by
  have h := forget_len ((L.take k).map Bc.b) o
  rw [List.length_map, List.length_take] at h
  unfold stayTo
  omega
theorem forget_split (L : List Bc) (o : Int) (k : Nat) : forget (L.map Bc.b) o = forget ((L.take k).map Bc.b) o ++ forget ((L.drop k).map Bc.b) o := by
  unfold forget
  rw [← List.filter_append, ← List.map_append, List.take_append_drop]
theorem stay_yes {L : List Bc} {k : Nat} {o : Int} (h : k < L.length) (hx : (L.getD k Bc.zero).b.o ≠ o) : stayTo L o (k + 1) = stayTo L o k + 1 ∧ (forget (L.map Bc.b) o)[stayTo L o k]? = some (L.getD k Bc.zero).b := by
  have h1 : forget ((L.take (k + 1)).map Bc.b) o = forget ((L.take k).map Bc.b) o ++ [(L.getD k Bc.zero).b] := by
    rw [take_snoc h]
    unfold forget
    rw [List.filter_append, List.filter_cons, if_pos (by rw [Bool.not_eq_true', decide_eq_false_iff_not]; exact hx)]
    rfl
  refine ⟨by unfold stayTo; rw [h1, List.length_append]; rfl, ?_⟩
  rw [forget_split L o (k + 1), h1, List.append_assoc]
  unfold stayTo
  rw [List.getElem?_append_right (Nat.le_refl _), Nat.sub_self]
  rfl
theorem stay_no {L : List Bc} {k : Nat} {o : Int} (h : k < L.length) (hx : (L.getD k Bc.zero).b.o = o) : stayTo L o (k + 1) = stayTo L o k := by
  unfold stayTo
  rw [take_snoc h]
  unfold forget
  rw [List.filter_append, List.filter_cons, if_neg (by rw [decide_eq_true hx]; exact Bool.false_ne_true)]
  simp
end Ca

set_option maxRecDepth 100000 in
set_option maxHeartbeats 6400000 in
theorem lawCForgets_any (SS : CacheSpec) (A : Option Addr) (c : Nat) (L : List Bc) (o : Int) (w : World) (h : OneC w A c L) (hn : L.length * 48 ≤ 140737488355328) (hz : ∀ z ∈ L, z.b.v.length ≤ 140737488355328) :
    Calls Try.prog 6 #[.slice A L.length c, .int .i64 o] w (Says (.bool true) w) := by
  have HL := Lib.hid h
  have N0 := Lib.hid (calive_any SS w)
  have NG := Lib.hid (fun w' (hb : Below w.heap.size w w') => cgreat_any A c L w' (h.later hb) hn hz)
  by_cases hg : 1048576 ≤ L.length + Ca.used (L.map Bc.b)
  · rw [decide_eq_true hg] at NG
    clear hg h
    go_enter Try.func6, Try.ntmps6
    go_wp2_with fail
    refine N0.out.mono ?_
    rintro e w1 ⟨rfl, b1⟩
    have NG' := Lib.hid (NG.out w1 b1)
    have B1 := Lib.hid b1
    clear b1 N0 NG
    go_wp2_with fail
    refine NG'.out.mono ?_
    rintro e w2 ⟨rfl, b2⟩
    have B2 := Lib.hid (below_on B1.out b2)
    clear b2 NG' B1
    go_wp2
    go_ret
    exact ⟨rfl, B2.out⟩
  rw [decide_eq_false hg] at NG
  have hsm : L.length + Ca.used (L.map Bc.b) < 1048576 := by omega
  have hfit := Fits.of_small hsm
  have hfl := Ca.forget_len (L.map Bc.b) o
  have hfu := Ca.forget_used (L.map Bc.b) o
  have hft := Ca.forget_twice (L.map Bc.b) o
  have N1 := Lib.hid (fun w' (hb : Below w.heap.size w w') => SS.forget A c L o w' (h.later hb) hfit)
  have HY := Lib.hid (fun k hk hx => Ca.stay_yes (L := L) (k := k) (o := o) hk hx)
  have HN := Lib.hid (fun k hk hx => Ca.stay_no (L := L) (k := k) (o := o) hk hx)
  have HS := Lib.hid (fun k => Ca.stay_le L o k)
  have hall : Ca.stayTo L o L.length = (Ca.forget (L.map Bc.b) o).length := by unfold Ca.stayTo; rw [List.take_length]
  obtain ⟨F, hF⟩ : ∃ F, Ca.forget (L.map Bc.b) o = F := ⟨_, rfl⟩
  rw [hF] at N1 HY hft hfl hfu hall
  rw [List.length_map] at hfl
  have N2 := Lib.hid (fun A1 c1 M wx (hO : OneC wx A1 c1 M) (hM : M.map Bc.b = F) => show Calls Try.prog 16 #[.slice A1 M.length c1, .int .i64 o] wx (GivesC F wx) from by
    have hml : M.length = F.length := by rw [← hM, List.length_map]
    have := SS.forget A1 c1 M o wx hO (Fits.of_small (by rw [hM, hml]; omega))
    rwa [hM, hft] at this)
  have HALL := Lib.hid hall
  have hl64 : L.length ≤ 1048576 := by omega
  clear hg hsm hfit hft hfu hF h hn hz hall
  go_enter Try.func6, Try.ntmps6
  go_wp2_with fail
  refine N0.out.mono ?_
  rintro e w1 ⟨rfl, b1⟩
  have NG' := Lib.hid (NG.out w1 b1)
  have B1 := Lib.hid b1
  clear b1 N0 NG
  go_wp2_with fail
  refine NG'.out.mono ?_
  rintro e w2 ⟨rfl, b2⟩
  have B2 := Lib.hid (below_on B1.out b2)
  have N1' := Lib.hid (N1.out w2 B2.out)
  clear b2 NG' B1 N1
  go_wp2_with fail
  refine N1'.out.mono ?_
  rintro e w3 ⟨A2, c2, M, rfl, hM, hO, b3⟩
  have HM := Lib.hid hM
  have O3 := Lib.hid hO.one
  have B3 := Lib.hid (below_on B2.out b3)
  have N2' := Lib.hid (N2.out A2 c2 M w3 hO.one hM)
  clear b3 hM hO N1' B2 N2
  go_wp2_with fail
  refine N2'.out.mono ?_
  rintro e w4 ⟨A3, c3, M3, rfl, hM3, hO3, b4⟩
  have HM3 := Lib.hid hM3
  have O4 := Lib.hid (O3.out.later b4)
  have Q4 := Lib.hid hO3.one
  have B4 := Lib.hid (below_on B3.out b4)
  have hml : M.length = F.length := by rw [← HM.out, List.length_map]
  have HML := Lib.hid hml
  have hml2 : M.length ≤ 1048576 := by omega
  clear b4 hM3 hO3 N2' O3 B3 hml
  go_wp2_with fail
  go_loopw [7, 8] (fun s7 s8 wr => ∃ k nn : Nat, k ≤ L.length ∧ s8 = .int .i64 (k : Int) ∧ s7 = .int .i64 (nn : Int) ∧ nn + Ca.stayTo L o k = k ∧ Below w4.heap.size w4 wr) (fun _ s8 _ => L.length - (intOf s8).toNat)
  case atStart => exact ⟨0, 0, Nat.zero_le _, rfl, rfl, by rw [Nat.zero_add]; exact Nat.le_zero.1 (HS.out 0), Below.refl _ _⟩
  case round =>
    obtain ⟨k, nn, hk, rfl, rfl, hnn, hbw⟩ := hrel
    by_cases hlt : k < L.length
    · have hne : L ≠ [] := fun e => by subst e; simp at hlt
      have hbb := below_on B4.out hbw
      obtain ⟨b, off, hA, hcs⟩ := (HL.out.later hbb).at hne
      have hE := hcs k hlt
      have hxb := fun w' (hb : Below wr.heap.size wr w') => ((HL.out.later hbb).later hb).each _ (Ca.getD_mem hlt)
      have hy := HY.out k hlt
      have hno := HN.out k hlt
      have HL' := HL
      subst hA
      have hi0 : (0 : Int) ≤ (k : Int) := by omega
      have hi1 : (k : Int) < (L.length : Int) := by omega
      obtain ⟨zx, hx⟩ : ∃ x, L.getD k Bc.zero = x := ⟨_, rfl⟩
      rw [hx] at hE hxb hy hno
      obtain ⟨X, d, ⟨x0, x1, x2, vl⟩⟩ := zx
      dsimp only at hE hxb hy hno
      obtain ⟨e0, e1, e2, e3⟩ := hE
      obtain ⟨nf, hnf⟩ : ∃ nf, Ca.stayTo L o k = nf := ⟨_, rfl⟩
      rw [hnf] at hnn hy hno
      by_cases hd : x0 = o
      · have hd1 : (x0 == o) = true := beq_iff_eq.2 hd
        have hw1 : IntKind.i64.wrap ((nn : Int) + 1) = ((nn + 1 : Nat) : Int) := by rw [IntWalk.i64_in _ (by omega)]; omega
        have HNO := Lib.hid (hno hd)
        have BW := Lib.hid hbw
        have HNN := Lib.hid hnn
        clear hcs hx hxb hy hno hbb hbw hd hnf hnn
        go_wp2_with fail
        go_roundw
        case rel => exact ⟨k + 1, nn + 1, by omega, by go_num, by first | rfl | trivial, by rw [HNO.out]; have := HNN.out; omega, BW.out⟩
        case measure => simp [intOf]; omega
      · have hd1 : (x0 == o) = false := beq_eq_false_iff_ne.2 hd
        obtain ⟨hy1, hy2⟩ := hy hd
        have hnl : nf < M.length := by
          have h1 := (List.getElem?_eq_some_iff.1 hy2).1
          have := HML.out
          omega
        have hne2 : M ≠ [] := fun e => by subst e; simp at hnl
        obtain ⟨b2, off2, hA2, hcs2⟩ := (O4.out.later hbw).at hne2
        have hF := hcs2 nf hnl
        have hyb := fun w' (hb : Below wr.heap.size wr w') => ((O4.out.later hbw).later hb).each _ (Ca.getD_mem hnl)
        have hmx : (M.getD nf Bc.zero).b = ⟨x0, x1, x2, vl⟩ := by
          rw [← HM.out, List.getElem?_map, List.getElem?_eq_getElem hnl] at hy2
          rw [Ca.getD_lt hnl]
          injection hy2
        have O4' := O4
        subst hA2
        obtain ⟨zy, hzy⟩ : ∃ y, M.getD nf Bc.zero = y := ⟨_, rfl⟩
        rw [hzy] at hF hyb hmx
        obtain ⟨X2, d2, by_⟩ := zy
        dsimp only at hF hyb hmx
        subst hmx
        dsimp only at hF hyb
        have hw1 : IntKind.i64.wrap ((k : Int) - (nn : Int)) = (nf : Int) := by rw [IntWalk.i64_in _ (by omega)]; omega
        have hi2 : (0 : Int) ≤ (nf : Int) := by omega
        have hi3 : (nf : Int) < (M.length : Int) := by omega
        have hdl : decide ((M.length : Int) ≤ (nf : Int)) = false := decide_eq_false (by omega)
        have NS := Lib.hid (fun w' (hb : Below wr.heap.size wr w') => show Calls Try.prog 23 #[.agg #[.int .i64 x0, .int .i64 x1, .int .i64 x2, .slice X2 vl.length d2], .agg #[.int .i64 x0, .int .i64 x1, .int .i64 x2, .slice X vl.length d]] w' (Says (.bool true) w') from by
          have := bsamebody_any X2 X d2 d ⟨x0, x1, x2, vl⟩ ⟨x0, x1, x2, vl⟩ w' (hyb w' hb) (hxb w' hb)
          rwa [(Wi.bsame_iff _ _).2 rfl] at this)
        have HE := Lib.hid (And.intro e0 (And.intro e1 (And.intro e2 e3)))
        have HF := Lib.hid hF
        have HY1 := Lib.hid hy1
        have BW := Lib.hid hbw
        have HNN := Lib.hid hnn
        clear hcs hcs2 hx hxb hyb hy hno hbb hbw hd hy1 hy2 hF hzy hnf hnn e1 e2 e3
        go_wp2_with fail
        refine wp_region_facts 19 (by kernel_rfl) (by kernel_rfl)
          (fun v => { tmps := #[.slice (some ⟨b, off, none⟩) L.length c, .int .i64 o, undef, undef, u4, .slice (some ⟨b2, off2, none⟩) M.length c2, .slice A3 M3.length c3, .int .i64 (nn : Int), .int .i64 (k : Int), .bool true, .bool false, .slice (some ⟨b, off, none⟩) L.length c, .bool false, .slice (some ⟨b, off, none⟩) L.length c, .int .i64 o, .slice (some ⟨b2, off2, none⟩) M.length c2, .slice (some ⟨b2, off2, none⟩) M.length c2, .int .i64 o, .slice A3 M3.length c3, .int .i64 (k : Int), .slice (some ⟨b, off, none⟩) L.length c, .int .i64 (L.length : Int), .bool true, u23, u24, .slice (some ⟨b, off, none⟩) L.length c, .int .i64 (k : Int), .pointer (some ⟨b, off + k * 4, none⟩), .pointer (some ⟨b, off + k * 4, none⟩), .int .i64 x0, .int .i64 o, .bool false, u32, u33, v 0, v 1, v 2, v 3, v 4, v 5, v 6, v 7, v 8, v 9, v 10, v 11, v 12, v 13, v 14, v 15, v 16, v 17, v 18, u53, undef, undef, undef, undef, undef, undef, undef, undef, undef, undef, undef, undef], defers := [] }) (fun i => match i with | 0 => u34 | 1 => u35 | 2 => u36 | 3 => u37 | 4 => u38 | 5 => u39 | 6 => u40 | 7 => u41 | 8 => u42 | 9 => u43 | 10 => u44 | 11 => u45 | 12 => u46 | 13 => u47 | 14 => u48 | 15 => u49 | 16 => u50 | 17 => u51 | 18 => u52 | _ => undef)
          (fun i x wx => match i with
            | 0 => x = .slice (some ⟨b2, off2, none⟩) M.length c2
            | 1 => x = .int .i64 (M.length : Int)
            | 2 => x = .int .i64 (k : Int)
            | 3 => x = .int .i64 (nn : Int)
            | 4 => x = .int .i64 (nf : Int)
            | 5 => x = .bool false
            | 6 => x = .bool false
            | 7 => x = .slice (some ⟨b2, off2, none⟩) M.length c2
            | 8 => x = .int .i64 (k : Int)
            | 9 => x = .int .i64 (nn : Int)
            | 10 => x = .int .i64 (nf : Int)
            | 11 => x = .pointer (some ⟨b2, off2 + nf * 4, none⟩)
            | 12 => x = .agg #[.int .i64 x0, .int .i64 x1, .int .i64 x2, .slice X2 vl.length d2]
            | 13 => x = .slice (some ⟨b, off, none⟩) L.length c
            | 14 => x = .int .i64 (k : Int)
            | 15 => x = .pointer (some ⟨b, off + k * 4, none⟩)
            | 16 => x = .agg #[.int .i64 x0, .int .i64 x1, .int .i64 x2, .slice X vl.length d]
            | 17 => x = .bool true
            | 18 => x = .bool false
            | _ => True)
          (fun w1 w2 => Below w1.heap.size w1 w2) (fun h1 h2 => below_on h1 h2) (fun _ => Below.refl _ _) (Below.drew (Below.refl _ _)) ?stab ?step ?done
        case stab =>
          rintro i x w1 w2 h hb
          match i, h with
          | 0, h => exact h
          | 1, h => exact h
          | 2, h => exact h
          | 3, h => exact h
          | 4, h => exact h
          | 5, h => exact h
          | 6, h => exact h
          | 7, h => exact h
          | 8, h => exact h
          | 9, h => exact h
          | 10, h => exact h
          | 11, h => exact h
          | 12, h => exact h
          | 13, h => exact h
          | 14, h => exact h
          | 15, h => exact h
          | 16, h => exact h
          | 17, h => exact h
          | 18, h => exact h
          | i + 19, _ => trivial
        case step =>
          intro i hi v w' hb hd
          match i, hi with
          | 0, _ =>
            refine wpOp_oneK rfl (fun KK hKK => ?_)
            have HKK := Lib.hid hKK
            clear hKK hd
            go_wp2
            exact HKK.out _ _ ⟨_, (by simp [upd]; done), Below.refl _ _, rfl⟩
          | 1, _ =>
            have h0 : v 0 = _ := hd 0 (List.elem_iff.1 (by kernel_rfl))
            refine wpOp_oneK rfl (fun KK hKK => ?_)
            have HKK := Lib.hid hKK
            clear hKK hd
            rw [h0]
            go_wp2
            exact HKK.out _ _ ⟨_, (by simp [upd, h0]; done), Below.refl _ _, rfl⟩
          | 2, _ =>
            refine wpOp_oneK rfl (fun KK hKK => ?_)
            have HKK := Lib.hid hKK
            clear hKK hd
            go_wp2
            exact HKK.out _ _ ⟨_, (by simp [upd]; done), Below.refl _ _, rfl⟩
          | 3, _ =>
            refine wpOp_oneK rfl (fun KK hKK => ?_)
            have HKK := Lib.hid hKK
            clear hKK hd
            go_wp2
            exact HKK.out _ _ ⟨_, (by simp [upd]; done), Below.refl _ _, rfl⟩
          | 4, _ =>
            have h2 : v 2 = _ := hd 2 (List.elem_iff.1 (by kernel_rfl))
            have h3 : v 3 = _ := hd 3 (List.elem_iff.1 (by kernel_rfl))
            refine wpOp_oneK rfl (fun KK hKK => ?_)
            have HKK := Lib.hid hKK
            clear hKK hd
            rw [h2, h3]
            go_wp2
            exact HKK.out _ _ ⟨_, (by simp [upd, h2, h3]; done), Below.refl _ _, rfl⟩
          | 5, _ =>
            have h1 : v 1 = _ := hd 1 (List.elem_iff.1 (by kernel_rfl))
            have h4 : v 4 = _ := hd 4 (List.elem_iff.1 (by kernel_rfl))
            refine wpOp_oneK rfl (fun KK hKK => ?_)
            have HKK := Lib.hid hKK
            clear hKK hd
            rw [h1, h4]
            go_wp2
            exact HKK.out _ _ ⟨.bool false, (by simp [upd, h1, h4]; omega), Below.refl _ _, rfl⟩
          | 6, _ =>
            have h5 : v 5 = _ := hd 5 (List.elem_iff.1 (by kernel_rfl))
            refine wpOp_oneK rfl (fun KK hKK => ?_)
            have HKK := Lib.hid hKK
            clear hKK hd
            rw [h5]
            go_wp2
            exact HKK.out _ _ ⟨_, (by simp [upd, h5]; done), Below.refl _ _, rfl⟩
          | 7, _ =>
            have h6 : v 6 = _ := hd 6 (List.elem_iff.1 (by kernel_rfl))
            refine wpOp_oneK rfl (fun KK hKK => ?_)
            have HKK := Lib.hid hKK
            clear hKK hd
            rw [h6]
            go_wp2
            exact HKK.out _ _ ⟨_, (by simp [upd, h6]; done), Below.refl _ _, rfl⟩
          | 8, _ =>
            have h6 : v 6 = _ := hd 6 (List.elem_iff.1 (by kernel_rfl))
            refine wpOp_oneK rfl (fun KK hKK => ?_)
            have HKK := Lib.hid hKK
            clear hKK hd
            rw [h6]
            go_wp2
            exact HKK.out _ _ ⟨_, (by simp [upd, h6]; done), Below.refl _ _, rfl⟩
          | 9, _ =>
            have h6 : v 6 = _ := hd 6 (List.elem_iff.1 (by kernel_rfl))
            refine wpOp_oneK rfl (fun KK hKK => ?_)
            have HKK := Lib.hid hKK
            clear hKK hd
            rw [h6]
            go_wp2
            exact HKK.out _ _ ⟨_, (by simp [upd, h6]; done), Below.refl _ _, rfl⟩
          | 10, _ =>
            have h6 : v 6 = _ := hd 6 (List.elem_iff.1 (by kernel_rfl))
            have h8 : v 8 = _ := hd 8 (List.elem_iff.1 (by kernel_rfl))
            have h9 : v 9 = _ := hd 9 (List.elem_iff.1 (by kernel_rfl))
            refine wpOp_oneK rfl (fun KK hKK => ?_)
            have HKK := Lib.hid hKK
            clear hKK hd
            rw [h6, h8, h9]
            go_wp2
            exact HKK.out _ _ ⟨_, (by simp [upd, h6, h8, h9]; done), Below.refl _ _, rfl⟩
          | 11, _ =>
            have h6 : v 6 = _ := hd 6 (List.elem_iff.1 (by kernel_rfl))
            have h7 : v 7 = _ := hd 7 (List.elem_iff.1 (by kernel_rfl))
            have h10 : v 10 = _ := hd 10 (List.elem_iff.1 (by kernel_rfl))
            refine wpOp_oneK rfl (fun KK hKK => ?_)
            have HKK := Lib.hid hKK
            clear hKK hd
            rw [h6, h7, h10]
            go_wp2
            exact HKK.out _ _ ⟨_, (by simp [upd, h6, h7, h10]; done), Below.refl _ _, rfl⟩
          | 12, _ =>
            have h6 : v 6 = _ := hd 6 (List.elem_iff.1 (by kernel_rfl))
            have h11 : v 11 = _ := hd 11 (List.elem_iff.1 (by kernel_rfl))
            refine wpOp_oneK rfl (fun KK hKK => ?_)
            have HKK := Lib.hid hKK
            clear hKK hd
            rw [h6, h11]
            have q0 := cell_later hb HF.out.1
            have q1 := cell_later hb HF.out.2.1
            have q2 := cell_later hb HF.out.2.2.1
            have q3 := cell_later hb HF.out.2.2.2
            go_wp2
            exact HKK.out _ _ ⟨_, (by simp [upd, h6, h11]; done), Below.refl _ _, rfl⟩
          | 13, _ =>
            have h6 : v 6 = _ := hd 6 (List.elem_iff.1 (by kernel_rfl))
            refine wpOp_oneK rfl (fun KK hKK => ?_)
            have HKK := Lib.hid hKK
            clear hKK hd
            rw [h6]
            go_wp2
            exact HKK.out _ _ ⟨_, (by simp [upd, h6]; done), Below.refl _ _, rfl⟩
          | 14, _ =>
            have h6 : v 6 = _ := hd 6 (List.elem_iff.1 (by kernel_rfl))
            refine wpOp_oneK rfl (fun KK hKK => ?_)
            have HKK := Lib.hid hKK
            clear hKK hd
            rw [h6]
            go_wp2
            exact HKK.out _ _ ⟨_, (by simp [upd, h6]; done), Below.refl _ _, rfl⟩
          | 15, _ =>
            have h6 : v 6 = _ := hd 6 (List.elem_iff.1 (by kernel_rfl))
            have h13 : v 13 = _ := hd 13 (List.elem_iff.1 (by kernel_rfl))
            have h14 : v 14 = _ := hd 14 (List.elem_iff.1 (by kernel_rfl))
            refine wpOp_oneK rfl (fun KK hKK => ?_)
            have HKK := Lib.hid hKK
            clear hKK hd
            rw [h6, h13, h14]
            go_wp2
            exact HKK.out _ _ ⟨_, (by simp [upd, h6, h13, h14]; done), Below.refl _ _, rfl⟩
          | 16, _ =>
            have h6 : v 6 = _ := hd 6 (List.elem_iff.1 (by kernel_rfl))
            have h15 : v 15 = _ := hd 15 (List.elem_iff.1 (by kernel_rfl))
            refine wpOp_oneK rfl (fun KK hKK => ?_)
            have HKK := Lib.hid hKK
            clear hKK hd
            rw [h6, h15]
            have q0 := cell_later hb HE.out.1
            have q1 := cell_later hb HE.out.2.1
            have q2 := cell_later hb HE.out.2.2.1
            have q3 := cell_later hb HE.out.2.2.2
            go_wp2
            exact HKK.out _ _ ⟨_, (by simp [upd, h6, h15]; done), Below.refl _ _, rfl⟩
          | 17, _ =>
            have h6 : v 6 = _ := hd 6 (List.elem_iff.1 (by kernel_rfl))
            have h12 : v 12 = _ := hd 12 (List.elem_iff.1 (by kernel_rfl))
            have h16 : v 16 = _ := hd 16 (List.elem_iff.1 (by kernel_rfl))
            refine wpOp_oneK rfl (fun KK hKK => ?_)
            have HKK := Lib.hid hKK
            clear hKK hd
            rw [h6, h12, h16]
            go_wp2_with fail
            refine (NS.out _ hb).mono ?_
            rintro e w'' ⟨rfl, b⟩
            go_wp2
            exact HKK.out _ _ ⟨_, (by simp [upd, h6, h12, h16]; done), b, rfl⟩
          | 18, _ =>
            have h6 : v 6 = _ := hd 6 (List.elem_iff.1 (by kernel_rfl))
            have h17 : v 17 = _ := hd 17 (List.elem_iff.1 (by kernel_rfl))
            refine wpOp_oneK rfl (fun KK hKK => ?_)
            have HKK := Lib.hid hKK
            clear hKK hd
            rw [h6, h17]
            go_wp2
            exact HKK.out _ _ ⟨_, (by simp [upd, h6, h17]; done), Below.refl _ _, rfl⟩
          | k + 19, hk => exact absurd hk (by omega)
        case done =>
          intro v w5 hb hf
          have h6 : v 6 = _ := hf 6 (by decide)
          have h18 : v 18 = _ := hf 18 (by decide)
          clear hf
          rw [h6, h18]
          have HBB := Lib.hid (below_on BW.out hb)
          clear hb
          go_wp2_with fail
          go_roundw
          case rel => exact ⟨k + 1, nn, by omega, by go_num, by first | rfl | trivial, by rw [HY1.out]; have := HNN.out; omega, HBB.out⟩
          case measure => simp [intOf]; omega
    · obtain rfl : k = L.length := by omega
      have hh : nn + M.length = L.length := by have := HALL.out; have := HML.out; omega
      have hw1 : IntKind.i64.wrap ((L.length : Int) - (nn : Int)) = (M.length : Int) := by rw [IntWalk.i64_in _ (by omega)]; omega
      have ns := csame_any A2 A3 c2 c3 M M3 wr (O4.out.later hbw) (Q4.out.later hbw)
      rw [decide_eq_true (HM.out.trans HM3.out.symm)] at ns
      have NS := Lib.hid ns
      have BB := Lib.hid (below_on B4.out hbw)
      clear hbw ns hnn hh
      go_wp2_with fail
      refine NS.out.mono ?_
      rintro e w9 ⟨rfl, b9⟩
      have FB := Lib.hid (below_on BB.out b9)
      clear b9 NS BB
      go_wp2
      go_ret
      exact ⟨by first | rfl | simp, FB.out⟩
end Go.Proofs.Ytmccednfaemiaaa
