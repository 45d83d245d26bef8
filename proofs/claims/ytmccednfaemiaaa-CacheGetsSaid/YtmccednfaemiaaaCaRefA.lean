/-
  What telltaleref12's Used, Body, Same and Copy answer.
-/
import Derived.Test.YtmccednfaemiaaaCaOwn
import Derived.Test.YtmccednfaemiaaaWrBody2
import Derived.Test.YtmccednfaemiaaaRegion
import Derived.Test.YtmccednfaemiaaaRegionF3
import Derived.Test.YtmccednfaemiaaaRegionR
namespace Go.Proofs.Ytmccednfaemiaaa
open Go.RowKit

theorem infoBdy : (Try.prog.info? 38).map (fun i => (i.zero, i.size, i.bytes)) = some (some (.agg #[.int .i64 0, .int .i64 0, .int .i64 0, .slice none 0 0]), 4, 48) := by kernel_rfl
theorem infoBdz : (Try.prog.info? 38).map (·.size) = some 4 := by kernel_rfl
instance : DecidableEq Bd := fun x y => decidable_of_iff (Wi.bsame x y = true) (Wi.bsame_iff x y)
namespace Ca
def usedTo (L : List Bc) (k : Nat) : Nat := used ((L.take k).map Bc.b)
theorem usedTo_succ {L : List Bc} {k : Nat} (h : k < L.length) : usedTo L (k + 1) = usedTo L k + (L.getD k Bc.zero).b.v.length := by
  unfold usedTo
  rw [List.take_succ_eq_append_getElem h, List.map_append, used_append, getD_lt h]
  simp [used]
theorem usedTo_le (L : List Bc) (k : Nat) : usedTo L k ≤ used (L.map Bc.b) := by
  have := used_append ((L.take k).map Bc.b) ((L.drop k).map Bc.b)
  rw [← List.map_append, List.take_append_drop] at this
  unfold usedTo
  omega
theorem usedTo_all (L : List Bc) : usedTo L L.length = used (L.map Bc.b) := by unfold usedTo; rw [List.take_length]
theorem take_snoc {L : List Bc} {k : Nat} (h : k < L.length) : (L.take (k + 1)).map Bc.b = (L.take k).map Bc.b ++ [(L.getD k Bc.zero).b] := by
  rw [List.take_succ_eq_append_getElem h, List.map_append, getD_lt h]
  rfl
theorem map_ext {L M : List Bc} (hl : L.length = M.length) (h : ∀ k, k < L.length → (L.getD k Bc.zero).b = (M.getD k Bc.zero).b) : L.map Bc.b = M.map Bc.b := by
  apply List.ext_getElem
  · simp [hl]
  · intro i h1 h2
    simp at h1 h2
    rw [List.getElem_map, List.getElem_map, ← getD_lt h1, ← getD_lt h2]
    exact h i h1
theorem map_at {L M : List Bc} (h : L.map Bc.b = M.map Bc.b) (k : Nat) (hk : k < L.length) : (L.getD k Bc.zero).b = (M.getD k Bc.zero).b := by
  have hl : L.length = M.length := by have := congrArg List.length h; simpa using this
  have h1 : (L.map Bc.b)[k]? = (M.map Bc.b)[k]? := by rw [h]
  rw [List.getElem?_map, List.getElem?_map, List.getElem?_eq_getElem hk, List.getElem?_eq_getElem (by omega)] at h1
  rw [getD_lt hk, getD_lt (by omega)]
  injection h1
end Ca
/-- A body is answered, its bytes in memory of the call's own. -/
def GivesBd (b : Bd) (w : World) (e : Ending) (w' : World) : Prop := ∃ Y d, e = .returned (.agg (bdCells Y d b)) ∧ w'.ownsRow w.heap.size 5 1 (.slice Y b.v.length d) b.v.length (bCells b.v) ∧ Below w.heap.size w w'

set_option maxHeartbeats 1600000 in
theorem cused_any (A : Option Addr) (c : Nat) (L : List Bc) (w : World) (h : OneC w A c L) (hu : Ca.used (L.map Bc.b) ≤ 4611686018427387904) :
    Calls Try.prog 14 #[.slice A L.length c] w (Says (.int .i64 (Ca.used (L.map Bc.b) : Int)) w) := by
  have hlen := h.len
  have HL := Lib.hid h
  have HU := Lib.hid (fun k => Ca.usedTo_le L k)
  have HA := Lib.hid (Ca.usedTo_all L)
  have HS := Lib.hid (fun k hk => Ca.usedTo_succ (L := L) (k := k) hk)
  obtain ⟨U, hUU⟩ : ∃ U, Ca.used (L.map Bc.b) = U := ⟨_, rfl⟩
  rw [hUU] at hu HU HA ⊢
  clear h hUU
  go_enter Try.func14, Try.ntmps14
  go_wp2_with fail
  go_loopw [3, 4] (fun s3 s4 wr => ∃ k : Nat, k ≤ L.length ∧ s4 = .int .i64 (k : Int) ∧ s3 = .int .i64 (Ca.usedTo L k : Int) ∧ Below w.heap.size w wr) (fun _ s4 _ => L.length - (intOf s4).toNat)
  case atStart => exact ⟨0, Nat.zero_le _, rfl, rfl, Below.refl _ _⟩
  case round =>
    obtain ⟨k, hk, rfl, rfl, hbw⟩ := hrel
    by_cases hlt : k < L.length
    · have hne : L ≠ [] := fun e => by subst e; simp at hlt
      obtain ⟨b, off, hA, hcs⟩ := (HL.out.later hbw).at hne
      obtain ⟨e0, e1, e2, e3⟩ := hcs k hlt
      subst hA
      have hi0 : (0 : Int) ≤ (k : Int) := by omega
      have hi1 : (k : Int) < (L.length : Int) := by omega
      have hsu := HS.out k hlt
      have hul := HU.out (k + 1)
      obtain ⟨x, hx⟩ : ∃ x, L.getD k Bc.zero = x := ⟨_, rfl⟩
      rw [hx] at e3 hsu
      obtain ⟨uk, huk⟩ : ∃ uk, Ca.usedTo L k = uk := ⟨_, rfl⟩
      rw [huk] at hsu ⊢
      obtain ⟨n, hn⟩ : ∃ n, x.b.v.length = n := ⟨_, rfl⟩
      rw [hn] at e3 hsu
      have hw1 : IntKind.i64.wrap ((uk : Int) + (n : Int)) = (uk : Int) + (n : Int) := IntWalk.i64_in _ (by omega)
      have HSU := Lib.hid hsu
      clear hcs e0 e1 e2 hx huk hn hsu
      go_wp2_with fail
      go_roundw
      case rel => exact ⟨k + 1, by omega, by go_num, by rw [HSU.out]; simp, hbw⟩
      case measure => simp [intOf]; omega
    · obtain rfl : k = L.length := by omega
      rw [HA.out]
      have HB := Lib.hid hbw
      clear hbw
      go_wp2
      go_ret
      exact ⟨rfl, HB.out⟩

set_option maxRecDepth 100000 in
set_option maxHeartbeats 3200000 in
theorem cbody_any (X : Option Addr) (d : Nat) (x : Bd) (w : World) (hz : x.v.length ≤ 140737488355328) (h : OneB w X d x.v) :
    Calls Try.prog 18 #[.agg (bdCells X d x)] w (GivesBd x w) := by
  obtain ⟨x0, x1, x2, vl⟩ := x
  unfold bdCells
  dsimp only at h hz ⊢
  have b0 := below_new (below_new (Below.refl w.heap.size w) (.cells #[.int .i64 x0, .int .i64 x1, .int .i64 x2, .slice X vl.length d] 38)) (.cells #[.int .i64 0, .int .i64 0, .int .i64 0, .slice none 0 0] 38)
  have B0 := (Blk.new w 38 #[.int .i64 x0, .int .i64 x1, .int .i64 x2, .slice X vl.length d]).alloc (.cells #[.int .i64 0, .int .i64 0, .int .i64 0, .slice none 0 0] 38)
  have R0 := Blk.new (w.alloc (.cells #[.int .i64 x0, .int .i64 x1, .int .i64 x2, .slice X vl.length d] 38)) 38 #[.int .i64 0, .int .i64 0, .int .i64 0, .slice none 0 0]
  rw [World.size_alloc] at R0
  obtain ⟨W, hW⟩ : ∃ W, (w.alloc (.cells #[.int .i64 x0, .int .i64 x1, .int .i64 x2, .slice X vl.length d] 38)).alloc (.cells #[.int .i64 0, .int .i64 0, .int .i64 0, .slice none 0 0] 38) = W := ⟨_, rfl⟩
  rw [hW] at b0 B0 R0
  have HX := Lib.hid (show W.cell? ⟨w.heap.size, 0, none⟩ = some (.int .i64 x0) ∧ W.cell? ⟨w.heap.size, 1, none⟩ = some (.int .i64 x1) ∧ W.cell? ⟨w.heap.size, 2, none⟩ = some (.int .i64 x2) ∧ W.cell? ⟨w.heap.size, 3, none⟩ = some (.slice X vl.length d) from ⟨B0.cell rfl, B0.cell rfl, B0.cell rfl, B0.cell rfl⟩)
  have HW := Lib.hid hW
  have HR := Lib.hid R0
  have HB := Lib.hid b0
  have NC := Lib.hid (fun w' (hb : Below W.heap.size W w') => bcopy_any X d vl w' hz (h.later (below_on b0 hb)))
  have hzW := b0.size
  have hlt := R0.lt
  clear h hW B0 R0 b0
  go_enter Try.func18, Try.ntmps18
  go_upto_region 1 with (fail)
  rw [HW.out]
  refine wp_region_facts 8 (by kernel_rfl) (by kernel_rfl)
    (fun v => { tmps := #[.agg #[.int .i64 x0, .int .i64 x1, .int .i64 x2, .slice X vl.length d], .pointer (some ⟨w.heap.size, 0, none⟩), .pointer (some ⟨w.heap.size + 1, 0, none⟩), v 0, v 1, v 2, v 3, v 4, v 5, v 6, v 7], defers := [] }) (fun _ => undef)
    (fun i x wx => match i with
      | 0 => x = .pointer (some ⟨w.heap.size, 0, none⟩)
      | 1 => x = .int .i64 x0
      | 2 => x = .pointer (some ⟨w.heap.size, 1, none⟩)
      | 3 => x = .agg #[.int .i64 x1, .int .i64 x2]
      | 4 => x = .pointer (some ⟨w.heap.size, 3, none⟩)
      | 5 => x = .slice X vl.length d
      | 6 => ∃ Y e, x = .slice Y vl.length e ∧ wx.ownsRow W.heap.size 5 1 (.slice Y vl.length e) vl.length (bCells vl)
      | 7 => ∃ Y e, x = .agg #[.int .i64 x0, .int .i64 x1, .int .i64 x2, .slice Y vl.length e] ∧ wx.ownsRow W.heap.size 5 1 (.slice Y vl.length e) vl.length (bCells vl)
      | _ => True)
    (fun w1 w2 => Below w1.heap.size w1 w2) (fun h1 h2 => below_on h1 h2) (fun _ => Below.refl _ _) (Below.drew (Below.refl _ _)) ?stab ?step ?done
  case stab =>
    rintro i x w1 w2 h hb
    match i, h with
    | 0, h => exact h
    | 1, h => exact h
    | 2, h => exact h
    | 3, h => exact h
    | 4, h => exact h
    | 5, h => exact h
    | 6, h => obtain ⟨Y, e, h1, h2⟩ := h; exact ⟨Y, e, h1, own_later h2 hb⟩
    | 7, h => obtain ⟨Y, e, h1, h2⟩ := h; exact ⟨Y, e, h1, own_later h2 hb⟩
    | i + 8, _ => trivial
  case step =>
    intro i hi v w' hb hd
    match i, hi with
    | 0, _ =>
      refine wpOp_oneK rfl (fun KK hKK => ?_)
      have HKK := Lib.hid hKK
      clear hKK hd
      go_wp2
      exact HKK.out _ _ ⟨_, (by simp [upd]; done), Below.refl _ _, rfl⟩
    | 1, _ =>
      have h0 : v 0 = _ := hd 0 (List.elem_iff.1 (by kernel_rfl))
      refine wpOp_oneK rfl (fun KK hKK => ?_)
      have HKK := Lib.hid hKK
      clear hKK hd
      rw [h0]
      have q0 := cell_later hb HX.out.1
      go_wp2
      exact HKK.out _ _ ⟨_, (by simp [upd, h0]; done), Below.refl _ _, rfl⟩
    | 2, _ =>
      refine wpOp_oneK rfl (fun KK hKK => ?_)
      have HKK := Lib.hid hKK
      clear hKK hd
      go_wp2
      exact HKK.out _ _ ⟨_, (by simp [upd]; done), Below.refl _ _, rfl⟩
    | 3, _ =>
      have h2 : v 2 = _ := hd 2 (List.elem_iff.1 (by kernel_rfl))
      refine wpOp_oneK rfl (fun KK hKK => ?_)
      have HKK := Lib.hid hKK
      clear hKK hd
      rw [h2]
      have q0 := cell_later hb HX.out.2.1
      have q1 := cell_later hb HX.out.2.2.1
      go_wp2
      exact HKK.out _ _ ⟨_, (by simp [upd, h2]; done), Below.refl _ _, rfl⟩
    | 4, _ =>
      refine wpOp_oneK rfl (fun KK hKK => ?_)
      have HKK := Lib.hid hKK
      clear hKK hd
      go_wp2
      exact HKK.out _ _ ⟨_, (by simp [upd]; done), Below.refl _ _, rfl⟩
    | 5, _ =>
      have h4 : v 4 = _ := hd 4 (List.elem_iff.1 (by kernel_rfl))
      refine wpOp_oneK rfl (fun KK hKK => ?_)
      have HKK := Lib.hid hKK
      clear hKK hd
      rw [h4]
      have q0 := cell_later hb HX.out.2.2.2
      go_wp2
      exact HKK.out _ _ ⟨_, (by simp [upd, h4]; done), Below.refl _ _, rfl⟩
    | 6, _ =>
      have h5 : v 5 = _ := hd 5 (List.elem_iff.1 (by kernel_rfl))
      refine wpOp_oneK rfl (fun KK hKK => ?_)
      have HKK := Lib.hid hKK
      clear hKK hd
      rw [h5]
      have hsz := hb.size
      go_wp2_with fail
      refine (NC.out _ hb).mono ?_
      rintro e w'' ⟨u, rfl, ho, b⟩
      obtain ⟨Y, ey, rfl, -, -, -, -⟩ := own_form ho
      have HO := Lib.hid (own_base ho hsz)
      clear ho
      go_wp2
      exact HKK.out _ _ ⟨_, (by simp [upd, h5]; done), b, Y, ey, rfl, HO.out⟩
    | 7, _ =>
      have h1 : v 1 = _ := hd 1 (List.elem_iff.1 (by kernel_rfl))
      have h3 : v 3 = _ := hd 3 (List.elem_iff.1 (by kernel_rfl))
      obtain ⟨Y6, e6, h6, o6⟩ := hd 6 (List.elem_iff.1 (by kernel_rfl))
      refine wpOp_oneK rfl (fun KK hKK => ?_)
      have HKK := Lib.hid hKK
      clear hKK hd
      rw [h1, h3, h6]
      have HO := Lib.hid o6
      clear o6
      go_wp2
      exact HKK.out _ _ ⟨_, (by simp [upd, h1, h3, h6]; done), Below.refl _ _, Y6, e6, rfl, HO.out⟩
    | k + 8, hk => exact absurd hk (by omega)
  case done =>
    intro v w5 hb hf
    obtain ⟨Y7, e7, h7, o7⟩ := hf 7 (by decide)
    clear hf
    rw [h7]
    have HRR := Lib.hid (HR.out.later hb)
    have HBB := Lib.hid (below_on HB.out hb)
    have HO := Lib.hid o7
    have r0 := HRR.out.cell (i := 0) rfl
    have r1 := HRR.out.cell (i := 1) rfl
    have r2 := HRR.out.cell (i := 2) rfl
    have r3 := HRR.out.cell (i := 3) rfl
    have f0 := HRR.out.free 0
    have f1 := HRR.out.free 1
    have f2 := HRR.out.free 2
    have f3 := HRR.out.free 3
    have hh : w.heap.size ≤ w.heap.size + 1 := by omega
    have HP := Lib.hid ((((HRR.out.put 0 (.int .i64 x0)).put 1 (.int .i64 x1)).put 2 (.int .i64 x2)).put 3 (.slice Y7 vl.length e7))
    have HQ := Lib.hid ((((HBB.out.setCell (p := ⟨w.heap.size + 1, 0, none⟩) hh (.int .i64 x0)).setCell (p := ⟨w.heap.size + 1, 1, none⟩) hh (.int .i64 x1)).setCell (p := ⟨w.heap.size + 1, 2, none⟩) hh (.int .i64 x2)).setCell (p := ⟨w.heap.size + 1, 3, none⟩) hh (.slice Y7 vl.length e7))
    have HOO := Lib.hid (own_base (own_stays (w' := (((w5.setCell ⟨w.heap.size + 1, 0, none⟩ (.int .i64 x0)).setCell ⟨w.heap.size + 1, 1, none⟩ (.int .i64 x1)).setCell ⟨w.heap.size + 1, 2, none⟩ (.int .i64 x2)).setCell ⟨w.heap.size + 1, 3, none⟩ (.slice Y7 vl.length e7)) HO.out (fun k hk => by
      have hk2 := own_ge HO.out k hk
      have hne : k ≠ w.heap.size + 1 := by omega
      exact (((Below.heap_setCell _ _ _ _ hne).trans (Below.heap_setCell _ _ _ _ hne)).trans (Below.heap_setCell _ _ _ _ hne)).trans (Below.heap_setCell _ _ _ _ hne))) hzW)
    clear hb o7 NC HX
    go_wp2
    exact bodyPost_ret (v := .agg (bdCells Y7 e7 ⟨x0, x1, x2, vl⟩)) (results_cell_row rfl _ _ (w.heap.size + 1) 38 (bdCells Y7 e7 ⟨x0, x1, x2, vl⟩) (0, 0) _ rfl HP.out Try.underlying38 rfl infoBdz) rfl ⟨Y7, e7, rfl, HOO.out, HQ.out⟩

set_option maxRecDepth 100000 in
set_option maxHeartbeats 3200000 in
theorem csame_any (A B : Option Addr) (c1 c2 : Nat) (L M : List Bc) (w : World) (h1 : OneC w A c1 L) (h2 : OneC w B c2 M) :
    Calls Try.prog 15 #[.slice A L.length c1, .slice B M.length c2] w (Says (.bool (decide (L.map Bc.b = M.map Bc.b))) w) := by
  have hl := h1.len
  have H1 := Lib.hid h1
  have H2 := Lib.hid h2
  clear h1 h2
  by_cases hlen : L.length = M.length
  · have hd0 : ((L.length : Int) != (M.length : Int)) = false := by rw [bne_eq_false_iff_eq]; omega
    have HLEN := Lib.hid hlen
    have hr1 : M.length ≤ L.length := by omega
    have hr2 : L.length ≤ M.length := by omega
    clear hlen
    go_enter Try.func15, Try.ntmps15
    go_wp2_with fail
    go_loopw [5] (fun s5 wr => ∃ k : Nat, k ≤ L.length ∧ s5 = .int .i64 (k : Int) ∧ (∀ j, j < k → (L.getD j Bc.zero).b = (M.getD j Bc.zero).b) ∧ Below w.heap.size w wr) (fun s5 _ => L.length - (intOf s5).toNat)
    case atStart => exact ⟨0, Nat.zero_le _, rfl, fun j hj => by omega, Below.refl _ _⟩
    case round =>
      obtain ⟨k, hk, rfl, heq, hbw⟩ := hrel
      have HEQ := Lib.hid heq
      clear heq
      by_cases hlt : k < L.length
      · have hne : L ≠ [] := fun e => by subst e; simp at hlt
        have hne2 : M ≠ [] := fun e => by have := HLEN.out; subst e; simp at this; exact hne this
        obtain ⟨b, off, hA, hcA⟩ := (H1.out.later hbw).at hne
        obtain ⟨b', off', hB, hcB⟩ := (H2.out.later hbw).at hne2
        have hE := hcA k hlt
        have hF := hcB k (by omega)
        have hx1 := fun w' (hb : Below wr.heap.size wr w') => ((H1.out.later hbw).later hb).each _ (Ca.getD_mem hlt)
        have hy1 := fun w' (hb : Below wr.heap.size wr w') => ((H2.out.later hbw).later hb).each _ (Ca.getD_mem (show k < M.length by omega))
        have H1' := H1
        have H2' := H2
        subst hA hB
        clear hcA hcB
        have hi0 : (0 : Int) ≤ (k : Int) := by omega
        have hi1 : (k : Int) < (L.length : Int) := by omega
        have hi2 : (k : Int) < (M.length : Int) := by omega
        obtain ⟨zx, hx⟩ : ∃ x, L.getD k Bc.zero = x := ⟨_, rfl⟩
        obtain ⟨zy, hy⟩ : ∃ y, M.getD k Bc.zero = y := ⟨_, rfl⟩
        rw [hx] at hE hx1
        rw [hy] at hF hy1
        have HX := Lib.hid hx
        have HY := Lib.hid hy
        have HE := Lib.hid hE
        have HF := Lib.hid hF
        obtain ⟨q, hq⟩ : ∃ q, Wi.bsame zx.b zy.b = q := ⟨_, rfl⟩
        have HQ := Lib.hid hq
        have NS := Lib.hid (fun w' (hb : Below wr.heap.size wr w') => show Calls Try.prog 23 #[.agg (bdCells zx.X zx.d zx.b), .agg (bdCells zy.X zy.d zy.b)] w' (Says (.bool q) w') from by rw [← hq]; exact bsamebody_any zx.X zy.X zx.d zy.d zx.b zy.b w' (hx1 w' hb) (hy1 w' hb))
        have BW := Lib.hid hbw
        clear hx hy hE hF hx1 hy1 hq hbw
        unfold bdCells at NS
        go_wp2_with fail
        refine wp_region_facts 9 (by kernel_rfl) (by kernel_rfl)
          (fun v => { tmps := #[.slice (some ⟨b, off, none⟩) L.length c1, .slice (some ⟨b', off', none⟩) M.length c2, undef, undef, u4, .int .i64 (k : Int), .slice (some ⟨b, off, none⟩) L.length c1, .int .i64 (L.length : Int), .slice (some ⟨b', off', none⟩) M.length c2, .int .i64 (M.length : Int), .bool false, .int .i64 (k : Int), .slice (some ⟨b, off, none⟩) L.length c1, .int .i64 (L.length : Int), .bool true, u15, u16, v 0, v 1, v 2, v 3, v 4, v 5, v 6, v 7, v 8, u26], defers := [] }) (fun i => match i with | 0 => u17 | 1 => u18 | 2 => u19 | 3 => u20 | 4 => u21 | 5 => u22 | 6 => u23 | 7 => u24 | 8 => u25 | _ => undef)
          (fun i x wx => match i with
            | 0 => x = .slice (some ⟨b, off, none⟩) L.length c1
            | 1 => x = .int .i64 (k : Int)
            | 2 => x = .pointer (some ⟨b, off + k * 4, none⟩)
            | 3 => x = .agg #[.int .i64 zx.b.o, .int .i64 zx.b.c, .int .i64 zx.b.n, .slice zx.X zx.b.v.length zx.d]
            | 4 => x = .slice (some ⟨b', off', none⟩) M.length c2
            | 5 => x = .int .i64 (k : Int)
            | 6 => x = .pointer (some ⟨b', off' + k * 4, none⟩)
            | 7 => x = .agg #[.int .i64 zy.b.o, .int .i64 zy.b.c, .int .i64 zy.b.n, .slice zy.X zy.b.v.length zy.d]
            | 8 => x = .bool q
            | _ => True)
          (fun w1 w2 => Below w1.heap.size w1 w2) (fun h1 h2 => below_on h1 h2) (fun _ => Below.refl _ _) (Below.drew (Below.refl _ _)) ?stab ?step ?done
        case stab =>
          rintro i x w1 w2 h hb
          match i, h with
          | 0, h => exact h
          | 1, h => exact h
          | 2, h => exact h
          | 3, h => exact h
          | 4, h => exact h
          | 5, h => exact h
          | 6, h => exact h
          | 7, h => exact h
          | 8, h => exact h
          | i + 9, _ => trivial
        case step =>
          intro i hi v w' hb hd
          match i, hi with
          | 0, _ =>
            refine wpOp_oneK rfl (fun KK hKK => ?_)
            have HKK := Lib.hid hKK
            clear hKK hd
            go_wp2
            exact HKK.out _ _ ⟨_, (by simp [upd]; done), Below.refl _ _, rfl⟩
          | 1, _ =>
            refine wpOp_oneK rfl (fun KK hKK => ?_)
            have HKK := Lib.hid hKK
            clear hKK hd
            go_wp2
            exact HKK.out _ _ ⟨_, (by simp [upd]; done), Below.refl _ _, rfl⟩
          | 2, _ =>
            have h0 : v 0 = _ := hd 0 (List.elem_iff.1 (by kernel_rfl))
            have h1 : v 1 = _ := hd 1 (List.elem_iff.1 (by kernel_rfl))
            refine wpOp_oneK rfl (fun KK hKK => ?_)
            have HKK := Lib.hid hKK
            clear hKK hd
            rw [h0, h1]
            go_wp2
            exact HKK.out _ _ ⟨_, (by simp [upd, h0, h1]; done), Below.refl _ _, rfl⟩
          | 3, _ =>
            have h2 : v 2 = _ := hd 2 (List.elem_iff.1 (by kernel_rfl))
            refine wpOp_oneK rfl (fun KK hKK => ?_)
            have HKK := Lib.hid hKK
            clear hKK hd
            rw [h2]
            have q0 := cell_later hb HE.out.1
            have q1 := cell_later hb HE.out.2.1
            have q2 := cell_later hb HE.out.2.2.1
            have q3 := cell_later hb HE.out.2.2.2
            go_wp2
            exact HKK.out _ _ ⟨_, (by simp [upd, h2]; done), Below.refl _ _, rfl⟩
          | 4, _ =>
            refine wpOp_oneK rfl (fun KK hKK => ?_)
            have HKK := Lib.hid hKK
            clear hKK hd
            go_wp2
            exact HKK.out _ _ ⟨_, (by simp [upd]; done), Below.refl _ _, rfl⟩
          | 5, _ =>
            refine wpOp_oneK rfl (fun KK hKK => ?_)
            have HKK := Lib.hid hKK
            clear hKK hd
            go_wp2
            exact HKK.out _ _ ⟨_, (by simp [upd]; done), Below.refl _ _, rfl⟩
          | 6, _ =>
            have h4 : v 4 = _ := hd 4 (List.elem_iff.1 (by kernel_rfl))
            have h5 : v 5 = _ := hd 5 (List.elem_iff.1 (by kernel_rfl))
            refine wpOp_oneK rfl (fun KK hKK => ?_)
            have HKK := Lib.hid hKK
            clear hKK hd
            rw [h4, h5]
            go_wp2
            exact HKK.out _ _ ⟨_, (by simp [upd, h4, h5]; done), Below.refl _ _, rfl⟩
          | 7, _ =>
            have h6 : v 6 = _ := hd 6 (List.elem_iff.1 (by kernel_rfl))
            refine wpOp_oneK rfl (fun KK hKK => ?_)
            have HKK := Lib.hid hKK
            clear hKK hd
            rw [h6]
            have q0 := cell_later hb HF.out.1
            have q1 := cell_later hb HF.out.2.1
            have q2 := cell_later hb HF.out.2.2.1
            have q3 := cell_later hb HF.out.2.2.2
            go_wp2
            exact HKK.out _ _ ⟨_, (by simp [upd, h6]; done), Below.refl _ _, rfl⟩
          | 8, _ =>
            have h3 : v 3 = _ := hd 3 (List.elem_iff.1 (by kernel_rfl))
            have h7 : v 7 = _ := hd 7 (List.elem_iff.1 (by kernel_rfl))
            refine wpOp_oneK rfl (fun KK hKK => ?_)
            have HKK := Lib.hid hKK
            clear hKK hd
            rw [h3, h7]
            go_wp2_with fail
            refine (NS.out _ hb).mono ?_
            rintro e w'' ⟨rfl, b⟩
            go_wp2
            exact HKK.out _ _ ⟨_, (by simp [upd, h3, h7]; done), b, rfl⟩
          | k + 9, hk => exact absurd hk (by omega)
        case done =>
          intro v w5 hb hf
          have h8 : v 8 = _ := hf 8 (by decide)
          clear hf
          rw [h8]
          have HBB := Lib.hid (below_on BW.out hb)
          clear hb
          cases q with
          | true =>
            have hxy := (Wi.bsame_iff zx.b zy.b).1 HQ.out
            have HXY := Lib.hid hxy
            clear hxy
            go_wp2_with fail
            go_roundw
            case rel =>
              refine ⟨k + 1, by omega, by go_num, ?_, HBB.out⟩
              intro j hj
              by_cases e : j = k
              · subst e; rw [HX.out, HY.out]; exact HXY.out
              · exact HEQ.out j (by omega)
            case measure => simp [intOf]; omega
          | false =>
            have hno : decide (L.map Bc.b = M.map Bc.b) = false := decide_eq_false (fun e => by
              have h3 := Ca.map_at e k hlt
              rw [HX.out, HY.out] at h3
              have h4 := (Wi.bsame_iff zx.b zy.b).2 h3
              rw [HQ.out] at h4
              cases h4)
            have HNO := Lib.hid hno
            clear hno
            go_wp2
            go_ret
            exact ⟨by rw [HNO.out]; rfl, HBB.out⟩
      · have hyes : decide (L.map Bc.b = M.map Bc.b) = true := decide_eq_true (Ca.map_ext HLEN.out (fun j hj => HEQ.out j (by omega)))
        have HY := Lib.hid hyes
        have BW := Lib.hid hbw
        clear hyes hbw
        go_wp2
        go_ret
        exact ⟨by rw [HY.out]; rfl, BW.out⟩
  · have hd0 : ((L.length : Int) != (M.length : Int)) = true := by rw [bne_iff_ne]; omega
    have hno : decide (L.map Bc.b = M.map Bc.b) = false := decide_eq_false (fun e => hlen (by have := congrArg List.length e; simpa using this))
    have HNO := Lib.hid hno
    clear hno
    go_enter Try.func15, Try.ntmps15
    go_wp2
    go_ret
    exact ⟨by rw [HNO.out]; rfl, Below.refl _ _⟩

set_option maxRecDepth 100000 in
set_option maxHeartbeats 3200000 in
theorem ccopy_any (A : Option Addr) (c : Nat) (L : List Bc) (w : World) (h : OneC w A c L) (hf : Fits L) :
    Calls Try.prog 9 #[.slice A L.length c] w (GivesC (L.map Bc.b) w) := by
  obtain ⟨i0, hI, hZ0, hZ1, hZ2⟩ := info_parts infoBdy
  have hn := hf.n
  have HL := Lib.hid h
  have HZ := Lib.hid hf.each
  have HT := Lib.hid (fun k hk => Ca.take_snoc (L := L) (k := k) hk)
  clear h hf
  go_enter Try.func9, Try.ntmps9
  go_wp2_with fail
  go_loopw [3, 4] (fun s3 s4 wr => ∃ (k : Nat) (M : List Bc), k ≤ L.length ∧ s4 = .int .i64 (k : Int) ∧ M.map Bc.b = (L.take k).map Bc.b ∧ M.length = k ∧ OwnRC wr w.heap.size 38 5 s3 M ∧ Below w.heap.size w wr) (fun _ s4 _ => L.length - (intOf s4).toNat)
  case atStart => exact ⟨0, [], Nat.zero_le _, rfl, rfl, rfl, OwnRC.nil _ _ _ _, Below.refl _ _⟩
  case round =>
    obtain ⟨k, M, hk, rfl, hM, hMl, hR, hbw⟩ := hrel
    have hml : M.length ≤ k := Nat.le_of_eq hMl
    have HML := Lib.hid hMl
    clear hMl
    by_cases hlt : k < L.length
    · have hne : L ≠ [] := fun e => by subst e; simp at hlt
      obtain ⟨b, off, hA, hcs⟩ := (HL.out.later hbw).at hne
      obtain ⟨e0, e1, e2, e3⟩ := hcs k hlt
      have hxb := (HL.out.later hbw).each _ (Ca.getD_mem hlt)
      have hxz := HZ.out _ (Ca.getD_mem hlt)
      have hts := HT.out k hlt
      subst hA
      have hi0 : (0 : Int) ≤ (k : Int) := by omega
      have hi1 : (k : Int) < (L.length : Int) := by omega
      obtain ⟨x, hx⟩ : ∃ x, L.getD k Bc.zero = x := ⟨_, rfl⟩
      rw [hx] at e0 e1 e2 e3 hxb hxz hts
      obtain ⟨X, d, ⟨x0, x1, x2, v⟩⟩ := x
      dsimp only at e0 e1 e2 e3 hxb hxz hts
      have NB := Lib.hid (show Calls Try.prog 18 #[.agg #[.int .i64 x0, .int .i64 x1, .int .i64 x2, .slice X v.length d]] wr (GivesBd ⟨x0, x1, x2, v⟩ wr) from cbody_any X d ⟨x0, x1, x2, v⟩ wr hxz hxb)
      obtain ⟨VA, vc, hvv, -, -, -, -⟩ := own_form hR.row
      subst hvv
      have HTS := Lib.hid hts
      have HM := Lib.hid hM
      have HR := Lib.hid hR
      have BW := Lib.hid hbw
      have HIB := Lib.hid hxb.byte
      clear hcs hx hxb hxz hts hM hR hbw
      go_wp2_with fail
      refine NB.out.mono ?_
      rintro e w2 ⟨Y, dy, rfl, hoy, b2⟩
      unfold bdCells
      dsimp only at hoy ⊢
      have bz := below_new (Below.refl w2.heap.size w2) (.cells #[.int .i64 x0, .int .i64 x1, .int .i64 x2, .slice Y v.length dy] 38)
      have hR2 := HR.out.later (below_on b2 bz)
      have hoy2 := own_later (own_base hoy BW.out.size) bz
      have hbw2 := below_on (below_on BW.out b2) bz
      have hszw := hbw2.size
      have hy1 : Lies (w2.alloc (.cells #[.int .i64 x0, .int .i64 x1, .int .i64 x2, .slice Y v.length dy] 38)) (some ⟨w2.heap.size, 0, none⟩) (Ca.cell ⟨Y, dy, ⟨x0, x1, x2, v⟩⟩) := fun _ => ⟨w2.heap.size, 0, rfl, fun j u hu => by
        rw [Nat.zero_add]
        exact (Blk.new w2 38 #[.int .i64 x0, .int .i64 x1, .int .i64 x2, .slice Y v.length dy]).cell (by simpa [Ca.cell] using hu)⟩
      have HR2 := Lib.hid hR2
      have HO2 := Lib.hid hoy2
      have hrow := hR2.row
      clear b2 hR2 hoy2 hoy NB
      go_wp2_with (at_builtin; refine Go.Proofs.Ytmccednfaemiaaa.wpList_append_lies _ rfl _ _ 22 rfl w.heap.size 38 i0 (.agg #[.int .i64 0, .int .i64 0, .int .i64 0, .slice none 0 0]) 4 48 Try.underlying22 hI hZ0 hZ1 hZ2 rfl (by decide) _ M.length (Ca.cells M) rfl hrow (some ⟨w2.heap.size, 0, none⟩) 1 1 (fun h => by cases h) (Ca.cell ⟨Y, dy, ⟨x0, x1, x2, v⟩⟩) rfl rfl hy1 (by intro u hu; simp [Ca.cell] at hu; rcases hu with rfl | rfl | rfl | rfl <;> rfl) ?h63 ?hbytes hszw ?_)
      case h63 => unfold maxLen; omega
      case hbytes => omega
      intro v' wz hownz hgz _
      have bwz : Below w.heap.size w wz := hbw2.grown hgz (by omega) (fun r e => own_ge hrow r e)
      have hRz := HR2.out.snoc (by decide) hgz ⟨Y, dy, ⟨x0, x1, x2, v⟩⟩ HO2.out HIB.out hownz
      obtain ⟨gv, capv, rfl⟩ := ownsRow_succ hownz
      have HQ := Lib.hid (And.intro hRz bwz)
      clear hownz hgz hrow hy1 bwz hRz hbw2 bz
      go_wp2_with fail
      go_roundw
      case rel => exact ⟨k + 1, M ++ [⟨Y, dy, ⟨x0, x1, x2, v⟩⟩], by omega, by go_num, by rw [List.map_append, HM.out, HTS.out]; rfl, by rw [List.length_append, HML.out]; rfl, HQ.out.1, HQ.out.2⟩
      case measure => simp [intOf]; omega
    · obtain rfl : k = L.length := by omega
      rw [List.take_length] at hM
      obtain ⟨VA, vc, rfl, hO⟩ := hR.form
      have HM := Lib.hid hM
      have HO := Lib.hid hO
      have BW := Lib.hid hbw
      clear hM hO hR hbw
      go_wp2
      go_ret
      exact ⟨VA, vc, M, rfl, HM.out, HO.out, BW.out⟩
end Go.Proofs.Ytmccednfaemiaaa
