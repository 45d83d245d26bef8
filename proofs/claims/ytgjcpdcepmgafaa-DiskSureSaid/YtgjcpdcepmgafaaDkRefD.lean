/-
  What telltaleref08's Remove answers.
-/
import Derived.Test.YtgjcpdcepmgafaaDkRefC
import Derived.Test.YtgjcpdcepmgafaaDkDevD
namespace Go.Proofs.Ytgjcpdcepmgafaa
open Go.RowKit

/-- The first files of a list, as a row of their own. -/
theorem own_first {w : World} {base : Nat} {t : TypeId} {g N cap : Nat} {L : List Fc} (h : w.ownsRow base t 3 (.slice (some ⟨g, 0, none⟩) N cap) N (fCells L)) (k : Nat) (hk : k ≤ L.length) : w.ownsRow base t 3 (.slice (some ⟨g, 0, none⟩) k cap) k (fCells (L.take k)) := by
  have hN : N = L.length := by have := h.1; rw [fCells_length] at this; omega
  rcases h.2 with ⟨h1, _⟩ | ⟨g', cap', cur, h1, h2, h3, h4, h5, h6, h7⟩
  · cases h1
  · injection h1 with h1 h8 h9
    subst h9
    refine ⟨by rw [fCells_length, List.length_take]; omega, .inr ⟨g', cap, cur, by rw [h1], h2, h3, by omega, h5, h6, ?_⟩⟩
    rw [fCells_take, ← h7, List.take_take, Nat.min_eq_left (by omega)]

set_option maxRecDepth 100000 in
set_option maxHeartbeats 6400000 in
theorem rremove_any (room n : Int) (A : Option Addr) (c : Nat) (L : List Fc) (w : World) (h : OneD w A c L) :
    Calls Try.prog 22 #[.agg #[.int .i64 room, .slice A L.length c], .int .i64 n] w (GivesDO (Dk.remR room (L.map Fc.fi) n) w) := by
  have bn := below_new (below_new (Below.refl w.heap.size w) (.cells #[.int .i64 room, .slice A L.length c] 24)) (.cells #[.int .i64 0, .slice none 0 0] 24)
  have N := Lib.hid (rformed_any room A c L _ (h.later bn))
  have B1 := Lib.hid (show Blk _ (w.heap.size + 1) 24 #[.int .i64 0, .slice none 0 0] from by simpa using Blk.new (w.alloc (.cells #[.int .i64 room, .slice A L.length c] 24)) 24 #[.int .i64 0, .slice none 0 0])
  have B0 := Lib.hid ((Blk.new w 24 #[.int .i64 room, .slice A L.length c]).alloc (.cells #[.int .i64 0, .slice none 0 0] 24))
  have HD := Lib.hid h
  clear h
  cases hq : Dk.fmd room (L.map Fc.fi) with
  | false =>
    have hR : Dk.remR room (L.map Fc.fi) n = (0, [], 1) := by unfold Dk.remR; rw [if_neg (by rw [hq]; exact Bool.false_ne_true)]
    rw [hR]
    rw [hq] at N
    clear hq hR HD
    go_enter Try.func22, Try.ntmps22
    go_wp2_with fail
    refine N.out.mono ?_
    rintro e w1 ⟨rfl, b1⟩
    have z' := B1.out.later b1
    have y0 := z'.cell (i := 0) rfl
    have y1 := z'.cell (i := 1) rfl
    have s0 := z'.free 0
    have s1 := z'.free 1
    have hz := (z'.put 0 (.int .i64 0)).put 1 (.slice none 0 0)
    have z0 := Lib.hid (hz.cell (i := 0) rfl)
    have z1 := Lib.hid (hz.cell (i := 1) rfl)
    have hbz := ((below_on bn b1).setCell (p := ⟨w.heap.size + 1, 0, none⟩) (by show w.heap.size ≤ w.heap.size + 1; omega) (.int .i64 0)).setCell (p := ⟨w.heap.size + 1, 1, none⟩) (by show w.heap.size ≤ w.heap.size + 1; omega) (.slice none 0 0)
    have FIN := Lib.hid ((GivesDE.err 1 hbz).one)
    clear z' hz hbz 
    go_wp2
    have z0 := z0.out
    have z1 := z1.out
    exact bodyPost_ret (v := .tuple #[.agg #[.int .i64 0, .slice none 0 0], .int .i64 1]) (by simp [results, Try.results22, go_sem, z0, z1]) rfl FIN.out
  | true =>
    rw [hq] at N
    rcases Dk.ways n hq with ⟨at_, -, hf, hp⟩ | ⟨at_, x, -, hx, hxn, hf, hp⟩
    · have hR : Dk.remR room (L.map Fc.fi) n = (0, [], 16) := by unfold Dk.remR; rw [if_pos hq, hf]
      rw [hR]
      have HP := Lib.hid hp
      clear hq hf hR hp
      go_enter Try.func22, Try.ntmps22
      go_wp2_with fail
      refine N.out.mono ?_
      rintro e w1 ⟨rfl, b1⟩
      have bb := below_on bn b1
      have c0 := (B0.out.later b1).cell (i := 0) rfl
      have c1 := (B0.out.later b1).cell (i := 1) rfl
      have N2 := Lib.hid (rplace_any room n (-1) A c L w1 (HD.out.later bb) HP.out)
      go_wp2_with fail
      refine N2.out.mono ?_
      rintro e w2 ⟨rfl, b2⟩
      have z' := (B1.out.later b1).later b2
      have y0 := z'.cell (i := 0) rfl
      have y1 := z'.cell (i := 1) rfl
      have s0 := z'.free 0
      have s1 := z'.free 1
      have hz := (z'.put 0 (.int .i64 0)).put 1 (.slice none 0 0)
      have z0 := Lib.hid (hz.cell (i := 0) rfl)
      have z1 := Lib.hid (hz.cell (i := 1) rfl)
      have hbz := ((below_on bb b2).setCell (p := ⟨w.heap.size + 1, 0, none⟩) (by show w.heap.size ≤ w.heap.size + 1; omega) (.int .i64 0)).setCell (p := ⟨w.heap.size + 1, 1, none⟩) (by show w.heap.size ≤ w.heap.size + 1; omega) (.slice none 0 0)
      have FIN := Lib.hid ((GivesDE.err 16 hbz).one)
      clear z' hz hbz 
      go_wp2
      have z0 := z0.out
      have z1 := z1.out
      exact bodyPost_ret (v := .tuple #[.agg #[.int .i64 0, .slice none 0 0], .int .i64 16]) (by simp [results, Try.results22, go_sem, z0, z1]) rfl FIN.out
    · have HP := Lib.hid hp
      have HX := Lib.hid hx
      have HFT := Lib.hid (Dk.fit hq)
      have hlen := Dk.len_le hq
      have hlt := (List.getElem?_eq_some_iff.1 hx).1
      have hne : L ≠ [] := fun e => by subst e; simp at hlt
      have hR : Dk.remR room (L.map Fc.fi) n = (room, (L.map Fc.fi).filter (fun f => !decide (f.1 = n)), 0) := by unfold Dk.remR; rw [if_pos hq, hf]
      rw [hR]
      have HMO := Lib.hid (fun (L2 : List Fc) (h1 : L2.map Fc.fi = L.map Fc.fi) => (show (L2.take at_ ++ L2.drop (at_ + 1)).map Fc.fi = (L.map Fc.fi).filter (fun f => !decide (f.1 = n)) from by
        rw [List.map_append, List.map_take, List.map_drop, h1]
        have hat : at_ < (L.map Fc.fi).length := by rw [List.length_map]; exact hlt
        have hsplit : L.map Fc.fi = (L.map Fc.fi).take at_ ++ (x.fi :: (L.map Fc.fi).drop (at_ + 1)) := by
          conv => lhs; rw [← List.take_append_drop at_ (L.map Fc.fi), List.drop_eq_getElem_cons hat]
          congr 2
          rw [List.getElem_map]
          obtain ⟨_, h2⟩ := List.getElem?_eq_some_iff.1 hx
          rw [h2]
        conv => rhs; rw [hsplit, List.filter_append, List.filter_cons]
        have hxf : (!decide (x.fi.1 = n)) = false := by rw [decide_eq_true (show x.fi.1 = n from hxn)]; rfl
        rw [hxf, if_neg Bool.false_ne_true]
        have keep : ∀ (i : Nat) (f : Fi), i ≠ at_ → (L.map Fc.fi)[i]? = some f → (!decide (f.1 = n)) = true := fun i f hi hfi => by
          rw [List.getElem?_map] at hfi
          cases hy : L[i]? with
          | none => rw [hy] at hfi; cases hfi
          | some y =>
            rw [hy] at hfi
            injection hfi with hfi
            subst hfi
            have := only_one hq hx hxn i y hi hy
            rw [decide_eq_false (show ¬ y.fi.1 = n from this)]
            rfl
        rw [List.filter_eq_self.2 (fun f hf => ?_), List.filter_eq_self.2 (fun f hf => ?_)]
        · obtain ⟨i, hi⟩ := List.getElem?_of_mem hf
          rw [List.getElem?_drop] at hi
          exact keep (at_ + 1 + i) f (by omega) hi
        · obtain ⟨i, hi⟩ := List.getElem?_of_mem hf
          have h3 := (List.getElem?_eq_some_iff.1 hi).1
          rw [List.length_take] at h3
          rw [List.getElem?_take_of_lt (by omega)] at hi
          exact keep i f (by omega) hi))
      obtain ⟨i0, hI, hz0, hz1, hz2⟩ := info_parts infoFi
      clear hq hf hR hp hx hxn
      go_enter Try.func22, Try.ntmps22
      go_wp2_with fail
      refine N.out.mono ?_
      rintro e w1 ⟨rfl, b1⟩
      have bb := below_on bn b1
      have c0 := (B0.out.later b1).cell (i := 0) rfl
      have c1 := (B0.out.later b1).cell (i := 1) rfl
      have N2 := Lib.hid (rplace_any room n (at_ : Int) A c L w1 (HD.out.later bb) HP.out)
      go_wp2_with fail
      refine N2.out.mono ?_
      rintro e w2 ⟨rfl, b2⟩
      have bb2 := below_on bb b2
      have d0 := cell_later b2 c0
      have d1 := cell_later b2 c1
      have hi0 : (0 : Int) ≤ (at_ : Int) := by omega
      have hi1 : (at_ : Int) < (L.length : Int) := by omega
      have hi2 : ¬ ((at_ : Int) < 0) := by omega
      clear c0 c1
      have N3 := Lib.hid (rcopyD_any room _ c L w2 (HD.out.later bb2) HFT.out)
      have Z := Lib.hid ((B1.out.later b1).later b2)
      go_wp2_with fail
      refine N3.out.mono ?_
      rintro e w3 ⟨v, L2, rfl, hO, hfi, b3⟩
      have hl2 : L2.length = L.length := by have := congrArg List.length hfi; simpa using this
      obtain ⟨g, cv, rfl⟩ := own_len hO.row (by omega)
      have hcv := own_form hO.row
      have hcm : cv ≤ 9223372036854775807 := by
        obtain ⟨A', c', h1, _, h2, _⟩ := hcv
        injection h1 with _ _ h1
        subst h1
        unfold maxLen at h2
        exact h2
      have hcl : L2.length ≤ cv := by
        obtain ⟨A', c', h1, h2, _⟩ := hcv
        injection h1 with _ _ h1
        subst h1
        exact h2
      obtain ⟨y, hy⟩ : ∃ y, L2[at_]? = some y := ⟨L2[at_]'(by omega), List.getElem?_eq_getElem (by omega)⟩
      have _hyx : y.fi = x.fi := by
        have h1 : (L2.map Fc.fi)[at_]? = some y.fi := by rw [List.getElem?_map, hy]; rfl
        rw [hfi, List.getElem?_map, HX.out] at h1
        exact (Option.some.inj h1).symm
      have bb3 := below_on bb2 b3
      obtain ⟨W3, hW3⟩ : ∃ W3, w3.alloc (.cells #[.int .i64 room, .slice (some ⟨g, 0, none⟩) L2.length cv] 24) = W3 := ⟨_, rfl⟩
      have b4 : Below w3.heap.size w3 W3 := by rw [← hW3]; exact below_new (Below.refl _ _) _
      have O3 := hO.later b4
      have Y3 : Blk W3 w3.heap.size 24 #[.int .i64 room, .slice (some ⟨g, 0, none⟩) L2.length cv] := by rw [← hW3]; exact Blk.new _ _ _
      have Z3 := (Z.out.later b3).later b4
      have hg := own_base_le hO.row
      have hgz : w.heap.size + 1 < g := by have := Z.out.lt; omega
      have bb4 := below_on bb3 b4
      have HW3 := Lib.hid hW3
      have hj1 : (at_ : Int) < (L2.length : Int) := by omega
      have hOd : OwnD W3.drew w2.heap.size 43 5 (.slice (some ⟨g, 0, none⟩) L2.length cv) L2 := O3.later (Below.refl _ _).drew
      have row1 : W3.drew.ownsRow w2.heap.size 43 3 (.slice (some ⟨g, 0, none⟩) at_ cv) at_ (fCells (L2.take at_)) := own_first hOd.row at_ (by omega)
      have news : ∀ (A' : Option Addr), (A' = some ⟨g, (at_ + 1) * 3, none⟩ ∨ cv = at_ + 1) → Lies W3.drew A' (fCells (L2.drop (at_ + 1))) := fun A' hA' => by
        rcases hA' with rfl | h
        · refine fun _ => ⟨g, (at_ + 1) * 3, rfl, fun j u hu => ?_⟩
          rw [fCells_drop, List.getElem?_drop] at hu
          exact own_cell_at hOd.row hu
        · rw [List.drop_of_length_le (by omega)]
          exact Lies.nil
      have NEWS := Lib.hid news
      have ROW := Lib.hid row1
      have yb : W3.drew.cell? ⟨w3.heap.size, 1, none⟩ = _ := Y3.cell (i := 1) rfl
      have O3'' := Lib.hid (fun f (hf : f ∈ L2) k (hk : f.blk = some k) => (hO.blk_lt f hf k hk : k < w3.heap.size))
      have O3' := Lib.hid O3; have YY := Lib.hid Y3; have ZZ := Lib.hid Z3; have B4 := Lib.hid bb4; have HFI := Lib.hid hfi
      have hz2' : w.heap.size + 1 < w2.heap.size := Z.out.lt
      have hl2a : at_ < L2.length := by omega
      have hl2b : L2.length ≤ 1048577 := by omega
      have hs2 : w2.heap.size ≤ W3.heap.size := by have := b4.size; have := b3.size; omega
      have RT := Lib.hid (fun (A2 : Option Addr) (c2 : Nat) (w5 : World) (ho : w5.ownsRow w2.heap.size 43 3 (.slice A2 (at_ + (L2.length - (at_ + 1))) c2) (at_ + (L2.length - (at_ + 1))) (fCells (L2.take at_) ++ fCells (L2.drop (at_ + 1)))) (hg5 : W3.drew.grownBy w5 (Value.ownBlock (.slice (some ⟨g, 0, none⟩) at_ cv))) =>
        (show w5.cell? ⟨w3.heap.size, 1, none⟩ = some (.slice (some ⟨g, 0, none⟩) L2.length cv) ∧ w5.frozen? ⟨w3.heap.size, 1, none⟩ = false ∧ ∀ (W : World), W = (w5.setCell ⟨w3.heap.size, 1, none⟩ (.slice A2 (at_ + (L2.length - (at_ + 1))) c2)) →
          Blk W w3.heap.size 24 #[.int .i64 room, .slice A2 (at_ + (L2.length - (at_ + 1))) c2] ∧ Blk W (w.heap.size + 1) 24 #[.int .i64 0, .slice none 0 0] ∧ Below w.heap.size w W ∧
          OwnD W w2.heap.size 43 5 (.slice A2 (at_ + (L2.length - (at_ + 1))) c2) (L2.take at_ ++ L2.drop (at_ + 1)) from by
          have hk : ∀ k, k < W3.heap.size → k ≠ g → w5.heap[k]? = W3.heap[k]? := fun k h1 h2 => hg5.block k h1 (fun e => h2 (by
            have e2 : some k = some g := e
            injection e2))
          have Y5 : Blk w5 w3.heap.size 24 #[.int .i64 room, .slice (some ⟨g, 0, none⟩) L2.length cv] := (hk _ YY.out.lt (by omega)).trans YY.out
          have Z5 : Blk w5 (w.heap.size + 1) 24 #[.int .i64 0, .slice none 0 0] := (hk _ ZZ.out.lt (by omega)).trans ZZ.out
          have b5 : Below w.heap.size w w5 := (B4.out.drew).grown hg5 (by show w.heap.size ≤ W3.heap.size; omega) (fun k hk => by
            have e : some g = some k := hk
            injection e with e
            omega)
          refine ⟨Y5.cell (i := 1) rfl, Y5.free 1, fun W hW => ?_⟩
          have far : ∀ k, k ≠ w3.heap.size → W.heap[k]? = w5.heap[k]? := fun k h1 => by rw [hW]; exact Below.heap_setCell _ _ _ _ h1
          have hsub : ∀ f ∈ L2.take at_ ++ L2.drop (at_ + 1), f ∈ L2 := fun f hf => (List.mem_append.1 hf).elim List.mem_of_mem_take List.mem_of_mem_drop
          have hB : ∀ f ∈ L2, OwnB W w2.heap.size 5 f := fun f hf => by
            have h1 := O3'.out.each f hf
            refine h1.stays fun k hkb => ?_
            have h2 := h1.lt k hkb
            have h3 : k ≠ g := fun e => by subst e; exact h1.off_row O3'.out.row (by decide) hkb
            have h4 : k ≠ w3.heap.size := fun e => by have := (O3''.out f hf k hkb); omega
            exact (far k h4).trans (hk k h2.2 h3)
          have hro : ∀ r, Value.ownBlock (.slice A2 (at_ + (L2.length - (at_ + 1))) c2) = some r → W.heap[r]? = w5.heap[r]? := fun r hr => far r (fun e => by
            subst e
            have hx := ho
            rcases hx.2 with ⟨h1, _⟩ | ⟨g', cap', cur', h1, _, h3, _⟩
            · rw [h1] at hr; cases hr
            · rw [h1] at hr
              injection hr with hr
              have hr' : g' = w3.heap.size := hr
              subst hr'
              have h5 := Y5
              unfold Blk at h5
              rw [h3] at h5
              injection h5 with h5
              injection h5 with _ h5
              exact absurd h5 (by decide))
          refine ⟨by rw [hW]; exact Y5.put 1 _, (far _ (by omega)).trans Z5, by rw [hW]; exact b5.setCell (by show w.heap.size ≤ w3.heap.size; omega) _, ?_, fun f hf => hB f (hsub f hf), fun i j u v b hij hu hv hub => ?_⟩
          · have hln : (L2.take at_ ++ L2.drop (at_ + 1)).length = at_ + (L2.length - (at_ + 1)) := by rw [List.length_append, List.length_take, List.length_drop]; omega
            rw [hln, fCells_append]
            exact own_stays ho hro
          · have idx : ∀ (i : Nat) (u : Fc), (L2.take at_ ++ L2.drop (at_ + 1))[i]? = some u → L2[if i < at_ then i else i + 1]? = some u := fun i u hu => by
              split
              · rename_i hi
                rw [List.getElem?_append_left (by rw [List.length_take]; omega), List.getElem?_take_of_lt hi] at hu
                exact hu
              · rename_i hi
                rw [List.getElem?_append_right (by rw [List.length_take]; omega), List.getElem?_drop] at hu
                rw [show at_ + 1 + (i - (L2.take at_).length) = i + 1 from by rw [List.length_take]; omega] at hu
                exact hu
            exact O3'.out.apart _ _ u v b (by split <;> split <;> omega) (idx i u hu) (idx j v hv) hub))
      clear hl2 hO hfi hy _hyx O3 Y3 Z3 hOd row1 news hW3 hcv b4 bb4 O3''
      have j1 : (at_ : Int) + 1 ≤ (L2.length : Int) := by omega
      have j2 : (L2.length : Int) ≤ (cv : Int) := by omega
      have j3 : (at_ : Int) ≤ (L2.length : Int) := by omega
      have j4 : (at_ : Int) ≤ (cv : Int) := by omega
      have j5 : (0 : Int) ≤ (at_ : Int) + 1 := by omega
      have j6 : (at_ : Int) + 1 ≤ (cv : Int) := by omega
      have n1 : at_ + 1 ≤ L2.length := by omega
      have j7 : (at_ : Int) ≤ (at_ : Int) + 1 := by omega
      have kw : IntKind.i64.wrap ((at_ : Int) + 1) = (at_ : Int) + 1 := IntWalk.i64_in _ (by omega)
      have kt : ((at_ : Int) + 1).toNat = at_ + 1 := by omega
      have n2 : L2.length ≤ cv := by omega
      have n3 : at_ ≤ L2.length := by omega
      have n4 : at_ ≤ cv := by omega
      have n5 : at_ + 1 ≤ cv := by omega
      have HMM := Lib.hid (HMO.out L2 HFI.out)
      by_cases hcap : cv = at_ + 1
      · subst hcap
        have rt := RT.out (some ⟨g, 0, none⟩) (at_ + 1) W3.drew
        rw [show at_ + (L2.length - (at_ + 1)) = at_ from by omega, List.drop_of_length_le (show L2.length ≤ at_ + 1 by omega)] at rt
        rw [List.drop_of_length_le (show L2.length ≤ at_ + 1 by omega), List.append_nil] at HMM
        have rt := rt (by rw [show fCells [] = [] from rfl, List.append_nil]; exact ROW.out) (World.grownBy.refl _ _)
        rw [List.append_nil] at rt
        have u1 := rt.1; have u2 := rt.2.1; have UU := Lib.hid rt.2.2
        clear rt
        have hlk : (L2.take at_).length = at_ := by rw [List.length_take]; omega
        have u2' : W3.frozen? ⟨w3.heap.size, 1, none⟩ = false := u2
        have HLK := Lib.hid hlk
        clear hlk
        go_wp2_with fail
        rw [HW3.out]
        go_region
        all_goals
          obtain ⟨W6, hW6⟩ : ∃ W6, (W3.setCell ⟨w3.heap.size, 1, none⟩ (.slice (some ⟨g, 0, none⟩) at_ (at_ + 1))).drew = W6 := ⟨_, rfl⟩
          obtain ⟨uY, uZ, uB, uO⟩ := UU.out W6 hW6.symm
          rw [hW6]
          have v0 := uY.cell (i := 0) rfl
          have v1 := uY.cell (i := 1) rfl
          have UO := Lib.hid uO; have UB := Lib.hid uB; have UZ := Lib.hid uZ
          clear uY uZ uB uO hW6
          have z' := UZ.out
          have y0 := z'.cell (i := 0) rfl
          have y1 := z'.cell (i := 1) rfl
          have s0 := z'.free 0
          have s1 := z'.free 1
          have hz := (z'.put 0 (.int .i64 room)).put 1 (.slice (some ⟨g, 0, none⟩) at_ (at_ + 1))
          have z0 := Lib.hid (hz.cell (i := 0) rfl)
          have z1 := Lib.hid (hz.cell (i := 1) rfl)
          have hbz := ((UB.out).setCell (p := ⟨w.heap.size + 1, 0, none⟩) (by show w.heap.size ≤ w.heap.size + 1; omega) (.int .i64 room)).setCell (p := ⟨w.heap.size + 1, 1, none⟩) (by show w.heap.size ≤ w.heap.size + 1; omega) (.slice (some ⟨g, 0, none⟩) at_ (at_ + 1))
          have hO2 := (((UO.out).low (p := ⟨w.heap.size + 1, 0, none⟩) (by show w.heap.size + 1 < _; omega) (.int .i64 room)).low (p := ⟨w.heap.size + 1, 1, none⟩) (by show w.heap.size + 1 < _; omega) (.slice (some ⟨g, 0, none⟩) at_ (at_ + 1))).lower (base' := w.heap.size) (by omega)
          have FIN := Lib.hid ((show GivesDE (room, (L.map Fc.fi).filter (fun f => !decide (f.1 = n)), 0) w (.returned (.tuple #[.agg #[.int .i64 room, .slice (some ⟨g, 0, none⟩) at_ (at_ + 1)], .int .i64 0])) _ from ⟨_, L2.take at_, rfl, hO2, HMM.out, hbz⟩).one)
          clear z' hz hbz hO2
          go_wp2
          have z0 := z0.out
          have z1 := z1.out
          exact bodyPost_ret (v := .tuple #[.agg #[.int .i64 room, .slice (some ⟨g, 0, none⟩) at_ (at_ + 1)], .int .i64 0]) (by simp [results, Try.results22, go_sem, z0, z1]) rfl FIN.out
      · have hcl2 : at_ + 1 < cv := by omega
        go_wp2_with fail
        rw [HW3.out]
        go_region_law (refine step_append_any _ rfl _ _ 22 rfl w2.heap.size 43 i0 (.agg #[.int .i64 0, .slice none 0 0, .int .i64 0]) 3 40 Try.underlying22 hI hz0 hz1 hz2 rfl (by decide) _ at_ (fCells (L2.take at_)) rfl ROW.out _ (L2.length - (at_ + 1)) _ (fun h => by cases h) (fCells (L2.drop (at_ + 1))) rfl (by rw [fCells_length, List.length_drop]) (NEWS.out _ (.inl (by first | rfl | simp))) (fCells_one _) (by unfold maxLen; omega) (by omega) hs2 ?_; intro A2 c2 w5 ho5 hg5 _; have rt := RT.out A2 c2 w5 ho5 hg5; have u1 := rt.1; have u2 := rt.2.1; have UU := Lib.hid rt.2.2; clear rt ho5 hg5)
        all_goals
          obtain ⟨W6, hW6⟩ : ∃ W6, w5.setCell ⟨w3.heap.size, 1, none⟩ (.slice A2 (at_ + (L2.length - (at_ + 1))) c2) = W6 := ⟨_, rfl⟩
          obtain ⟨uY, uZ, uB, uO⟩ := UU.out W6 hW6.symm
          rw [hW6]
          have v0 := uY.cell (i := 0) rfl
          have v1 := uY.cell (i := 1) rfl
          have UO := Lib.hid uO; have UB := Lib.hid uB; have UZ := Lib.hid uZ
          clear uY uZ uB uO hW6
          have z' := UZ.out
          have y0 := z'.cell (i := 0) rfl
          have y1 := z'.cell (i := 1) rfl
          have s0 := z'.free 0
          have s1 := z'.free 1
          have hz := (z'.put 0 (.int .i64 room)).put 1 (.slice A2 (at_ + (L2.length - (at_ + 1))) c2)
          have z0 := Lib.hid (hz.cell (i := 0) rfl)
          have z1 := Lib.hid (hz.cell (i := 1) rfl)
          have hbz := ((UB.out).setCell (p := ⟨w.heap.size + 1, 0, none⟩) (by show w.heap.size ≤ w.heap.size + 1; omega) (.int .i64 room)).setCell (p := ⟨w.heap.size + 1, 1, none⟩) (by show w.heap.size ≤ w.heap.size + 1; omega) (.slice A2 (at_ + (L2.length - (at_ + 1))) c2)
          have hO2 := (((UO.out).low (p := ⟨w.heap.size + 1, 0, none⟩) (by show w.heap.size + 1 < _; omega) (.int .i64 room)).low (p := ⟨w.heap.size + 1, 1, none⟩) (by show w.heap.size + 1 < _; omega) (.slice A2 (at_ + (L2.length - (at_ + 1))) c2)).lower (base' := w.heap.size) (by omega)
          have FIN := Lib.hid ((show GivesDE (room, (L.map Fc.fi).filter (fun f => !decide (f.1 = n)), 0) w (.returned (.tuple #[.agg #[.int .i64 room, .slice A2 (at_ + (L2.length - (at_ + 1))) c2], .int .i64 0])) _ from ⟨_, L2.take at_ ++ L2.drop (at_ + 1), rfl, hO2, HMM.out, hbz⟩).one)
          clear z' hz hbz hO2
          go_wp2
          have z0 := z0.out
          have z1 := z1.out
          exact bodyPost_ret (v := .tuple #[.agg #[.int .i64 room, .slice A2 (at_ + (L2.length - (at_ + 1))) c2], .int .i64 0]) (by simp [results, Try.results22, go_sem, z0, z1]) rfl FIN.out
end Go.Proofs.Ytgjcpdcepmgafaa
