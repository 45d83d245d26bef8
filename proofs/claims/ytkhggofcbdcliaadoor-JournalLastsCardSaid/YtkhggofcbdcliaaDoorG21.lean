/-
  What telltaleref09's Scan answers.
  What journal's Scan answers.
  Journal's own functions answer as their contracts say.
  The laws JournalAppends, JournalStarts, walked over the contracts of journal's functions.
-/
import Derived.Test.YtkhggofcbdcliaaDoorG19
import Derived.Test.YtkhggofcbdcliaaDoorG20
import Derived.Test.YtkhggofcbdcliaaDoorG12
namespace Go.Proofs.YtkhggofcbdcliaaDoor
open Go.RowKit

theorem infoRow : (Tryd.prog.info? 25).map (fun i => (i.zero, i.size, i.bytes)) = some (some (.slice none 0 0), 1, 24) := by kernel_rfl
theorem RowB.nil (w : World) : RowB w none 0 [] := ⟨Nat.le_refl _, Nat.zero_le _, fun _ => ⟨rfl, rfl⟩, fun h => absurd rfl h⟩

theorem GivesSc.drew {r : List (List Int) × Dk.Ans3} {w w' : World} {e : Ending} (h : GivesSc r w e w') : GivesSc r w e w'.drew := by
  obtain ⟨V, cv, A, c, L, h1, h2, h3, h4, h5⟩ := h
  exact ⟨V, cv, A, c, L, h1, h2.later (Below.drew (Below.refl _ _)), h3.later (Below.drew (Below.refl _ _)), h4, Below.drew h5⟩
theorem Jn.scan_next {L : List Fc} {i : Nat} {x : Fc} (hx : L[i]? = some x) {at_ : Nat} {acc : List (List Int)} (hc : Jn.cut x.l = (at_, acc)) :
    (at_ < x.l.length → Jn.scan ((L.map Fc.fi).drop i) = (acc, [(x.num, x.l.take at_, 0)])) ∧ (¬ at_ < x.l.length → Jn.scan ((L.map Fc.fi).drop i) = (acc ++ (Jn.scan ((L.map Fc.fi).drop (i + 1))).1, (x.num, x.l.take at_, 0) :: (Jn.scan ((L.map Fc.fi).drop (i + 1))).2)) := by
  obtain ⟨h1, h2⟩ := List.getElem?_eq_some_iff.1 hx
  have hd : (L.map Fc.fi).drop i = x.fi :: (L.map Fc.fi).drop (i + 1) := by
    rw [List.drop_eq_getElem_cons (by rw [List.length_map]; exact h1), List.getElem_map, h2]
  have hc2 : Jn.cut x.fi.2.1 = (at_, acc) := hc
  rw [hd, Jn.scan_cons]
  unfold Jn.kept
  rw [hc2]
  exact ⟨fun h => if_pos h, fun h => if_neg h⟩
/-- What lies while Scan goes on: the records v, the segments V, the boxes. -/
structure ScI (D : Nat) (room : Int) (A : Option Addr) (n c : Nat) (w wr : World) (v : Value) (cs : List (Option Addr × Nat)) (ls : List (List Int)) (V : Value) (M : List Fc) : Prop where
  rows : OwnRows wr (D + 1) v cs ls
  files : wr.ownsRow (D + 1) 50 3 V M.length (fCells M)
  bytes : ∀ f ∈ M, OneB w f.X f.c f.l
  d0 : Blk wr w.heap.size 24 #[.int .i64 room, .slice A n c]
  d1 : Blk wr (w.heap.size + 1) 24 #[.int .i64 0, .slice none 0 0]
  d2 : Blk wr D 24 #[.int .i64 room, V]
  low : Below w.heap.size w wr
  hn : w.heap.size + 1 < D
section
variable {D n c : Nat} {room : Int} {A : Option Addr} {w wr w1 w2 : World} {v vr V V2 v2 : Value} {cs cs2 : List (Option Addr × Nat)} {ls ls2 : List (List Int)} {M : List Fc}
theorem ScI.later (h : ScI D room A n c w wr v cs ls V M) (hb : Below wr.heap.size wr w1) : ScI D room A n c w w1 v cs ls V M :=
  ⟨h.rows.later hb, own_later h.files hb, h.bytes, h.d0.later hb, h.d1.later hb, h.d2.later hb, below_on h.low hb, h.hn⟩
/-- More records. -/
theorem ScI.more (h : ScI D room A n c w wr v cs ls V M) (h2 : OwnRows wr (D + 1) v2 cs2 ls2) (hg : wr.grownBy w2 v.ownBlock) (hr : w2.ownsRow (D + 1) 25 1 vr (ls.length + ls2.length) (sliCells cs ls ++ sliCells cs2 ls2)) : ScI D room A n c w w2 vr (cs ++ cs2) (ls ++ ls2) V M := by
  have hge := own_ge h.rows.row
  have hlt := h.d2.lt
  have hn := h.hn
  have low : ∀ k, k ≤ D → w2.heap[k]? = wr.heap[k]? := fun k hk => hg.block k (by omega) (fun e => by have := hge k e.symm; omega)
  exact ⟨h.rows.join h2 hg hr, own_stays h.files (fun k hk => hg.block k (own_lt h.files k hk) (own_apart h.files h.rows.row (by decide) k hk)), h.bytes, (low _ (by omega)).trans h.d0, (low _ (by omega)).trans h.d1, (low _ (Nat.le_refl _)).trans h.d2, h.low.grown hg h.low.size (fun k hk => by have := hge k hk; omega), h.hn⟩
/-- One segment more, stored. -/
theorem ScI.push (h : ScI D room A n c w wr v cs ls V M) {x : Fc} (hx : OneB w x.X x.c x.l) (hg : wr.grownBy w2 V.ownBlock) (hr : w2.ownsRow (D + 1) 50 3 V2 (M.length + 1) (fCells M ++ fCells [x])) :
    ScI D room A n c w (w2.setCell ⟨D, 1, none⟩ V2) v cs ls V2 (M ++ [x]) ∧ w2.cell? ⟨D, 1, none⟩ = some V ∧ w2.frozen? ⟨D, 1, none⟩ = false := by
  have hge := own_ge h.files
  have hlt := h.d2.lt
  have hn := h.hn
  have low : ∀ k, k ≤ D → w2.heap[k]? = wr.heap[k]? := fun k hk => hg.block k (by omega) (fun e => by have := hge k e.symm; omega)
  have keep : ∀ {e : TypeId} {u : Value} {m : Nat} {xs : List Value}, e ≠ 50 → wr.ownsRow (D + 1) e 1 u m xs → w2.ownsRow (D + 1) e 1 u m xs := fun {e u m xs} he hu => own_stays hu (fun k hk => hg.block k (own_lt hu k hk) (own_apart hu h.files he k hk))
  have rows2 : OwnRows w2 (D + 1) v cs ls := ⟨keep (by decide) h.rows.row, h.rows.lens, fun k hk => keep (by decide) (h.rows.each k hk), h.rows.byte⟩
  have e2 : Blk w2 D 24 #[.int .i64 room, V] := (low _ (Nat.le_refl _)).trans h.d2
  have kp : Kept D (D + 1) w2 (w2.setCell ⟨D, 1, none⟩ V2) := (Kept.refl _ _ w2).put (p := ⟨D, 1, none⟩) (Nat.le_refl _) (Nat.lt_succ_self _) _
  have hr2 : (w2.setCell ⟨D, 1, none⟩ V2).ownsRow (D + 1) 50 3 V2 (M ++ [x]).length (fCells (M ++ [x])) := by
    rw [List.length_append, List.length_singleton, fCells_append]
    exact own_stays hr fun k hk => kp.same k (own_lt hr k hk) (.inr (own_ge hr k hk))
  refine ⟨⟨rows2.above kp (Nat.le_refl _), hr2, fun f hf => (List.mem_append.1 hf).elim (h.bytes f) (fun h1 => by rw [List.mem_singleton] at h1; subst h1; exact hx), Blk.far (p := ⟨D, 1, none⟩) ((low _ (by omega)).trans h.d0) (by show w.heap.size ≠ D; omega) _, Blk.far (p := ⟨D, 1, none⟩) ((low _ (by omega)).trans h.d1) (by show w.heap.size + 1 ≠ D; omega) _, e2.put 1 V2, (h.low.grown hg h.low.size (fun k hk => by have := hge k hk; omega)).setCell (by show w.heap.size ≤ D; omega) _, hn⟩, e2.cell (i := 1) rfl, e2.free 1⟩
end

set_option maxRecDepth 100000 in
set_option maxHeartbeats 6400000 in
theorem rscan_any (room : Int) (A : Option Addr) (c : Nat) (L : List Fc) (w : World) (h : OneD w A c L) :
    Calls Tryd.prog 20 #[.agg #[.int .i64 room, .slice A L.length c]] w (GivesSc (Jn.scanR room (L.map Fc.fi)) w) := by
  have bn := below_new (below_new (Below.refl w.heap.size w) (.cells #[.int .i64 room, .slice A L.length c] 24)) (.cells #[.int .i64 0, .slice none 0 0] 24)
  have N := rformed_any room A c L _ (h.later bn)
  have B0 := Lib.hid ((Blk.new w 24 #[.int .i64 room, .slice A L.length c]).alloc (.cells #[.int .i64 0, .slice none 0 0] 24))
  have B1 := Lib.hid (show Blk _ (w.heap.size + 1) 24 #[.int .i64 0, .slice none 0 0] from by simpa using Blk.new (w.alloc (.cells #[.int .i64 room, .slice A L.length c] 24)) 24 #[.int .i64 0, .slice none 0 0])
  have HD := Lib.hid h
  have hlen := h.len
  clear h
  cases hq : Dk.fmd room (L.map Fc.fi) with
  | false =>
    have hR : Jn.scanR room (L.map Fc.fi) = ([], (0, [], 1)) := by unfold Jn.scanR; rw [if_neg (by rw [hq]; exact Bool.false_ne_true)]
    rw [hR]
    rw [hq] at N
    have NN := Lib.hid N
    clear hq hR HD B0 N
    go_enter Tryd.func20, Tryd.ntmps20
    go_wp2_with fail
    refine NN.out.mono ?_
    rintro e w1 ⟨rfl, b1⟩
    have z' := B1.out.later b1
    have y0 := z'.cell (i := 0) rfl
    have y1 := z'.cell (i := 1) rfl
    have s0 := z'.free 0
    have s1 := z'.free 1
    have hz := (z'.put 0 (.int .i64 0)).put 1 (.slice none 0 0)
    have z0 := Lib.hid (hz.cell (i := 0) rfl)
    have z1 := Lib.hid (hz.cell (i := 1) rfl)
    have hbz := ((below_on bn b1).setCell (p := ⟨w.heap.size + 1, 0, none⟩) (by show w.heap.size ≤ w.heap.size + 1; omega) (.int .i64 0)).setCell (p := ⟨w.heap.size + 1, 1, none⟩) (by show w.heap.size ≤ w.heap.size + 1; omega) (.slice none 0 0)
    have FIN := Lib.hid (show GivesSc ([], (0, [], 1)) w (.returned (.tuple #[.slice none 0 0, .agg #[.int .i64 0, .slice none 0 0], .int .i64 1])) _ from ⟨none, 0, none, 0, [], rfl, RowB.nil _, OwnD.nil _ _ _ _, rfl, hbz⟩)
    clear z' hz hbz
    go_wp2
    have z0 := z0.out
    have z1 := z1.out
    exact bodyPost_ret (v := .tuple #[.slice none 0 0, .agg #[.int .i64 0, .slice none 0 0], .int .i64 1]) (by simp [results, Tryd.results20, go_sem, z0, z1]) rfl FIN.out
  | true =>
    have hR : Jn.scanR room (L.map Fc.fi) = ((Jn.scan (L.map Fc.fi)).1, (room, (Jn.scan (L.map Fc.fi)).2.map Dk.syn1, 0)) := by unfold Jn.scanR; rw [if_pos hq]
    rw [hR]
    rw [hq] at N
    have NN := Lib.hid N
    have HQ := Lib.hid hq
    have hl1 := Dk.len_le hq
    have hmax : ∀ f ∈ L, (f.l.length : Int) ≤ 16777216 := fun f hf => by
      have h1 := Dk.used_mem (List.mem_map.2 ⟨f, hf, rfl⟩ : f.fi ∈ L.map Fc.fi)
      have h2 := (Dk.fmd_facts hq).use
      have h3 := (Dk.fmd_facts hq).r1
      have h4 : (f.fi.2.1.length : Int) = (f.l.length : Int) := rfl
      omega
    have HMX := Lib.hid hmax
    obtain ⟨⟨RS, FS⟩, hS⟩ : ∃ r, Jn.scan (L.map Fc.fi) = r := ⟨_, rfl⟩
    have hFS : Dk.fmd room FS = true := by have := Jn.scan_fmd hq; rwa [hS] at this
    rw [hS]
    have HS := Lib.hid hS
    have HFS := Lib.hid hFS
    have BN := Lib.hid bn
    obtain ⟨i0, hI, hz0, hz1, hz2⟩ := info_parts infoFi
    obtain ⟨j0, hJ, hj0, hj1, hj2⟩ := info_parts infoRow
    clear hq hR N hmax hS hFS bn
    go_enter Tryd.func20, Tryd.ntmps20
    go_wp2_with fail
    refine NN.out.mono ?_
    rintro e w1 ⟨rfl, b1⟩
    have c0 := (B0.out.later b1).cell (i := 0) rfl
    have bo := below_new (Below.refl w1.heap.size w1) (.cells #[.int .i64 room, .slice none 0 0] 24)
    have D0 := Lib.hid ((B0.out.later b1).later bo)
    have D1 := Lib.hid ((B1.out.later b1).later bo)
    have D2 := Lib.hid (Blk.new w1 24 #[.int .i64 room, .slice none 0 0])
    have BB := Lib.hid (below_on (below_on BN.out b1) bo)
    have LW := Lib.hid (B1.out.later b1).lt
    clear b1 bo NN B0 B1 BN
    go_wp2_with fail
    obtain ⟨D, hD⟩ : ∃ D, w1.heap.size = D := ⟨_, rfl⟩
    obtain ⟨W2, hW2⟩ : ∃ W2, w1.alloc (.cells #[.int .i64 room, .slice none 0 0] 24) = W2 := ⟨_, rfl⟩
    rw [hW2] at D0 D1 D2 BB
    try rw [hW2]
    rw [hD] at D2 LW ⊢
    clear hW2 hD c0
    go_loopw [5, 7] (fun s5 s7 wr => ∃ (i : Nat) (cs : List (Option Addr × Nat)) (ls : List (List Int)) (V : Value) (M : List Fc), i ≤ L.length ∧ s7 = .int .i64 (i : Int) ∧ ls.length ≤ i * 2097153 ∧ M.length = i ∧ ScI D room A L.length c w wr s5 cs ls V M ∧
      (RS, FS) = (ls ++ (Jn.scan ((L.map Fc.fi).drop i)).1, M.map Fc.fi ++ (Jn.scan ((L.map Fc.fi).drop i)).2)) (fun _ s7 _ => L.length - (intOf s7).toNat)
    case atStart => exact ⟨0, [], [], _, [], Nat.zero_le _, rfl, Nat.zero_le _, rfl, ⟨OwnRows.nil _ _, ⟨rfl, .inl ⟨rfl, rfl⟩⟩, (fun _ h => by cases h), D0.out, D1.out, D2.out, BB.out, LW.out⟩, by rw [List.drop_zero, HS.out]; rfl⟩
    case round =>
      obtain ⟨i, cs, ls, VV, M, hi, rfl, hln, hMn, hC, hsc⟩ := hrel
      clear D0 D1 D2 BB
      obtain ⟨VA, vc, hvv, -, hvm, hvn, -⟩ := own_form hC.rows.row
      obtain ⟨FA, fc, hff, -, hfm, hfn, -⟩ := own_form hC.files
      subst hvv hff
      unfold maxLen at hvm hfm
      have q1 := hC.d0.cell (i := 1) rfl
      have HC := Lib.hid hC
      have HSC := Lib.hid hsc
      have HMN := Lib.hid hMn
      by_cases hlt : i < L.length
      · have hne : L ≠ [] := fun e => by subst e; simp at hlt
        obtain ⟨b, off, hA, hc⟩ := HD.out.at hne
        obtain ⟨x, hx⟩ : ∃ x, L[i]? = some x := ⟨L[i], List.getElem?_eq_getElem hlt⟩
        obtain ⟨e0, e1, e2⟩ := hc i x hx
        subst hA
        have e0 := cell_later hC.low e0
        have e1 := cell_later hC.low e1
        have e2 := cell_later hC.low e2
        have hi0 : (0 : Int) ≤ (i : Int) := by omega
        have hi1 : (i : Int) < (L.length : Int) := by omega
        have hxo := HD.out.one hx
        have hxl := HMX.out x (List.mem_of_getElem? hx)
        obtain ⟨W1, hW1⟩ : ∃ W1, wr.alloc (.cells #[.int .i64 x.num, .slice x.X x.l.length x.c, .int .i64 x.s] 50) = W1 := ⟨_, rfl⟩
        have hb1 : Below wr.heap.size wr W1 := by rw [← hW1]; exact below_new (Below.refl _ _) _
        have XB : Blk W1 wr.heap.size 50 #[.int .i64 x.num, .slice x.X x.l.length x.c, .int .i64 x.s] := by rw [← hW1]; exact Blk.new wr _ _
        have CU := rcut_any x.X x.c x.l W1 (by omega) (hxo.later (below_on hC.low hb1))
        have NC := Lib.hid CU
        have HC1 := Lib.hid (hC.later hb1)
        have OWL := Lib.hid (fun (k : Nat) hk => own_lt hC.rows.row k hk)
        have HXB := Lib.hid XB
        have HXO := Lib.hid hxo
        have HX := Lib.hid hx
        have hxc := hxo.le
        have hxm := hxo.cap
        unfold maxLen at hxm
        have HHC := Lib.hid (hxo.noA)
        have HDW := Lib.hid hC.d2.lt
        have HDL := Lib.hid (show D + 1 ≤ W1.heap.size from by have h1 := hC.d2.lt; have h2 := hb1.size; omega)
        have x1 := XB.cell (i := 1) rfl
        clear hc hne hx hxo hC hb1 XB CU hsc hMn
        go_upto_region 9 with (fail)
        try rw [hW1]
        clear e0 e1 e2 hW1
        go_wp2_with fail
        refine NC.out.mono ?_
        rintro e w3 ⟨v3, cs2, acc, at_, kk, rfl, hO3, hit, hst, b3⟩
        have hcut := (Jn.cut_eq hst).symm.trans hit
        have hcl := Jn.cut_le x.l
        rw [hcut] at hcl
        have HCUT := Lib.hid hcut
        obtain ⟨V3, c3, rfl, -, h3m, h3n, h3l⟩ := own_form hO3.row
        have HC3 := Lib.hid (HC1.out.later b3)
        have HXB3 := Lib.hid (HXB.out.later b3)
        have HO3 := Lib.hid (hO3.lower HDL.out)
        have HS3 := Lib.hid (show D + 1 ≤ w3.heap.size from Nat.le_trans HDL.out b3.size)
        have H3N := Lib.hid h3n
        have H3L := Lib.hid h3l
        have hat1 : at_ ≤ x.l.length := hcl.1
        have hat2 : acc.length * 8 ≤ at_ := hcl.2
        have hown3 := HC3.out.rows.row
        clear hO3 hit hst b3 hcut hcl h3n h3l x1 NC HC1 HXB
        go_upto_region 10 with (fail)
        go_wp2_with (at_builtin; refine wpList_append_lies _ rfl _ _ 35 rfl (D + 1) 25 j0 (.slice none 0 0) 1 24 Tryd.underlying35 hJ hj0 hj1 hj2 rfl (by decide) _ ls.length (sliCells cs ls) rfl hown3 V3 acc.length c3 H3N.out (sliCells cs2 acc) rfl (by rw [sliCells_len _ _ HO3.out.lens, Nat.mul_one]) H3L.out (sliCells_one _ _) ?c3 ?c4 ?c5 ?_)
        case c3 => unfold maxLen; omega
        case c4 => omega
        case c5 => exact HS3.out
        intro v4 w4 ho4 hg4 _
        have HC4 := Lib.hid (HC3.out.more HO3.out hg4 ho4)
        have XB4 := Lib.hid (show Blk w4 wr.heap.size 50 #[.int .i64 x.num, .slice x.X x.l.length x.c, .int .i64 x.s] from (hg4.block wr.heap.size HXB3.out.lt (fun e => by have := OWL.out _ e.symm; omega)).trans HXB3.out)
        obtain ⟨V4, c4, rfl, -, h4m, h4n, -⟩ := own_form ho4
        clear ho4 hg4 hown3 HC3 HO3 H3L HXB3
        have hOX := Lib.hid (HXO.out.head at_)
        have htl : (x.l.take at_).length = at_ := by rw [List.length_take]; omega
        have HTL := Lib.hid htl
        have Y2 := Lib.hid (HC4.out.d2.cell (i := 1) rfl)
        have X0 := Lib.hid (XB4.out.cell (i := 0) rfl)
        have X1 := Lib.hid (XB4.out.cell (i := 1) rfl)
        have HS4 := Lib.hid (show D + 1 ≤ w4.heap.size from by have := HC4.out.d2.lt; omega)
        have OWF := Lib.hid (fun (k : Nat) hk => own_lt HC.out.files k hk)
        have PUSH := Lib.hid (fun (w' : World) (hb : Below w4.heap.size w4 w') (v2 : Value) (w2 : World) (hg : w'.grownBy w2 (Value.ownBlock (.slice FA M.length fc))) (hr : w2.ownsRow (D + 1) 50 3 v2 (M.length + 1) (fCells M ++ [.int .i64 x.num, .slice x.X at_ x.c, .int .i64 0])) =>
          (show ScI D room (some ⟨b, off, none⟩) L.length c w (w2.setCell ⟨D, 1, none⟩ v2) (.slice V4 (ls.length + acc.length) c4) (cs ++ cs2) (ls ++ acc) v2 (M ++ [⟨x.num, x.X, x.c, x.l.take at_, 0⟩]) ∧ w2.cell? ⟨D, 1, none⟩ = some (.slice FA M.length fc) ∧ w2.frozen? ⟨D, 1, none⟩ = false ∧ Blk (w2.setCell ⟨D, 1, none⟩ v2) wr.heap.size 50 #[.int .i64 x.num, .slice x.X x.l.length x.c, .int .i64 x.s] from by
            have hp := (HC4.out.later hb).push (x := ⟨x.num, x.X, x.c, x.l.take at_, 0⟩) hOX.out hg (by
              show w2.ownsRow (D + 1) 50 3 v2 (M.length + 1) (fCells M ++ [.int .i64 x.num, .slice x.X (x.l.take at_).length x.c, .int .i64 0])
              rw [HTL.out]
              exact hr)
            have hxb : Blk w2 wr.heap.size 50 #[.int .i64 x.num, .slice x.X x.l.length x.c, .int .i64 x.s] := (hg.block wr.heap.size (XB4.out.later hb).lt (fun e => by have := OWF.out _ e.symm; omega)).trans (XB4.out.later hb)
            exact ⟨hp.1, hp.2.1, hp.2.2, hxb.far (p := ⟨D, 1, none⟩) (by have := HDW.out; show wr.heap.size ≠ D; omega) _⟩))
        have OWN := Lib.hid (fun (w' : World) (hb : Below w4.heap.size w4 w') => (HC4.out.later hb).files)
        have hMi : M.length ≤ 1048577 := by have := HMN.out; omega
        clear HC4 htl XB4 HC
        go_upto_region 11 with (fail)
        refine wp_region_facts 10 (by kernel_rfl) (by kernel_rfl)
          (fun v => { tmps := #[.agg #[.int .i64 room, .slice (some ⟨b, off, none⟩) L.length c], .pointer (some ⟨w.heap.size, 0, none⟩), .slice none 0 0, .pointer (some ⟨w.heap.size + 1, 0, none⟩), .int .i64 0, .slice V4 (ls.length + acc.length) c4, .pointer (some ⟨D, 0, none⟩), .int .i64 (i : Int), .pointer (some ⟨wr.heap.size, 0, none⟩), .slice V3 acc.length c3, .int .i64 (at_ : Int), .agg #[.int .i64 room, .slice (some ⟨b, off, none⟩) L.length c], .bool true, .bool false, undef, .pointer (some ⟨w.heap.size, 0, none⟩), .int .i64 room, .agg #[.int .i64 room, .slice none 0 0], .int .i64 (i : Int), .pointer (some ⟨w.heap.size, 1, none⟩), .slice (some ⟨b, off, none⟩) L.length c, .int .i64 (L.length : Int), .bool true, u23, u24, .pointer (some ⟨w.heap.size, 1, none⟩), .slice (some ⟨b, off, none⟩) L.length c, .int .i64 (i : Int), .pointer (some ⟨b, off + i * 3, none⟩), .agg #[.int .i64 x.num, .slice x.X x.l.length x.c, .int .i64 x.s], .tuple #[.slice V3 acc.length c3, .int .i64 (at_ : Int)], .pointer (some ⟨wr.heap.size, 1, none⟩), .slice x.X x.l.length x.c, .tuple #[.slice V3 acc.length c3, .int .i64 (at_ : Int)], .slice V3 acc.length c3, .int .i64 (at_ : Int), .slice VA ls.length vc, .slice V3 acc.length c3, .slice V4 (ls.length + acc.length) c4, v 0, v 1, v 2, v 3, v 4, v 5, v 6, v 7, v 8, v 9, u49, u50, u51, u52, u53, u54, u55, undef, undef, undef, undef, undef, undef, undef], defers := [] }) (fun i_ => match i_ with | 0 => u39 | 1 => u40 | 2 => u41 | 3 => u42 | 4 => u43 | 5 => u44 | 6 => u45 | 7 => u46 | 8 => u47 | 9 => u48 | _ => undef)
          (fun i_ x_ wx => match i_ with
            | 0 => x_ = .pointer (some ⟨D, 1, none⟩)
            | 1 => x_ = .slice FA M.length fc
            | 2 => x_ = .pointer (some ⟨wr.heap.size, 0, none⟩)
            | 3 => x_ = .int .i64 x.num
            | 4 => x_ = .pointer (some ⟨wr.heap.size, 1, none⟩)
            | 5 => x_ = .slice x.X x.l.length x.c
            | 6 => x_ = .int .i64 (at_ : Int)
            | 7 => x_ = .slice x.X at_ x.c
            | 8 => x_ = .agg #[.int .i64 x.num, .slice x.X at_ x.c, .int .i64 0]
            | 9 => ∃ g, x_ = .slice (some ⟨g, 0, none⟩) 1 1 ∧ Blk wx g 50 #[.int .i64 x.num, .slice x.X at_ x.c, .int .i64 0]
            | _ => True)
          (fun w1 w2 => Below w1.heap.size w1 w2) (fun h1 h2 => below_on h1 h2) (fun _ => Below.refl _ _) (Below.drew (Below.refl _ _)) ?stab ?step ?done
        case stab =>
          rintro i_ x_ w1 w2 h hb
          match i_, h with
          | 0, h => exact h
          | 1, h => exact h
          | 2, h => exact h
          | 3, h => exact h
          | 4, h => exact h
          | 5, h => exact h
          | 6, h => exact h
          | 7, h => exact h
          | 8, h => exact h
          | 9, h => obtain ⟨g, h1, h2⟩ := h; exact ⟨g, h1, h2.later hb⟩
          | i_ + 10, _ => trivial
        case step =>
          intro i_ hi_ v w' hb hd
          match i_, hi_ with
          | 0, _ =>
            refine wpOp_one rfl ?_
            clear hd
            go_wp2
            first | exact ⟨_, (by simp [upd]; done), Below.refl _ _, rfl⟩ | exact ⟨(by simp [upd]; done), Below.refl _ _⟩
          | 1, _ =>
            have h0 : v 0 = _ := hd 0 (List.elem_iff.1 (by kernel_rfl))
            refine wpOp_one rfl ?_
            clear hd
            rw [h0]
            have q0 := cell_later hb Y2.out
            go_wp2
            first | exact ⟨_, (by simp [upd, h0]; done), Below.refl _ _, rfl⟩ | exact ⟨(by simp [upd, h0]; done), Below.refl _ _⟩
          | 2, _ =>
            refine wpOp_one rfl ?_
            clear hd
            go_wp2
            first | exact ⟨_, (by simp [upd]; done), Below.refl _ _, rfl⟩ | exact ⟨(by simp [upd]; done), Below.refl _ _⟩
          | 3, _ =>
            have h2 : v 2 = _ := hd 2 (List.elem_iff.1 (by kernel_rfl))
            refine wpOp_one rfl ?_
            clear hd
            rw [h2]
            have q0 := cell_later hb X0.out
            go_wp2
            first | exact ⟨_, (by simp [upd, h2]; done), Below.refl _ _, rfl⟩ | exact ⟨(by simp [upd, h2]; done), Below.refl _ _⟩
          | 4, _ =>
            refine wpOp_one rfl ?_
            clear hd
            go_wp2
            first | exact ⟨_, (by simp [upd]; done), Below.refl _ _, rfl⟩ | exact ⟨(by simp [upd]; done), Below.refl _ _⟩
          | 5, _ =>
            have h4 : v 4 = _ := hd 4 (List.elem_iff.1 (by kernel_rfl))
            refine wpOp_one rfl ?_
            clear hd
            rw [h4]
            have q0 := cell_later hb X1.out
            go_wp2
            first | exact ⟨_, (by simp [upd, h4]; done), Below.refl _ _, rfl⟩ | exact ⟨(by simp [upd, h4]; done), Below.refl _ _⟩
          | 6, _ =>
            refine wpOp_one rfl ?_
            clear hd
            go_wp2
            first | exact ⟨_, (by simp [upd]; done), Below.refl _ _, rfl⟩ | exact ⟨(by simp [upd]; done), Below.refl _ _⟩
          | 7, _ =>
            have h5 : v 5 = _ := hd 5 (List.elem_iff.1 (by kernel_rfl))
            have h6 : v 6 = _ := hd 6 (List.elem_iff.1 (by kernel_rfl))
            refine wpOp_one rfl ?_
            clear hd
            rw [h5, h6]
            have hN := HHC.out
            go_wp2
            first | exact ⟨_, (by simp [upd, h5, h6]; done), Below.refl _ _, rfl⟩ | exact ⟨(by simp [upd, h5, h6]; done), Below.refl _ _⟩
          | 8, _ =>
            have h3 : v 3 = _ := hd 3 (List.elem_iff.1 (by kernel_rfl))
            have h7 : v 7 = _ := hd 7 (List.elem_iff.1 (by kernel_rfl))
            refine wpOp_one rfl ?_
            clear hd
            rw [h3, h7]
            go_wp2
            first | exact ⟨_, (by simp [upd, h3, h7]; done), Below.refl _ _, rfl⟩ | exact ⟨(by simp [upd, h3, h7]; done), Below.refl _ _⟩
          | 9, _ =>
            have h8 : v 8 = _ := hd 8 (List.elem_iff.1 (by kernel_rfl))
            refine wpOp_one rfl ?_
            clear hd
            rw [h8]
            have hbn := below_new (Below.refl w'.heap.size w') (.cells #[.int .i64 x.num, .slice x.X at_ x.c, .int .i64 0] 50)
            have KK := Lib.hid (Blk.new w' 50 #[.int .i64 x.num, .slice x.X at_ x.c, .int .i64 0])
            go_wp2
            exact ⟨_, (by simp [upd, h8]; done), hbn, w'.heap.size, rfl, KK.out⟩
        case done =>
          intro v w' hb hf
          have h1 : v 1 = .slice FA M.length fc := hf 1 (by omega)
          obtain ⟨gA, h9, B9⟩ := hf 9 (by omega)
          clear hf
          simp only [List.drop_succ_cons, List.drop_zero]
          rw [h1, h9]
          clear h1 h9
          have hown := OWN.out w' hb
          have hsz := hb.size
          have PU := Lib.hid (fun v2 w2 hg hr => PUSH.out w' hb v2 w2 hg hr)
          have hy : Lies w' (some ⟨gA, 0, none⟩) [.int .i64 x.num, .slice x.X at_ x.c, .int .i64 0] := fun _ => ⟨gA, 0, rfl, fun j u hu => by
            rw [Nat.zero_add]
            exact B9.cell (by simpa using hu)⟩
          have hs5 := HS4.out
          clear PUSH OWN B9 X0 X1 Y2
          go_wp2_with (at_builtin; refine wpList_append_lies _ rfl _ _ 22 rfl (D + 1) 50 i0 (.agg #[.int .i64 0, .slice none 0 0, .int .i64 0]) 3 40 Tryd.underlying22 hI hz0 hz1 hz2 rfl (by decide) _ M.length (fCells M) rfl hown (some ⟨gA, 0, none⟩) 1 1 (fun h => by cases h) [.int .i64 x.num, .slice x.X at_ x.c, .int .i64 0] rfl rfl hy (by intro u hu; simp at hu; rcases hu with rfl | rfl | rfl <;> rfl) ?d3 ?d4 ?d5 ?_)
          case d3 => unfold maxLen; omega
          case d4 => omega
          case d5 => omega
          intro v2 w2 ho2 hg2 _
          have nx := PU.out v2 w2 hg2 ho2
          obtain ⟨V5, c5, rfl, -, -, -, -⟩ := own_form ho2
          have z1 := nx.2.1
          have z2 := nx.2.2.1
          have NX := Lib.hid nx.1
          have NB := Lib.hid nx.2.2.2
          have hlf := HS.out
          clear ho2 hg2 hown hy PU nx hlf
          go_upto_region 12 with (fail)
          obtain ⟨W6, hW6⟩ : ∃ W6, w2.setCell ⟨D, 1, none⟩ (.slice V5 (M.length + 1) c5) = W6 := ⟨_, rfl⟩
          rw [hW6] at NX NB ⊢
          clear hW6 z1 z2
          have x1 := NB.out.cell (i := 1) rfl
          by_cases hbr : at_ < x.l.length
          · have d1 : decide ((at_ : Int) < (x.l.length : Int)) = true := decide_eq_true (by omega)
            have hRS : RS = ls ++ acc ∧ FS = (M ++ [(⟨x.num, x.X, x.c, x.l.take at_, 0⟩ : Fc)]).map Fc.fi := by
              have h := HSC.out
              rw [(Jn.scan_next HX.out HCUT.out).1 hbr] at h
              injection h with h1 h2
              exact ⟨h1, by rw [h2, List.map_append]; rfl⟩
            rw [show (ls.length + acc.length) = (ls ++ acc).length from by rw [List.length_append]] at NX ⊢
            rw [show M.length + 1 = (M ++ [(⟨x.num, x.X, x.c, x.l.take at_, 0⟩ : Fc)]).length from by rw [List.length_append]; rfl] at NX
            obtain ⟨RL, hRL⟩ : ∃ RL, ls ++ acc = RL := ⟨_, rfl⟩
            obtain ⟨CS, hCS⟩ : ∃ CS, cs ++ cs2 = CS := ⟨_, rfl⟩
            obtain ⟨MM, hMM⟩ : ∃ MM, M ++ [(⟨x.num, x.X, x.c, x.l.take at_, 0⟩ : Fc)] = MM := ⟨_, rfl⟩
            rw [hRL, hCS, hMM] at NX
            rw [hRL, hMM] at hRS
            rw [hRL]
            clear hRL hCS hMM
            have q0 := NX.out.d2.cell (i := 0) rfl
            have q2 := NX.out.d2.cell (i := 1) rfl
            have hOD : OneD W6 V5 c5 MM := by
              obtain ⟨A9, c9, h1, h2, h3, h4, h5⟩ := own_form NX.out.files
              injection h1 with h1 _ h6
              subst h1 h6
              exact ⟨h2, h3, h4, h5, fun f hf => (NX.out.bytes f hf).later NX.out.low⟩
            have SY := rsync_any room V5 c5 MM W6 hOD
            rw [show Dk.synR room (MM.map Fc.fi) = (room, FS.map Dk.syn1, 0) from by unfold Dk.synR; rw [← hRS.2, if_pos HFS.out]] at SY
            have NS := Lib.hid SY
            have HRS := Lib.hid hRS
            clear SY hOD hRS
            go_wp2_with fail
            refine NS.out.mono ?_
            clear NS
            intro e w8 h
            obtain ⟨A8, c8, L8, rfl, hO8, hf8, b8⟩ := h.open
            have C8 := Lib.hid (NX.out.later b8)
            have HO8 := Lib.hid hO8; have HF8 := Lib.hid hf8
            have HS8 := Lib.hid (show D + 1 ≤ W6.heap.size from NX.out.d2.lt)
            clear h hO8 hf8 b8 q0 q2
            have q0 := C8.out.d2.cell (i := 0) rfl
            have q2 := C8.out.d2.cell (i := 1) rfl
            have qf0 := C8.out.d2.free 0
            have qf1 := C8.out.d2.free 1
            go_upto_region 14 with (fail)
            have K9 := Lib.hid ((((Kept.refl (w.heap.size + 1) (D + 1) w8).put (p := ⟨D, 0, none⟩) (by have := C8.out.hn; show w.heap.size + 1 ≤ D; omega) (Nat.lt_succ_self _) (.int .i64 room)).put (p := ⟨D, 1, none⟩) (by have := C8.out.hn; show w.heap.size + 1 ≤ D; omega) (Nat.lt_succ_self _) (.slice A8 L8.length c8)))
            have E2 := Lib.hid ((C8.out.d2.put 0 (.int .i64 room)).put 1 (.slice A8 L8.length c8))
            have E1 := Lib.hid ((C8.out.d1.far (p := ⟨D, 0, none⟩) (by have := C8.out.hn; show w.heap.size + 1 ≠ D; omega) (.int .i64 room)).far (p := ⟨D, 1, none⟩) (by have := C8.out.hn; show w.heap.size + 1 ≠ D; omega) (.slice A8 L8.length c8))
            have LO := Lib.hid ((C8.out.low.setCell (p := ⟨D, 0, none⟩) (by have := C8.out.hn; show w.heap.size ≤ D; omega) (.int .i64 room)).setCell (p := ⟨D, 1, none⟩) (by have := C8.out.hn; show w.heap.size ≤ D; omega) (.slice A8 L8.length c8))
            obtain ⟨W9, hW9⟩ : ∃ W9, (w8.setCell ⟨D, 0, none⟩ (.int .i64 room)).setCell ⟨D, 1, none⟩ (.slice A8 L8.length c8) = W9 := ⟨_, rfl⟩
            rw [hW9] at K9 E2 E1 LO ⊢
            clear hW9 q0 q2 qf0 qf1
            have q0 := E2.out.cell (i := 0) rfl
            have q2 := E2.out.cell (i := 1) rfl
            have y0 := E1.out.cell (i := 0) rfl
            have y1 := E1.out.cell (i := 1) rfl
            have qf0 := E1.out.free 0
            have qf1 := E1.out.free 1
            have K10 := ((K9.out.put (p := ⟨w.heap.size + 1, 0, none⟩) (Nat.le_refl _) (by have := C8.out.hn; show w.heap.size + 1 < D + 1; omega) (.int .i64 room)).put (p := ⟨w.heap.size + 1, 1, none⟩) (Nat.le_refl _) (by have := C8.out.hn; show w.heap.size + 1 < D + 1; omega) (.slice A8 L8.length c8))
            have hz := (E1.out.put 0 (.int .i64 room)).put 1 (.slice A8 L8.length c8)
            have Z0 := Lib.hid (hz.cell (i := 0) rfl)
            have Z1 := Lib.hid (hz.cell (i := 1) rfl)
            have hbz := (LO.out.setCell (p := ⟨w.heap.size + 1, 0, none⟩) (by show w.heap.size ≤ w.heap.size + 1; omega) (.int .i64 room)).setCell (p := ⟨w.heap.size + 1, 1, none⟩) (by show w.heap.size ≤ w.heap.size + 1; omega) (.slice A8 L8.length c8)
            have hrw := C8.out.rows.above K10 (Nat.le_refl _)
            have hO9 := (HO8.out.above K10 HS8.out).lower (base' := w.heap.size) (by have := HS8.out; have := C8.out.hn; omega)
            obtain ⟨RA, rc, hra, hRB⟩ := hrw.one
            injection hra with hra1 _ hra2
            have FIN := Lib.hid (show GivesSc (RS, (room, FS.map Dk.syn1, 0)) w (.returned (.tuple #[.slice V4 RL.length c4, .agg #[.int .i64 room, .slice A8 L8.length c8], .int .i64 0])) _ from by
              refine ⟨RA, rc, A8, c8, L8, ?_, ?_, hO9, HF8.out, hbz⟩
              · rw [HRS.out.1, hra1, hra2]
              · rw [HRS.out.1]; exact hRB)
            clear hz hbz K10 hrw hO9 hRB
            subst hra1 hra2
            go_region
            all_goals
              go_wp2_with fail
              have z0 := Z0.out
              have z1 := Z1.out
              exact bodyPost_ret (v := .tuple #[.slice V4 RL.length c4, .agg #[.int .i64 room, .slice A8 L8.length c8], .int .i64 0]) (by simp [results, Tryd.results20, go_sem, z0, z1]) rfl FIN.out.drew
          · have d1 : decide ((at_ : Int) < (x.l.length : Int)) = false := decide_eq_false (by omega)
            go_wp2_with fail
            go_roundw
            case rel =>
              refine ⟨i + 1, cs ++ cs2, ls ++ acc, _, _, by omega, by first | rfl | go_num, ?_, ?_, NX.out, ?_⟩
              · rw [List.length_append]; omega
              · rw [List.length_append, HMN.out]; rfl
              · rw [HSC.out, (Jn.scan_next HX.out HCUT.out).2 hbr, List.map_append, List.append_assoc, List.append_assoc]
                rfl
            case measure => simp [intOf]; omega
      · have hd : decide ((i : Int) < (L.length : Int)) = false := decide_eq_false (by omega)
        have hRS : RS = ls ∧ FS = M.map Fc.fi := by
          have h := HSC.out
          rw [List.drop_of_length_le (by rw [List.length_map]; omega)] at h
          injection h with h1 h2
          exact ⟨by rw [h1]; exact List.append_nil _, by rw [h2]; exact List.append_nil _⟩
        clear hMn hsc hC
        have q0 := HC.out.d2.cell (i := 0) rfl
        have q2 := HC.out.d2.cell (i := 1) rfl
        have hOD : OneD wr FA fc M := by
          obtain ⟨A9, c9, h1, h2, h3, h4, h5⟩ := own_form HC.out.files
          injection h1 with h1 _ h6
          subst h1 h6
          exact ⟨h2, h3, h4, h5, fun f hf => (HC.out.bytes f hf).later HC.out.low⟩
        have SY := rsync_any room FA fc M wr hOD
        rw [show Dk.synR room (M.map Fc.fi) = (room, FS.map Dk.syn1, 0) from by unfold Dk.synR; rw [← hRS.2, if_pos HFS.out]] at SY
        have NS := Lib.hid SY
        have HRS := Lib.hid hRS
        clear SY hOD hRS
        go_wp2_with fail
        refine NS.out.mono ?_
        clear NS
        intro e w8 h
        obtain ⟨A8, c8, L8, rfl, hO8, hf8, b8⟩ := h.open
        have C8 := Lib.hid (HC.out.later b8)
        have HO8 := Lib.hid hO8; have HF8 := Lib.hid hf8
        have HS8 := Lib.hid (show D + 1 ≤ wr.heap.size from HC.out.d2.lt)
        clear h hO8 hf8 b8 q0 q2
        have q0 := C8.out.d2.cell (i := 0) rfl
        have q2 := C8.out.d2.cell (i := 1) rfl
        have qf0 := C8.out.d2.free 0
        have qf1 := C8.out.d2.free 1
        go_upto_region 14 with (fail)
        have K9 := Lib.hid ((((Kept.refl (w.heap.size + 1) (D + 1) w8).put (p := ⟨D, 0, none⟩) (by have := C8.out.hn; show w.heap.size + 1 ≤ D; omega) (Nat.lt_succ_self _) (.int .i64 room)).put (p := ⟨D, 1, none⟩) (by have := C8.out.hn; show w.heap.size + 1 ≤ D; omega) (Nat.lt_succ_self _) (.slice A8 L8.length c8)))
        have E2 := Lib.hid ((C8.out.d2.put 0 (.int .i64 room)).put 1 (.slice A8 L8.length c8))
        have E1 := Lib.hid ((C8.out.d1.far (p := ⟨D, 0, none⟩) (by have := C8.out.hn; show w.heap.size + 1 ≠ D; omega) (.int .i64 room)).far (p := ⟨D, 1, none⟩) (by have := C8.out.hn; show w.heap.size + 1 ≠ D; omega) (.slice A8 L8.length c8))
        have LO := Lib.hid ((C8.out.low.setCell (p := ⟨D, 0, none⟩) (by have := C8.out.hn; show w.heap.size ≤ D; omega) (.int .i64 room)).setCell (p := ⟨D, 1, none⟩) (by have := C8.out.hn; show w.heap.size ≤ D; omega) (.slice A8 L8.length c8))
        obtain ⟨W9, hW9⟩ : ∃ W9, (w8.setCell ⟨D, 0, none⟩ (.int .i64 room)).setCell ⟨D, 1, none⟩ (.slice A8 L8.length c8) = W9 := ⟨_, rfl⟩
        rw [hW9] at K9 E2 E1 LO ⊢
        clear hW9 q0 q2 qf0 qf1
        have q0 := E2.out.cell (i := 0) rfl
        have q2 := E2.out.cell (i := 1) rfl
        have y0 := E1.out.cell (i := 0) rfl
        have y1 := E1.out.cell (i := 1) rfl
        have qf0 := E1.out.free 0
        have qf1 := E1.out.free 1
        have K10 := ((K9.out.put (p := ⟨w.heap.size + 1, 0, none⟩) (Nat.le_refl _) (by have := C8.out.hn; show w.heap.size + 1 < D + 1; omega) (.int .i64 room)).put (p := ⟨w.heap.size + 1, 1, none⟩) (Nat.le_refl _) (by have := C8.out.hn; show w.heap.size + 1 < D + 1; omega) (.slice A8 L8.length c8))
        have hz := (E1.out.put 0 (.int .i64 room)).put 1 (.slice A8 L8.length c8)
        have Z0 := Lib.hid (hz.cell (i := 0) rfl)
        have Z1 := Lib.hid (hz.cell (i := 1) rfl)
        have hbz := (LO.out.setCell (p := ⟨w.heap.size + 1, 0, none⟩) (by show w.heap.size ≤ w.heap.size + 1; omega) (.int .i64 room)).setCell (p := ⟨w.heap.size + 1, 1, none⟩) (by show w.heap.size ≤ w.heap.size + 1; omega) (.slice A8 L8.length c8)
        have hrw := C8.out.rows.above K10 (Nat.le_refl _)
        have hO9 := (HO8.out.above K10 HS8.out).lower (base' := w.heap.size) (by have := HS8.out; have := C8.out.hn; omega)
        obtain ⟨RA, rc, hra, hRB⟩ := hrw.one
        injection hra with hra1 _ hra2
        have FIN := Lib.hid (show GivesSc (RS, (room, FS.map Dk.syn1, 0)) w (.returned (.tuple #[.slice VA ls.length vc, .agg #[.int .i64 room, .slice A8 L8.length c8], .int .i64 0])) _ from by
          refine ⟨RA, rc, A8, c8, L8, ?_, ?_, hO9, HF8.out, hbz⟩
          · rw [HRS.out.1, hra1, hra2]
          · rw [HRS.out.1]; exact hRB)
        clear hz hbz K10 hrw hO9 hRB
        subst hra1 hra2
        go_region
        all_goals
          go_wp2_with fail
          have z0 := Z0.out
          have z1 := Z1.out
          exact bodyPost_ret (v := .tuple #[.slice VA ls.length vc, .agg #[.int .i64 room, .slice A8 L8.length c8], .int .i64 0]) (by simp [results, Tryd.results20, go_sem, z0, z1]) rfl FIN.out.drew
end Go.Proofs.YtkhggofcbdcliaaDoor
namespace Go.Proofs.YtkhggofcbdcliaaDoor
open Go.RowKit

/-- What lies while Scan goes on: the records v, the segments V in memory of the call's own, the boxes. -/
structure ScJ (D : Nat) (room : Int) (A : Option Addr) (n c : Nat) (w wr : World) (v : Value) (cs : List (Option Addr × Nat)) (ls : List (List Int)) (V : Value) (M : List Fc) : Prop where
  rows : OwnRows wr (D + 1) v cs ls
  files : OwnD wr (D + 1) 50 5 V M
  d0 : Blk wr w.heap.size 24 #[.int .i64 room, .slice A n c]
  d1 : Blk wr (w.heap.size + 1) 24 #[.int .i64 0, .slice none 0 0]
  d2 : Blk wr D 24 #[.int .i64 room, V]
  low : Below w.heap.size w wr
  hn : w.heap.size + 1 < D
section
variable {D n c : Nat} {room : Int} {A : Option Addr} {w wr w1 w2 w' : World} {v vr V V2 v2 : Value} {cs cs2 : List (Option Addr × Nat)} {ls ls2 : List (List Int)} {M : List Fc}
theorem ScJ.later (h : ScJ D room A n c w wr v cs ls V M) (hb : Below wr.heap.size wr w1) : ScJ D room A n c w w1 v cs ls V M :=
  ⟨h.rows.later hb, h.files.later hb, h.d0.later hb, h.d1.later hb, h.d2.later hb, below_on h.low hb, h.hn⟩
/-- More records. -/
theorem ScJ.more (h : ScJ D room A n c w wr v cs ls V M) (h2 : OwnRows wr (D + 1) v2 cs2 ls2) (hg : wr.grownBy w2 v.ownBlock) (hr : w2.ownsRow (D + 1) 25 1 vr (ls.length + ls2.length) (sliCells cs ls ++ sliCells cs2 ls2)) : ScJ D room A n c w w2 vr (cs ++ cs2) (ls ++ ls2) V M := by
  have hge := own_ge h.rows.row
  have hlt := h.d2.lt
  have hn := h.hn
  have low : ∀ k, k ≤ D → w2.heap[k]? = wr.heap[k]? := fun k hk => hg.block k (by omega) (fun e => by have := hge k e.symm; omega)
  have each : ∀ f ∈ M, OwnB w2 (D + 1) 5 f := fun f hf => (h.files.each f hf).stays fun k hk => hg.block k ((h.files.each f hf).lt k hk).2 (fun ek => by
    obtain ⟨_, h1⟩ := h.rows.row
    rcases h1 with ⟨hv, _⟩ | ⟨g, cap, cur, hv, _⟩
    · rw [hv] at ek; cases ek
    · have hr := h.rows.row
      rw [hv] at ek hr
      have e2 : f.blk = some g := by rw [hk]; exact ek
      obtain ⟨_, h3⟩ := hr
      rcases h3 with ⟨hv3, _⟩ | ⟨g3, cap3, cur3, hv3, _, hB3, _⟩
      · cases hv3
      · injection hv3 with hv4
        injection hv4 with hv5
        injection hv5 with hv6
        subst hv6
        exact (h.files.each f hf).off hB3 (by decide) e2)
  exact ⟨h.rows.join h2 hg hr, ⟨own_stays h.files.row (fun k hk => hg.block k (own_lt h.files.row k hk) (own_apart h.files.row h.rows.row (by decide) k hk)), each, h.files.apart⟩, (low _ (by omega)).trans h.d0, (low _ (by omega)).trans h.d1, (low _ (Nat.le_refl _)).trans h.d2, h.low.grown hg h.low.size (fun k hk => by have := hge k hk; omega), h.hn⟩
/-- One segment more, stored. -/
theorem ScJ.push (h : ScJ D room A n c w wr v cs ls V M) (hb : Below wr.heap.size wr w') {x : Fc} (hx : OwnB w' wr.heap.size 5 x) (hg : w'.grownBy w2 V.ownBlock) (hr : w2.ownsRow (D + 1) 50 3 V2 (M.length + 1) (fCells M ++ fCells [x])) :
    ScJ D room A n c w (w2.setCell ⟨D, 1, none⟩ V2) v cs ls V2 (M ++ [x]) ∧ w2.cell? ⟨D, 1, none⟩ = some V ∧ w2.frozen? ⟨D, 1, none⟩ = false := by
  have h' := h.later hb
  have hge := own_ge h'.files.row
  have hlt0 := h.d2.lt
  have hlt := h'.d2.lt
  have hn := h.hn
  have low : ∀ k, k ≤ D → w2.heap[k]? = w'.heap[k]? := fun k hk => hg.block k (by omega) (fun e => by have := hge k e.symm; omega)
  have keep : ∀ {e : TypeId} {u : Value} {m : Nat} {xs : List Value}, e ≠ 50 → w'.ownsRow (D + 1) e 1 u m xs → w2.ownsRow (D + 1) e 1 u m xs := fun {e u m xs} he hu => own_stays hu (fun k hk => hg.block k (own_lt hu k hk) (own_apart hu h'.files.row he k hk))
  have rows2 : OwnRows w2 (D + 1) v cs ls := ⟨keep (by decide) h'.rows.row, h'.rows.lens, fun k hk => keep (by decide) (h'.rows.each k hk), h'.rows.byte⟩
  have e2 : Blk w2 D 24 #[.int .i64 room, V] := (low _ (Nat.le_refl _)).trans h'.d2
  have kp : Kept D (D + 1) w2 (w2.setCell ⟨D, 1, none⟩ V2) := (Kept.refl _ _ w2).put (p := ⟨D, 1, none⟩) (Nat.le_refl _) (Nat.lt_succ_self _) _
  have hsn := h'.files.snoc (x := x) (B := wr.heap.size) (by decide) (by omega) (fun f hf q hq => h.files.blk_lt f hf q hq) hx hg hr
  exact ⟨⟨rows2.above kp (Nat.le_refl _), hsn.low (p := ⟨D, 1, none⟩) (Nat.lt_succ_self _) _, Blk.far (p := ⟨D, 1, none⟩) ((low _ (by omega)).trans h'.d0) (by show w.heap.size ≠ D; omega) _, Blk.far (p := ⟨D, 1, none⟩) ((low _ (by omega)).trans h'.d1) (by show w.heap.size + 1 ≠ D; omega) _, e2.put 1 V2, (h'.low.grown hg h'.low.size (fun k hk => by have := hge k hk; omega)).setCell (by show w.heap.size ≤ D; omega) _, hn⟩, e2.cell (i := 1) rfl, e2.free 1⟩
end

set_option maxRecDepth 100000 in
set_option maxHeartbeats 6400000 in
theorem dscan_any (room : Int) (A : Option Addr) (c : Nat) (L : List Fc) (w : World) (h : OneD w A c L) (hH : Halves w) :
    Calls Tryd.prog 19 #[.agg #[.int .i64 room, .slice A L.length c]] w (GivesSc (Jn.scanR room (L.map Fc.fi)) w) := by
  have bn := below_new (below_new (Below.refl w.heap.size w) (.cells #[.int .i64 room, .slice A L.length c] 24)) (.cells #[.int .i64 0, .slice none 0 0] 24)
  have N := dformed_any room A c L _ (h.later bn)
  have B0 := Lib.hid ((Blk.new w 24 #[.int .i64 room, .slice A L.length c]).alloc (.cells #[.int .i64 0, .slice none 0 0] 24))
  have B1 := Lib.hid (show Blk _ (w.heap.size + 1) 24 #[.int .i64 0, .slice none 0 0] from by simpa using Blk.new (w.alloc (.cells #[.int .i64 room, .slice A L.length c] 24)) 24 #[.int .i64 0, .slice none 0 0])
  have HD := Lib.hid h
  have HH := Lib.hid hH
  have hlen := h.len
  clear h hH
  cases hq : Dk.fmd room (L.map Fc.fi) with
  | false =>
    have hR : Jn.scanR room (L.map Fc.fi) = ([], (0, [], 1)) := by unfold Jn.scanR; rw [if_neg (by rw [hq]; exact Bool.false_ne_true)]
    rw [hR]
    rw [hq] at N
    have NN := Lib.hid N
    clear hq hR HD B0 N HH
    go_enter Tryd.func19, Tryd.ntmps19
    go_wp2_with fail
    refine NN.out.mono ?_
    rintro e w1 ⟨rfl, b1⟩
    have z' := B1.out.later b1
    have y0 := z'.cell (i := 0) rfl
    have y1 := z'.cell (i := 1) rfl
    have s0 := z'.free 0
    have s1 := z'.free 1
    have hz := (z'.put 0 (.int .i64 0)).put 1 (.slice none 0 0)
    have z0 := Lib.hid (hz.cell (i := 0) rfl)
    have z1 := Lib.hid (hz.cell (i := 1) rfl)
    have hbz := ((below_on bn b1).setCell (p := ⟨w.heap.size + 1, 0, none⟩) (by show w.heap.size ≤ w.heap.size + 1; omega) (.int .i64 0)).setCell (p := ⟨w.heap.size + 1, 1, none⟩) (by show w.heap.size ≤ w.heap.size + 1; omega) (.slice none 0 0)
    have FIN := Lib.hid (show GivesSc ([], (0, [], 1)) w (.returned (.tuple #[.slice none 0 0, .agg #[.int .i64 0, .slice none 0 0], .int .i64 1])) _ from ⟨none, 0, none, 0, [], rfl, RowB.nil _, OwnD.nil _ _ _ _, rfl, hbz⟩)
    clear z' hz hbz
    go_wp2
    have z0 := z0.out
    have z1 := z1.out
    exact bodyPost_ret (v := .tuple #[.slice none 0 0, .agg #[.int .i64 0, .slice none 0 0], .int .i64 1]) (by simp [results, Tryd.results19, go_sem, z0, z1]) rfl FIN.out
  | true =>
    have hR : Jn.scanR room (L.map Fc.fi) = ((Jn.scan (L.map Fc.fi)).1, (room, (Jn.scan (L.map Fc.fi)).2.map Dk.syn1, 0)) := by unfold Jn.scanR; rw [if_pos hq]
    rw [hR]
    rw [hq] at N
    have NN := Lib.hid N
    have hl1 := Dk.len_le hq
    have hmax : ∀ f ∈ L, (f.l.length : Int) ≤ 16777216 := fun f hf => by
      have h1 := Dk.used_mem (List.mem_map.2 ⟨f, hf, rfl⟩ : f.fi ∈ L.map Fc.fi)
      have h2 := (Dk.fmd_facts hq).use
      have h3 := (Dk.fmd_facts hq).r1
      have h4 : (f.fi.2.1.length : Int) = (f.l.length : Int) := rfl
      omega
    have HMX := Lib.hid hmax
    obtain ⟨⟨RS, FS⟩, hS⟩ : ∃ r : List (List Int) × List Fi, ((Jn.scan (L.map Fc.fi)).1, (Jn.scan (L.map Fc.fi)).2.map Dk.syn1) = r := ⟨_, rfl⟩
    rw [show (Jn.scan (L.map Fc.fi)).1 = RS from congrArg Prod.fst hS, show (Jn.scan (L.map Fc.fi)).2.map Dk.syn1 = FS from congrArg Prod.snd hS]
    have HS := Lib.hid hS
    have BN := Lib.hid bn
    obtain ⟨i0, hI, hz0, hz1, hz2⟩ := info_parts infoFi
    obtain ⟨j0, hJ, hj0, hj1, hj2⟩ := info_parts infoRow
    clear hq hR N hmax hS bn
    go_enter Tryd.func19, Tryd.ntmps19
    go_wp2_with fail
    refine NN.out.mono ?_
    rintro e w1 ⟨rfl, b1⟩
    have c0 := (B0.out.later b1).cell (i := 0) rfl
    have bo := below_new (Below.refl w1.heap.size w1) (.cells #[.int .i64 room, .slice none 0 0] 24)
    have D0 := Lib.hid ((B0.out.later b1).later bo)
    have D1 := Lib.hid ((B1.out.later b1).later bo)
    have D2 := Lib.hid (Blk.new w1 24 #[.int .i64 room, .slice none 0 0])
    have BB := Lib.hid (below_on (below_on BN.out b1) bo)
    have LW := Lib.hid (B1.out.later b1).lt
    have c1 := D0.out.cell (i := 1) rfl
    clear b1 bo NN B0 B1 BN
    go_upto_region 5 with (fail)
    obtain ⟨D, hD⟩ : ∃ D, w1.heap.size = D := ⟨_, rfl⟩
    obtain ⟨W2, hW2⟩ : ∃ W2, w1.alloc (.cells #[.int .i64 room, .slice none 0 0] 24) = W2 := ⟨_, rfl⟩
    rw [hW2] at D0 D1 D2 BB c1
    try rw [hW2]
    rw [hD] at D2 LW ⊢
    clear hW2 hD c0
    go_wp2_with fail
    go_loopw [5, 21] (fun s5 s21 wr => ∃ (i : Nat) (cs : List (Option Addr × Nat)) (ls : List (List Int)) (V : Value) (M : List Fc), i ≤ L.length ∧ s21 = .int .i64 (i : Int) ∧ ls.length ≤ i * 2097153 ∧ M.length = i ∧ ScJ D room A L.length c w wr s5 cs ls V M ∧
      (RS, FS) = (ls ++ (Jn.scan ((L.map Fc.fi).drop i)).1, M.map Fc.fi ++ (Jn.scan ((L.map Fc.fi).drop i)).2.map Dk.syn1)) (fun _ s21 _ => L.length - (intOf s21).toNat)
    case atStart => exact ⟨0, [], [], _, [], Nat.zero_le _, rfl, Nat.zero_le _, rfl, ⟨OwnRows.nil _ _, OwnD.nil _ _ _ _, D0.out, D1.out, D2.out, BB.out, LW.out⟩, by rw [List.drop_zero, ← HS.out]; rfl⟩
    case round =>
      obtain ⟨i, cs, ls, VV, M, hi, rfl, hln, hMn, hC, hsc⟩ := hrel
      clear D0 D1 D2 BB
      obtain ⟨VA, vc, hvv, -, hvm, hvn, -⟩ := own_form hC.rows.row
      obtain ⟨FA, fc, hff, -, hfm, hfn, -⟩ := own_form hC.files.row
      subst hvv hff
      unfold maxLen at hvm hfm
      have HC := Lib.hid hC
      have HSC := Lib.hid hsc
      have HMN := Lib.hid hMn
      by_cases hlt : i < L.length
      · have hne : L ≠ [] := fun e => by subst e; simp at hlt
        obtain ⟨b, off, hA, hc⟩ := HD.out.at hne
        obtain ⟨x, hx⟩ : ∃ x, L[i]? = some x := ⟨L[i], List.getElem?_eq_getElem hlt⟩
        obtain ⟨e0, e1, e2⟩ := hc i x hx
        subst hA
        have e0 := cell_later hC.low e0
        have e1 := cell_later hC.low e1
        have e2 := cell_later hC.low e2
        have hi0 : (0 : Int) ≤ (i : Int) := by omega
        have hi1 : (i : Int) < (L.length : Int) := by omega
        have hxo := HD.out.one hx
        have hxl := HMX.out x (List.mem_of_getElem? hx)
        obtain ⟨W1, hW1⟩ : ∃ W1, wr.alloc (.cells #[.int .i64 x.num, .slice x.X x.l.length x.c, .int .i64 x.s] 50) = W1 := ⟨_, rfl⟩
        have hb1 : Below wr.heap.size wr W1 := by rw [← hW1]; exact below_new (Below.refl _ _) _
        have XB : Blk W1 wr.heap.size 50 #[.int .i64 x.num, .slice x.X x.l.length x.c, .int .i64 x.s] := by rw [← hW1]; exact Blk.new wr _ _
        have CU := dcut_any x.X x.c x.l W1 (by omega) (hxo.later (below_on hC.low hb1)) (HH.out.later (below_on hC.low hb1))
        have NC := Lib.hid CU
        have HC1 := Lib.hid (hC.later hb1)
        have OWL := Lib.hid (fun (k : Nat) hk => own_lt hC.rows.row k hk)
        have OWF := Lib.hid (fun (k : Nat) hk => own_lt hC.files.row k hk)
        have HXB := Lib.hid XB
        have HXO := Lib.hid hxo
        have HX := Lib.hid hx
        have hxc := hxo.le
        have hxm := hxo.cap
        unfold maxLen at hxm
        have HHC := Lib.hid (hxo.noA)
        have HDW := Lib.hid hC.d2.lt
        have HDL := Lib.hid (show D + 1 ≤ W1.heap.size from by have h1 := hC.d2.lt; have h2 := hb1.size; omega)
        have x1 := XB.cell (i := 1) rfl
        clear hc hne hx hxo hC hb1 XB CU hsc hMn
        go_upto_region 8 with (fail)
        try rw [hW1]
        clear e0 e1 e2 hW1
        go_wp2_with fail
        refine NC.out.mono ?_
        rintro e w3 ⟨v3, cs2, acc, at_, kk, rfl, hO3, hit, hst, b3⟩
        have hcut := (Jn.cut_eq hst).symm.trans hit
        have hcl := Jn.cut_le x.l
        rw [hcut] at hcl
        have HCUT := Lib.hid hcut
        obtain ⟨V3, c3, rfl, -, h3m, h3n, h3l⟩ := own_form hO3.row
        have HC3 := Lib.hid (HC1.out.later b3)
        have HXB3 := Lib.hid (HXB.out.later b3)
        have HO3 := Lib.hid (hO3.lower HDL.out)
        have HS3 := Lib.hid (show D + 1 ≤ w3.heap.size from Nat.le_trans HDL.out b3.size)
        have H3N := Lib.hid h3n
        have H3L := Lib.hid h3l
        have hat1 : at_ ≤ x.l.length := hcl.1
        have hat2 : acc.length * 8 ≤ at_ := hcl.2
        have hown3 := HC3.out.rows.row
        clear hO3 hit hst b3 hcut hcl h3n h3l x1 NC HC1 HXB
        go_upto_region 9 with (fail)
        go_wp2_with (at_builtin; refine wpList_append_lies _ rfl _ _ 35 rfl (D + 1) 25 j0 (.slice none 0 0) 1 24 Tryd.underlying35 hJ hj0 hj1 hj2 rfl (by decide) _ ls.length (sliCells cs ls) rfl hown3 V3 acc.length c3 H3N.out (sliCells cs2 acc) rfl (by rw [sliCells_len _ _ HO3.out.lens, Nat.mul_one]) H3L.out (sliCells_one _ _) ?c3 ?c4 ?c5 ?_)
        case c3 => unfold maxLen; omega
        case c4 => omega
        case c5 => exact HS3.out
        intro v4 w4 ho4 hg4 _
        have HC4 := Lib.hid (HC3.out.more HO3.out hg4 ho4)
        have XB4 := Lib.hid (show Blk w4 wr.heap.size 50 #[.int .i64 x.num, .slice x.X x.l.length x.c, .int .i64 x.s] from (hg4.block wr.heap.size HXB3.out.lt (fun e => by have := OWL.out _ e.symm; omega)).trans HXB3.out)
        obtain ⟨V4, c4, rfl, -, h4m, h4n, -⟩ := own_form ho4
        clear ho4 hg4 hown3 HC3 HO3 H3L HXB3
        obtain ⟨y, hy⟩ : ∃ y, x.l.take at_ = y := ⟨_, rfl⟩
        have hyl : y.length = at_ := by rw [← hy, List.length_take]; omega
        have HY := Lib.hid hy
        have HYL := Lib.hid hyl
        have hOX := Lib.hid (show OneB w x.X x.c y from by rw [← hy]; exact HXO.out.head at_)
        have Y2 := Lib.hid (HC4.out.d2.cell (i := 1) rfl)
        have X0 := Lib.hid (XB4.out.cell (i := 0) rfl)
        have X1 := Lib.hid (XB4.out.cell (i := 1) rfl)
        have HS4 := Lib.hid (show D + 1 ≤ w4.heap.size from by have := HC4.out.d2.lt; omega)
        have LW4 := Lib.hid HC4.out.low
        have CLN := Lib.hid (fun (w' : World) (hb : Below w4.heap.size w4 w') => show Calls Tryd.prog 36 #[.slice x.X at_ x.c] w' (fun e w'' => ∃ X' c', e = .returned (.slice X' at_ c') ∧ OwnB w'' w4.heap.size 5 ⟨x.num, X', c', y, (at_ : Int)⟩ ∧ Below w'.heap.size w' w'') from by
          have CL := cloneB_any x.X x.c y w' (by rw [HYL.out]; omega) ((hOX.out.later LW4.out).later hb)
          rw [HYL.out] at CL
          refine CL.mono ?_
          rintro e w'' ⟨v2, rfl, ho, b2⟩
          rw [HYL.out] at ho
          obtain ⟨X', c', rfl, -, -, -, -⟩ := own_form ho
          have hsz := hb.size
          exact ⟨X', c', rfl, (OwnB.of_own (f := ⟨x.num, X', c', y, (at_ : Int)⟩) (by show w''.ownsRow w'.heap.size 5 1 (.slice X' y.length c') y.length (bCells y); rw [HYL.out]; exact ho) hOX.out.byte).lower hsz, b2⟩)
        have PUSH := Lib.hid (fun (w' : World) (hb : Below w4.heap.size w4 w') (X' : Option Addr) (c' : Nat) (hx : OwnB w' w4.heap.size 5 ⟨x.num, X', c', y, (at_ : Int)⟩) (v2 : Value) (w2 : World) (hg : w'.grownBy w2 (Value.ownBlock (.slice FA M.length fc))) (hr : w2.ownsRow (D + 1) 50 3 v2 (M.length + 1) (fCells M ++ [.int .i64 x.num, .slice X' at_ c', .int .i64 (at_ : Int)])) =>
          (show ScJ D room (some ⟨b, off, none⟩) L.length c w (w2.setCell ⟨D, 1, none⟩ v2) (.slice V4 (ls.length + acc.length) c4) (cs ++ cs2) (ls ++ acc) v2 (M ++ [⟨x.num, X', c', y, (at_ : Int)⟩]) ∧ w2.cell? ⟨D, 1, none⟩ = some (.slice FA M.length fc) ∧ w2.frozen? ⟨D, 1, none⟩ = false ∧ Blk (w2.setCell ⟨D, 1, none⟩ v2) wr.heap.size 50 #[.int .i64 x.num, .slice x.X x.l.length x.c, .int .i64 x.s] from by
            have hp := HC4.out.push hb (x := ⟨x.num, X', c', y, (at_ : Int)⟩) hx hg (by
              show w2.ownsRow (D + 1) 50 3 v2 (M.length + 1) (fCells M ++ [.int .i64 x.num, .slice X' y.length c', .int .i64 (at_ : Int)])
              rw [HYL.out]
              exact hr)
            have hxb : Blk w2 wr.heap.size 50 #[.int .i64 x.num, .slice x.X x.l.length x.c, .int .i64 x.s] := (hg.block wr.heap.size (XB4.out.later hb).lt (fun e => by have := OWF.out _ e.symm; omega)).trans (XB4.out.later hb)
            exact ⟨hp.1, hp.2.1, hp.2.2, hxb.far (p := ⟨D, 1, none⟩) (by have := HDW.out; show wr.heap.size ≠ D; omega) _⟩))
        have OWN := Lib.hid (fun (w' : World) (hb : Below w4.heap.size w4 w') => (HC4.out.later hb).files.row)
        have hMi : M.length ≤ 1048577 := by have := HMN.out; omega
        clear HC4 hy hyl XB4 HC
        go_upto_region 10 with (fail)
        refine wp_region_facts 12 (by kernel_rfl) (by kernel_rfl)
          (fun v => { tmps := #[.agg #[.int .i64 room, .slice (some ⟨b, off, none⟩) L.length c], .pointer (some ⟨w.heap.size, 0, none⟩), .slice none 0 0, .pointer (some ⟨w.heap.size + 1, 0, none⟩), .int .i64 0, .slice V4 (ls.length + acc.length) c4, .pointer (some ⟨D, 0, none⟩), undef, .pointer (some ⟨wr.heap.size, 0, none⟩), .slice V3 acc.length c3, .int .i64 (at_ : Int), .agg #[.int .i64 room, .slice (some ⟨b, off, none⟩) L.length c], .bool true, .bool false, undef, .pointer (some ⟨w.heap.size, 0, none⟩), .int .i64 room, .agg #[.int .i64 room, .slice none 0 0], .pointer (some ⟨w.heap.size, 1, none⟩), .slice (some ⟨b, off, none⟩) L.length c, .int .i64 (L.length : Int), .int .i64 (i : Int), .bool true, .pointer (some ⟨b, off + i * 3, none⟩), .agg #[.int .i64 x.num, .slice x.X x.l.length x.c, .int .i64 x.s], .tuple #[.slice V3 acc.length c3, .int .i64 (at_ : Int)], .pointer (some ⟨wr.heap.size, 1, none⟩), .slice x.X x.l.length x.c, .tuple #[.slice V3 acc.length c3, .int .i64 (at_ : Int)], .slice V3 acc.length c3, .int .i64 (at_ : Int), .slice VA ls.length vc, .slice V3 acc.length c3, .slice V4 (ls.length + acc.length) c4, v 0, v 1, v 2, v 3, v 4, v 5, v 6, v 7, v 8, v 9, v 10, v 11, u46, u47, u48, u49, u50, u51, u52, u53, undef, undef], defers := [] }) (fun i_ => match i_ with | 0 => u34 | 1 => u35 | 2 => u36 | 3 => u37 | 4 => u38 | 5 => u39 | 6 => u40 | 7 => u41 | 8 => u42 | 9 => u43 | 10 => u44 | 11 => u45 | _ => undef)
          (fun i_ x_ wx => match i_ with
            | 0 => x_ = .pointer (some ⟨D, 1, none⟩)
            | 1 => x_ = .slice FA M.length fc
            | 2 => x_ = .pointer (some ⟨wr.heap.size, 0, none⟩)
            | 3 => x_ = .int .i64 x.num
            | 4 => x_ = .pointer (some ⟨wr.heap.size, 1, none⟩)
            | 5 => x_ = .slice x.X x.l.length x.c
            | 6 => x_ = .int .i64 (at_ : Int)
            | 7 => x_ = .slice x.X at_ x.c
            | 8 => ∃ X' c', x_ = .slice X' at_ c' ∧ OwnB wx w4.heap.size 5 ⟨x.num, X', c', y, (at_ : Int)⟩
            | 9 => x_ = .int .i64 (at_ : Int)
            | 10 => ∃ X' c', x_ = .agg #[.int .i64 x.num, .slice X' at_ c', .int .i64 (at_ : Int)] ∧ OwnB wx w4.heap.size 5 ⟨x.num, X', c', y, (at_ : Int)⟩
            | 11 => ∃ g X' c', x_ = .slice (some ⟨g, 0, none⟩) 1 1 ∧ Blk wx g 50 #[.int .i64 x.num, .slice X' at_ c', .int .i64 (at_ : Int)] ∧ OwnB wx w4.heap.size 5 ⟨x.num, X', c', y, (at_ : Int)⟩
            | _ => True)
          (fun w1 w2 => Below w1.heap.size w1 w2) (fun h1 h2 => below_on h1 h2) (fun _ => Below.refl _ _) (Below.drew (Below.refl _ _)) ?stab ?step ?done
        case stab =>
          rintro i_ x_ w1 w2 h hb
          match i_, h with
          | 0, h => exact h
          | 1, h => exact h
          | 2, h => exact h
          | 3, h => exact h
          | 4, h => exact h
          | 5, h => exact h
          | 6, h => exact h
          | 7, h => exact h
          | 8, h => obtain ⟨X', c', h1, h2⟩ := h; exact ⟨X', c', h1, h2.later hb⟩
          | 9, h => exact h
          | 10, h => obtain ⟨X', c', h1, h2⟩ := h; exact ⟨X', c', h1, h2.later hb⟩
          | 11, h => obtain ⟨g, X', c', h1, h2, h3⟩ := h; exact ⟨g, X', c', h1, h2.later hb, h3.later hb⟩
          | i_ + 12, _ => trivial
        case step =>
          intro i_ hi_ v w' hb hd
          match i_, hi_ with
          | 0, _ =>
            refine wpOp_one rfl ?_
            clear hd
            go_wp2
            first | exact ⟨_, (by simp [upd]; done), Below.refl _ _, rfl⟩ | exact ⟨(by simp [upd]; done), Below.refl _ _⟩
          | 1, _ =>
            have h0 : v 0 = _ := hd 0 (List.elem_iff.1 (by kernel_rfl))
            refine wpOp_one rfl ?_
            clear hd
            rw [h0]
            have q0 := cell_later hb Y2.out
            go_wp2
            first | exact ⟨_, (by simp [upd, h0]; done), Below.refl _ _, rfl⟩ | exact ⟨(by simp [upd, h0]; done), Below.refl _ _⟩
          | 2, _ =>
            refine wpOp_one rfl ?_
            clear hd
            go_wp2
            first | exact ⟨_, (by simp [upd]; done), Below.refl _ _, rfl⟩ | exact ⟨(by simp [upd]; done), Below.refl _ _⟩
          | 3, _ =>
            have h2 : v 2 = _ := hd 2 (List.elem_iff.1 (by kernel_rfl))
            refine wpOp_one rfl ?_
            clear hd
            rw [h2]
            have q0 := cell_later hb X0.out
            go_wp2
            first | exact ⟨_, (by simp [upd, h2]; done), Below.refl _ _, rfl⟩ | exact ⟨(by simp [upd, h2]; done), Below.refl _ _⟩
          | 4, _ =>
            refine wpOp_one rfl ?_
            clear hd
            go_wp2
            first | exact ⟨_, (by simp [upd]; done), Below.refl _ _, rfl⟩ | exact ⟨(by simp [upd]; done), Below.refl _ _⟩
          | 5, _ =>
            have h4 : v 4 = _ := hd 4 (List.elem_iff.1 (by kernel_rfl))
            refine wpOp_one rfl ?_
            clear hd
            rw [h4]
            have q0 := cell_later hb X1.out
            go_wp2
            first | exact ⟨_, (by simp [upd, h4]; done), Below.refl _ _, rfl⟩ | exact ⟨(by simp [upd, h4]; done), Below.refl _ _⟩
          | 6, _ =>
            refine wpOp_one rfl ?_
            clear hd
            go_wp2
            first | exact ⟨_, (by simp [upd]; done), Below.refl _ _, rfl⟩ | exact ⟨(by simp [upd]; done), Below.refl _ _⟩
          | 7, _ =>
            have h5 : v 5 = _ := hd 5 (List.elem_iff.1 (by kernel_rfl))
            have h6 : v 6 = _ := hd 6 (List.elem_iff.1 (by kernel_rfl))
            refine wpOp_one rfl ?_
            clear hd
            rw [h5, h6]
            have hN := HHC.out
            go_wp2
            first | exact ⟨_, (by simp [upd, h5, h6]; done), Below.refl _ _, rfl⟩ | exact ⟨(by simp [upd, h5, h6]; done), Below.refl _ _⟩
          | 8, _ =>
            have h7 : v 7 = _ := hd 7 (List.elem_iff.1 (by kernel_rfl))
            refine wpOp_one rfl ?_
            clear hd
            rw [h7]
            have CL := CLN.out w' hb
            clear CLN
            go_wp2_with fail
            refine CL.mono ?_
            rintro e w'' ⟨X', c', rfl, ho, b2⟩
            go_wp2
            exact ⟨_, (by simp [upd, h7]; done), b2, X', c', rfl, ho⟩
          | 9, _ =>
            refine wpOp_one rfl ?_
            clear hd
            go_wp2
            first | exact ⟨_, (by simp [upd]; done), Below.refl _ _, rfl⟩ | exact ⟨(by simp [upd]; done), Below.refl _ _⟩
          | 10, _ =>
            have h3 : v 3 = _ := hd 3 (List.elem_iff.1 (by kernel_rfl))
            obtain ⟨X8, c8', h8, o8⟩ := hd 8 (List.elem_iff.1 (by kernel_rfl))
            have h9 : v 9 = _ := hd 9 (List.elem_iff.1 (by kernel_rfl))
            refine wpOp_one rfl ?_
            clear hd
            rw [h3, h8, h9]
            go_wp2
            exact ⟨_, (by simp [upd, h3, h8, h9]; done), Below.refl _ _, X8, c8', rfl, o8⟩
          | 11, _ =>
            obtain ⟨X10, c10', h10, o10⟩ := hd 10 (List.elem_iff.1 (by kernel_rfl))
            refine wpOp_one rfl ?_
            clear hd
            rw [h10]
            have hbn := below_new (Below.refl w'.heap.size w') (.cells #[.int .i64 x.num, .slice X10 at_ c10', .int .i64 (at_ : Int)] 50)
            have KK := Lib.hid (Blk.new w' 50 #[.int .i64 x.num, .slice X10 at_ c10', .int .i64 (at_ : Int)])
            have o10' := o10.later hbn
            have OO := Lib.hid o10'
            clear o10 o10'
            go_wp2
            exact ⟨_, (by simp [upd, h10]; done), hbn, w'.heap.size, X10, c10', rfl, KK.out, OO.out⟩
          | k_ + 12, hk => exact absurd hk (by omega)
        case done =>
          intro v w' hb hf
          have h1 : v 1 = .slice FA M.length fc := hf 1 (by omega)
          obtain ⟨gA, XA, cA, h11, B11, o11⟩ := hf 11 (by omega)
          clear hf
          simp only [List.drop_succ_cons, List.drop_zero]
          rw [h1, h11]
          clear h1 h11
          have hown := OWN.out w' hb
          have hsz := hb.size
          have PU := Lib.hid (fun v2 w2 hg hr => PUSH.out w' hb XA cA o11 v2 w2 hg hr)
          have hy : Lies w' (some ⟨gA, 0, none⟩) [.int .i64 x.num, .slice XA at_ cA, .int .i64 (at_ : Int)] := fun _ => ⟨gA, 0, rfl, fun j u hu => by
            rw [Nat.zero_add]
            exact B11.cell (by simpa using hu)⟩
          have hs5 := HS4.out
          clear PUSH OWN B11 o11 X0 X1 Y2 CLN
          go_wp2_with (at_builtin; refine wpList_append_lies _ rfl _ _ 22 rfl (D + 1) 50 i0 (.agg #[.int .i64 0, .slice none 0 0, .int .i64 0]) 3 40 Tryd.underlying22 hI hz0 hz1 hz2 rfl (by decide) _ M.length (fCells M) rfl hown (some ⟨gA, 0, none⟩) 1 1 (fun h => by cases h) [.int .i64 x.num, .slice XA at_ cA, .int .i64 (at_ : Int)] rfl rfl hy (by intro u hu; simp at hu; rcases hu with rfl | rfl | rfl <;> rfl) ?d3 ?d4 ?d5 ?_)
          case d3 => unfold maxLen; omega
          case d4 => omega
          case d5 => omega
          intro v2 w2 ho2 hg2 _
          have nx := PU.out v2 w2 hg2 ho2
          obtain ⟨V5, c5, rfl, -, -, -, -⟩ := own_form ho2
          have z1 := nx.2.1
          have z2 := nx.2.2.1
          have NX := Lib.hid nx.1
          have NB := Lib.hid nx.2.2.2
          clear ho2 hg2 hown hy PU nx
          go_upto_region 11 with (fail)
          obtain ⟨W6, hW6⟩ : ∃ W6, w2.setCell ⟨D, 1, none⟩ (.slice V5 (M.length + 1) c5) = W6 := ⟨_, rfl⟩
          rw [hW6] at NX NB ⊢
          clear hW6 z1 z2
          have x1 := NB.out.cell (i := 1) rfl
          by_cases hbr : at_ < x.l.length
          · have d1 : decide ((at_ : Int) < (x.l.length : Int)) = true := decide_eq_true (by omega)
            have hRS : RS = ls ++ acc ∧ FS = (M ++ [(⟨x.num, XA, cA, y, (at_ : Int)⟩ : Fc)]).map Fc.fi := by
              have h := HSC.out
              rw [(Jn.scan_next HX.out HCUT.out).1 hbr] at h
              injection h with h1 h2
              exact ⟨h1, by rw [h2, List.map_append, HY.out]; simp only [List.map_cons, List.map_nil, Dk.syn1, Fc.fi, HYL.out]⟩
            rw [show (ls.length + acc.length) = (ls ++ acc).length from by rw [List.length_append]] at NX ⊢
            rw [show M.length + 1 = (M ++ [(⟨x.num, XA, cA, y, (at_ : Int)⟩ : Fc)]).length from by rw [List.length_append]; rfl] at NX
            obtain ⟨RL, hRL⟩ : ∃ RL, ls ++ acc = RL := ⟨_, rfl⟩
            obtain ⟨CS, hCS⟩ : ∃ CS, cs ++ cs2 = CS := ⟨_, rfl⟩
            obtain ⟨MM, hMM⟩ : ∃ MM, M ++ [(⟨x.num, XA, cA, y, (at_ : Int)⟩ : Fc)] = MM := ⟨_, rfl⟩
            rw [hRL, hCS, hMM] at NX
            rw [hRL, hMM] at hRS
            rw [hRL]
            clear hRL hCS hMM
            have q0 := NX.out.d2.cell (i := 0) rfl
            have q2 := NX.out.d2.cell (i := 1) rfl
            have qf0 := NX.out.d1.free 0
            have qf1 := NX.out.d1.free 1
            have y0 := NX.out.d1.cell (i := 0) rfl
            have y1 := NX.out.d1.cell (i := 1) rfl
            have HRS := Lib.hid hRS
            have K10 := (((Kept.refl (w.heap.size + 1) (D + 1) W6).put (p := ⟨w.heap.size + 1, 0, none⟩) (Nat.le_refl _) (by have := NX.out.hn; show w.heap.size + 1 < D + 1; omega) (.int .i64 room)).put (p := ⟨w.heap.size + 1, 1, none⟩) (Nat.le_refl _) (by have := NX.out.hn; show w.heap.size + 1 < D + 1; omega) (.slice V5 MM.length c5))
            have hz := (NX.out.d1.put 0 (.int .i64 room)).put 1 (.slice V5 MM.length c5)
            have Z0 := Lib.hid (hz.cell (i := 0) rfl)
            have Z1 := Lib.hid (hz.cell (i := 1) rfl)
            have hbz := (NX.out.low.setCell (p := ⟨w.heap.size + 1, 0, none⟩) (by show w.heap.size ≤ w.heap.size + 1; omega) (.int .i64 room)).setCell (p := ⟨w.heap.size + 1, 1, none⟩) (by show w.heap.size ≤ w.heap.size + 1; omega) (.slice V5 MM.length c5)
            have hrw := NX.out.rows.above K10 (Nat.le_refl _)
            have hO9 := (NX.out.files.above K10 (Nat.le_refl _)).lower (base' := w.heap.size) (by have := NX.out.hn; omega)
            obtain ⟨RA, rc, hra, hRB⟩ := hrw.one
            injection hra with hra1 _ hra2
            have FIN := Lib.hid (show GivesSc (RS, (room, FS, 0)) w (.returned (.tuple #[.slice V4 RL.length c4, .agg #[.int .i64 room, .slice V5 MM.length c5], .int .i64 0])) _ from by
              refine ⟨RA, rc, V5, c5, MM, ?_, ?_, hO9, HRS.out.2.symm, hbz⟩
              · rw [HRS.out.1, hra1, hra2]
              · rw [HRS.out.1]; exact hRB)
            clear hz hbz K10 hrw hO9 hRB hRS
            subst hra1 hra2
            go_upto_region 13 with (fail)
            go_region
            all_goals
              go_wp2_with fail
              have z0 := Z0.out
              have z1 := Z1.out
              exact bodyPost_ret (v := .tuple #[.slice V4 RL.length c4, .agg #[.int .i64 room, .slice V5 MM.length c5], .int .i64 0]) (by simp [results, Tryd.results19, go_sem, z0, z1]) rfl FIN.out.drew
          · have d1 : decide ((at_ : Int) < (x.l.length : Int)) = false := decide_eq_false (by omega)
            go_wp2_with fail
            go_roundw
            case rel =>
              refine ⟨i + 1, cs ++ cs2, ls ++ acc, _, _, by omega, by first | rfl | go_num, ?_, ?_, NX.out, ?_⟩
              · rw [List.length_append]; omega
              · rw [List.length_append, HMN.out]; rfl
              · rw [HSC.out, (Jn.scan_next HX.out HCUT.out).2 hbr, List.map_append, List.append_assoc, List.append_assoc, HY.out]
                simp only [List.map_cons, List.map_nil, Dk.syn1, Fc.fi, HYL.out, List.singleton_append]
            case measure => simp [intOf]; omega
      · have hd : decide ((i : Int) < (L.length : Int)) = false := decide_eq_false (by omega)
        have hRS : RS = ls ∧ FS = M.map Fc.fi := by
          have h := HSC.out
          rw [List.drop_of_length_le (by rw [List.length_map]; omega)] at h
          injection h with h1 h2
          exact ⟨by rw [h1]; exact List.append_nil _, by rw [h2]; exact List.append_nil _⟩
        clear hMn hsc hC
        have q0 := HC.out.d2.cell (i := 0) rfl
        have q2 := HC.out.d2.cell (i := 1) rfl
        have qf0 := HC.out.d1.free 0
        have qf1 := HC.out.d1.free 1
        have y0 := HC.out.d1.cell (i := 0) rfl
        have y1 := HC.out.d1.cell (i := 1) rfl
        have HRS := Lib.hid hRS
        have K10 := (((Kept.refl (w.heap.size + 1) (D + 1) wr).put (p := ⟨w.heap.size + 1, 0, none⟩) (Nat.le_refl _) (by have := HC.out.hn; show w.heap.size + 1 < D + 1; omega) (.int .i64 room)).put (p := ⟨w.heap.size + 1, 1, none⟩) (Nat.le_refl _) (by have := HC.out.hn; show w.heap.size + 1 < D + 1; omega) (.slice FA M.length fc))
        have hz := (HC.out.d1.put 0 (.int .i64 room)).put 1 (.slice FA M.length fc)
        have Z0 := Lib.hid (hz.cell (i := 0) rfl)
        have Z1 := Lib.hid (hz.cell (i := 1) rfl)
        have hbz := (HC.out.low.setCell (p := ⟨w.heap.size + 1, 0, none⟩) (by show w.heap.size ≤ w.heap.size + 1; omega) (.int .i64 room)).setCell (p := ⟨w.heap.size + 1, 1, none⟩) (by show w.heap.size ≤ w.heap.size + 1; omega) (.slice FA M.length fc)
        have hrw := HC.out.rows.above K10 (Nat.le_refl _)
        have hO9 := (HC.out.files.above K10 (Nat.le_refl _)).lower (base' := w.heap.size) (by have := HC.out.hn; omega)
        obtain ⟨RA, rc, hra, hRB⟩ := hrw.one
        injection hra with hra1 _ hra2
        have FIN := Lib.hid (show GivesSc (RS, (room, FS, 0)) w (.returned (.tuple #[.slice VA ls.length vc, .agg #[.int .i64 room, .slice FA M.length fc], .int .i64 0])) _ from by
          refine ⟨RA, rc, FA, fc, M, ?_, ?_, hO9, HRS.out.2.symm, hbz⟩
          · rw [HRS.out.1, hra1, hra2]
          · rw [HRS.out.1]; exact hRB)
        clear hz hbz K10 hrw hO9 hRB hRS
        subst hra1 hra2
        go_upto_region 13 with (fail)
        go_region
        all_goals
          go_wp2_with fail
          have z0 := Z0.out
          have z1 := Z1.out
          exact bodyPost_ret (v := .tuple #[.slice VA ls.length vc, .agg #[.int .i64 room, .slice FA M.length fc], .int .i64 0]) (by simp [results, Tryd.results19, go_sem, z0, z1]) rfl FIN.out.drew
end Go.Proofs.YtkhggofcbdcliaaDoor
namespace Go.Proofs.YtkhggofcbdcliaaDoor
open Go.RowKit

theorem journalSpec : JournalSpec := ⟨dlast_any, dappJ_any, dstart_any, ddropJ_any, dscan_any⟩
end Go.Proofs.YtkhggofcbdcliaaDoor
namespace Go.Proofs.YtkhggofcbdcliaaDoor
open Go.RowKit

set_option maxRecDepth 100000 in
set_option maxHeartbeats 6400000 in
theorem lawJournalStarts_any (JS : JournalSpec) (room : Int) (A B : Option Addr) (c cb : Nat) (L : List Fc) (p : List Int) (w : World) (h : OneD w A c L) (hf : Fit L) (hp : OneB w B cb p) (hH : Halves w) :
    Calls Tryd.prog 4 #[.agg #[.int .i64 room, .slice A L.length c], .slice B p.length cb] w (Says (.bool true) w) := by
  obtain ⟨⟨rm, fs, k⟩, hR⟩ : ∃ r, Jn.startR room (L.map Fc.fi) p = r := ⟨_, rfl⟩
  obtain ⟨⟨rm2, fs2, k2⟩, hR2⟩ : ∃ r, Jn.dropR room (L.map Fc.fi) = r := ⟨_, rfl⟩
  have HR := Lib.hid hR; have HR2 := Lib.hid hR2
  clear hR hR2
  have hpl := hp.len
  have b0 := below_new (Below.refl w.heap.size w) (.cells #[.int .i64 room, .slice A L.length c] 24)
  have HP := Lib.hid (hp.later b0)
  clear b0 hp
  have SP := Lib.hid JS
  clear JS
  have b := below_new (Below.refl w.heap.size w) (.cells #[.int .i64 room, .slice A L.length c] 24)
  have HV := Lib.hid (hH.later b)
  have HD := Lib.hid (h.later b)
  have Y3 := Lib.hid (Blk.new w 24 #[.int .i64 room, .slice A L.length c])
  have HFT := Lib.hid hf
  have BB0 := Lib.hid b
  clear b h hf hH
  go_enter Tryd.func4, Tryd.ntmps4
  have nn := jalive_any SP.out (w.alloc (.cells #[.int .i64 room, .slice A L.length c] 24)) HV.out
  have NN := Lib.hid nn
  clear nn
  go_wp2_with fail
  refine NN.out.mono ?_
  clear NN
  rintro e x1 ⟨rfl, b⟩
  replace HP := Lib.hid (HP.out.later b)
  replace HV := Lib.hid (HV.out.later b)
  replace HD := Lib.hid (HD.out.later b)
  replace Y3 := Lib.hid (Y3.out.later b)
  have BB1 := Lib.hid (below_on BB0.out b)
  clear b
  have nn := rcopyD_any room A c L _ HD.out HFT.out
  have NN := Lib.hid nn
  clear nn
  have cY30 := Y3.out.cell (i := 0) rfl
  have cY31 := Y3.out.cell (i := 1) rfl
  go_wp2_with fail
  refine NN.out.mono ?_
  clear NN
  rintro e xo ⟨v, Lo, rfl, hO, hf, b⟩
  obtain ⟨Ao, co, rfl, -⟩ := hO.one
  clear cY30 cY31
  replace HP := Lib.hid (HP.out.later b)
  replace HV := Lib.hid (HV.out.later b)
  replace HD := Lib.hid (HD.out.later b)
  replace Y3 := Lib.hid (Y3.out.later b)
  have Oo := Lib.hid (hO.oneD)
  have HFo := Lib.hid hf
  have BB2 := Lib.hid (below_on BB1.out b)
  clear b hO hf
  have b := below_new (Below.refl xo.heap.size xo) (.cells #[.int .i64 room, .slice Ao Lo.length co] 24)
  replace HP := Lib.hid (HP.out.later b)
  replace HV := Lib.hid (HV.out.later b)
  replace HD := Lib.hid (HD.out.later b)
  replace Y3 := Lib.hid (Y3.out.later b)
  replace Oo := Lib.hid (Oo.out.later b)
  have Y7 := Lib.hid (Blk.new xo 24 #[.int .i64 room, .slice Ao Lo.length co])
  have BB2a := Lib.hid (below_on BB2.out b)
  clear b
  have nn := SP.out.start room Ao B co cb Lo p _ Oo.out HP.out HV.out
  rw [HFo.out, HR.out] at nn
  have NN := Lib.hid nn
  clear nn
  have cY70 := Y7.out.cell (i := 0) rfl
  have cY71 := Y7.out.cell (i := 1) rfl
  go_wp2_with fail
  refine NN.out.mono ?_
  clear NN
  intro e xp h
  obtain ⟨Ap, cp, Lp, rfl, hO, hf, b⟩ := h.open
  clear h
  clear cY70 cY71
  replace HP := Lib.hid (HP.out.later b)
  replace HV := Lib.hid (HV.out.later b)
  replace HD := Lib.hid (HD.out.later b)
  replace Y3 := Lib.hid (Y3.out.later b)
  replace Oo := Lib.hid (Oo.out.later b)
  replace Y7 := Lib.hid (Y7.out.later b)
  have Op := Lib.hid (hO.oneD)
  have HFp := Lib.hid hf
  have BB3 := Lib.hid (below_on BB2a.out b)
  clear b hO hf
  have b := below_new (Below.refl xp.heap.size xp) (.cells #[.int .i64 rm, .slice Ap Lp.length cp] 24)
  replace HP := Lib.hid (HP.out.later b)
  replace HV := Lib.hid (HV.out.later b)
  replace HD := Lib.hid (HD.out.later b)
  replace Y3 := Lib.hid (Y3.out.later b)
  replace Oo := Lib.hid (Oo.out.later b)
  replace Y7 := Lib.hid (Y7.out.later b)
  replace Op := Lib.hid (Op.out.later b)
  have Y8 := Lib.hid (Blk.new xp 24 #[.int .i64 rm, .slice Ap Lp.length cp])
  have BB3a := Lib.hid (below_on BB3.out b)
  clear b
  have nn := rstart_any room A B c cb L p _ HD.out HP.out
  rw [HR.out] at nn
  have NN := Lib.hid nn
  clear nn
  have cY30 := Y3.out.cell (i := 0) rfl
  have cY31 := Y3.out.cell (i := 1) rfl
  go_wp2_with fail
  refine NN.out.mono ?_
  clear NN
  intro e xq h
  obtain ⟨Aq, cq, Lq, rfl, hO, hf, b⟩ := h.open
  clear h
  clear cY30 cY31
  replace HP := Lib.hid (HP.out.later b)
  replace HV := Lib.hid (HV.out.later b)
  replace HD := Lib.hid (HD.out.later b)
  replace Y3 := Lib.hid (Y3.out.later b)
  replace Oo := Lib.hid (Oo.out.later b)
  replace Y7 := Lib.hid (Y7.out.later b)
  replace Op := Lib.hid (Op.out.later b)
  replace Y8 := Lib.hid (Y8.out.later b)
  have Oq := Lib.hid (hO.oneD)
  have HFq := Lib.hid hf
  have BB4 := Lib.hid (below_on BB3a.out b)
  clear b hO hf
  have b := below_new (Below.refl xq.heap.size xq) (.cells #[.int .i64 rm, .slice Aq Lq.length cq] 24)
  replace HP := Lib.hid (HP.out.later b)
  replace HV := Lib.hid (HV.out.later b)
  replace HD := Lib.hid (HD.out.later b)
  replace Y3 := Lib.hid (Y3.out.later b)
  replace Oo := Lib.hid (Oo.out.later b)
  replace Y7 := Lib.hid (Y7.out.later b)
  replace Op := Lib.hid (Op.out.later b)
  replace Y8 := Lib.hid (Y8.out.later b)
  replace Oq := Lib.hid (Oq.out.later b)
  have Y10 := Lib.hid (Blk.new xq 24 #[.int .i64 rm, .slice Aq Lq.length cq])
  have BB4a := Lib.hid (below_on BB4.out b)
  clear b
  have nn := SP.out.drop room Ao co Lo _ Oo.out
  rw [HFo.out, HR2.out] at nn
  have NN := Lib.hid nn
  clear nn
  have cY70 := Y7.out.cell (i := 0) rfl
  have cY71 := Y7.out.cell (i := 1) rfl
  go_wp2_with fail
  refine NN.out.mono ?_
  clear NN
  intro e xs h
  obtain ⟨As, cs, Ls, rfl, hO, hf, b⟩ := h.open
  clear h
  clear cY70 cY71
  replace HP := Lib.hid (HP.out.later b)
  replace HV := Lib.hid (HV.out.later b)
  replace HD := Lib.hid (HD.out.later b)
  replace Y3 := Lib.hid (Y3.out.later b)
  replace Oo := Lib.hid (Oo.out.later b)
  replace Y7 := Lib.hid (Y7.out.later b)
  replace Op := Lib.hid (Op.out.later b)
  replace Y8 := Lib.hid (Y8.out.later b)
  replace Oq := Lib.hid (Oq.out.later b)
  replace Y10 := Lib.hid (Y10.out.later b)
  have Os := Lib.hid (hO)
  have HFs := Lib.hid hf
  have BB5 := Lib.hid (below_on BB4a.out b)
  clear b hO hf
  have b := below_new (Below.refl xs.heap.size xs) (.cells #[.int .i64 rm2, .slice As Ls.length cs] 24)
  replace HP := Lib.hid (HP.out.later b)
  replace HV := Lib.hid (HV.out.later b)
  replace HD := Lib.hid (HD.out.later b)
  replace Y3 := Lib.hid (Y3.out.later b)
  replace Oo := Lib.hid (Oo.out.later b)
  replace Y7 := Lib.hid (Y7.out.later b)
  replace Op := Lib.hid (Op.out.later b)
  replace Y8 := Lib.hid (Y8.out.later b)
  replace Oq := Lib.hid (Oq.out.later b)
  replace Y10 := Lib.hid (Y10.out.later b)
  replace Os := Lib.hid (Os.out.later b)
  have Y12 := Lib.hid (Blk.new xs 24 #[.int .i64 rm2, .slice As Ls.length cs])
  have BB5a := Lib.hid (below_on BB5.out b)
  clear b
  have nn := rdrop_any room A c L _ HD.out
  rw [HR2.out] at nn
  have NN := Lib.hid nn
  clear nn
  have cY30 := Y3.out.cell (i := 0) rfl
  have cY31 := Y3.out.cell (i := 1) rfl
  go_wp2_with fail
  refine NN.out.mono ?_
  clear NN
  intro e xt h
  obtain ⟨At, ct, Lt, rfl, hO, hf, b⟩ := h.open
  clear h
  clear cY30 cY31
  replace HP := Lib.hid (HP.out.later b)
  replace HV := Lib.hid (HV.out.later b)
  replace HD := Lib.hid (HD.out.later b)
  replace Y3 := Lib.hid (Y3.out.later b)
  replace Oo := Lib.hid (Oo.out.later b)
  replace Y7 := Lib.hid (Y7.out.later b)
  replace Op := Lib.hid (Op.out.later b)
  replace Y8 := Lib.hid (Y8.out.later b)
  replace Oq := Lib.hid (Oq.out.later b)
  replace Y10 := Lib.hid (Y10.out.later b)
  replace Os := Lib.hid (Os.out.later b)
  replace Y12 := Lib.hid (Y12.out.later b)
  have Ot := Lib.hid (hO)
  have HFt := Lib.hid hf
  have BB6 := Lib.hid (below_on BB5a.out b)
  clear b hO hf
  have b := below_new (Below.refl xt.heap.size xt) (.cells #[.int .i64 rm2, .slice At Lt.length ct] 24)
  replace HP := Lib.hid (HP.out.later b)
  replace HV := Lib.hid (HV.out.later b)
  replace HD := Lib.hid (HD.out.later b)
  replace Y3 := Lib.hid (Y3.out.later b)
  replace Oo := Lib.hid (Oo.out.later b)
  replace Y7 := Lib.hid (Y7.out.later b)
  replace Op := Lib.hid (Op.out.later b)
  replace Y8 := Lib.hid (Y8.out.later b)
  replace Oq := Lib.hid (Oq.out.later b)
  replace Y10 := Lib.hid (Y10.out.later b)
  replace Os := Lib.hid (Os.out.later b)
  replace Y12 := Lib.hid (Y12.out.later b)
  replace Ot := Lib.hid (Ot.out.later b)
  have Y14 := Lib.hid (Blk.new xt 24 #[.int .i64 rm2, .slice At Lt.length ct])
  have BB6a := Lib.hid (below_on BB6.out b)
  clear b
  have nn := rsameD_any rm rm Ap Aq cp cq Lp Lq _ Op.out Oq.out
  rw [decide_eq_true (show rm = rm ∧ Lp.map Fc.fi = Lq.map Fc.fi from ⟨rfl, by rw [HFp.out, HFq.out]⟩)] at nn
  have NN := Lib.hid nn
  clear nn
  have cY80 := Y8.out.cell (i := 0) rfl
  have cY81 := Y8.out.cell (i := 1) rfl
  have cY100 := Y10.out.cell (i := 0) rfl
  have cY101 := Y10.out.cell (i := 1) rfl
  go_wp2_with fail
  refine NN.out.mono ?_
  clear NN
  rintro e x7 ⟨rfl, b⟩
  clear cY80 cY81 cY100 cY101
  replace HP := Lib.hid (HP.out.later b)
  replace HV := Lib.hid (HV.out.later b)
  replace HD := Lib.hid (HD.out.later b)
  replace Y3 := Lib.hid (Y3.out.later b)
  replace Oo := Lib.hid (Oo.out.later b)
  replace Y7 := Lib.hid (Y7.out.later b)
  replace Op := Lib.hid (Op.out.later b)
  replace Y8 := Lib.hid (Y8.out.later b)
  replace Oq := Lib.hid (Oq.out.later b)
  replace Y10 := Lib.hid (Y10.out.later b)
  replace Os := Lib.hid (Os.out.later b)
  replace Y12 := Lib.hid (Y12.out.later b)
  replace Ot := Lib.hid (Ot.out.later b)
  replace Y14 := Lib.hid (Y14.out.later b)
  have BB7 := Lib.hid (below_on BB6a.out b)
  clear b
  have nn := rsameD_any rm2 rm2 As At cs ct Ls Lt _ Os.out Ot.out
  rw [decide_eq_true (show rm2 = rm2 ∧ Ls.map Fc.fi = Lt.map Fc.fi from ⟨rfl, by rw [HFs.out, HFt.out]⟩)] at nn
  have NN := Lib.hid nn
  clear nn
  have cY120 := Y12.out.cell (i := 0) rfl
  have cY121 := Y12.out.cell (i := 1) rfl
  have cY140 := Y14.out.cell (i := 0) rfl
  have cY141 := Y14.out.cell (i := 1) rfl
  go_wp2_with fail
  refine NN.out.mono ?_
  clear NN
  rintro e x8 ⟨rfl, b⟩
  clear cY120 cY121 cY140 cY141
  replace HP := Lib.hid (HP.out.later b)
  replace HV := Lib.hid (HV.out.later b)
  replace HD := Lib.hid (HD.out.later b)
  replace Y3 := Lib.hid (Y3.out.later b)
  replace Oo := Lib.hid (Oo.out.later b)
  replace Y7 := Lib.hid (Y7.out.later b)
  replace Op := Lib.hid (Op.out.later b)
  replace Y8 := Lib.hid (Y8.out.later b)
  replace Oq := Lib.hid (Oq.out.later b)
  replace Y10 := Lib.hid (Y10.out.later b)
  replace Os := Lib.hid (Os.out.later b)
  replace Y12 := Lib.hid (Y12.out.later b)
  replace Ot := Lib.hid (Ot.out.later b)
  replace Y14 := Lib.hid (Y14.out.later b)
  have BB8 := Lib.hid (below_on BB7.out b)
  clear b
  have nn := rsameD_any room room Ao A co c Lo L _ Oo.out HD.out
  rw [decide_eq_true (show room = room ∧ Lo.map Fc.fi = L.map Fc.fi from ⟨rfl, HFo.out⟩)] at nn
  have NN := Lib.hid nn
  clear nn
  have cY70 := Y7.out.cell (i := 0) rfl
  have cY71 := Y7.out.cell (i := 1) rfl
  have cY30 := Y3.out.cell (i := 0) rfl
  have cY31 := Y3.out.cell (i := 1) rfl
  go_wp2_with fail
  refine NN.out.mono ?_
  clear NN
  rintro e x9 ⟨rfl, b⟩
  clear cY70 cY71 cY30 cY31
  replace HP := Lib.hid (HP.out.later b)
  replace HV := Lib.hid (HV.out.later b)
  replace HD := Lib.hid (HD.out.later b)
  replace Y3 := Lib.hid (Y3.out.later b)
  replace Oo := Lib.hid (Oo.out.later b)
  replace Y7 := Lib.hid (Y7.out.later b)
  replace Op := Lib.hid (Op.out.later b)
  replace Y8 := Lib.hid (Y8.out.later b)
  replace Oq := Lib.hid (Oq.out.later b)
  replace Y10 := Lib.hid (Y10.out.later b)
  replace Os := Lib.hid (Os.out.later b)
  replace Y12 := Lib.hid (Y12.out.later b)
  replace Ot := Lib.hid (Ot.out.later b)
  replace Y14 := Lib.hid (Y14.out.later b)
  have BB9 := Lib.hid (below_on BB8.out b)
  clear b
  go_wp2
  go_ret
  exact ⟨rfl, BB9.out⟩

set_option maxRecDepth 100000 in
set_option maxHeartbeats 6400000 in
theorem lawJournalAppends_any (JS : JournalSpec) (room : Int) (A B : Option Addr) (c cb : Nat) (L : List Fc) (p : List Int) (w : World) (h : OneD w A c L) (hf : Fit L) (hp : OneB w B cb p) (hH : Halves w) :
    Calls Tryd.prog 3 #[.agg #[.int .i64 room, .slice A L.length c], .slice B p.length cb] w (Says (.bool true) w) := by
  obtain ⟨⟨rm, fs, k⟩, hR⟩ : ∃ r, Jn.appJR room (L.map Fc.fi) p = r := ⟨_, rfl⟩
  obtain ⟨q, hQ⟩ : ∃ q, Jn.lastR room (L.map Fc.fi) = q := ⟨_, rfl⟩
  have HR := Lib.hid hR; have HQ := Lib.hid hQ
  clear hR hQ
  have hpl := hp.len
  have b0 := below_new (Below.refl w.heap.size w) (.cells #[.int .i64 room, .slice A L.length c] 24)
  have HP := Lib.hid (hp.later b0)
  clear b0 hp
  have SP := Lib.hid JS
  clear JS
  have b := below_new (Below.refl w.heap.size w) (.cells #[.int .i64 room, .slice A L.length c] 24)
  have HV := Lib.hid (hH.later b)
  have HD := Lib.hid (h.later b)
  have Y3 := Lib.hid (Blk.new w 24 #[.int .i64 room, .slice A L.length c])
  have HFT := Lib.hid hf
  have BB0 := Lib.hid b
  clear b h hf hH
  go_enter Tryd.func3, Tryd.ntmps3
  have nn := jalive_any SP.out (w.alloc (.cells #[.int .i64 room, .slice A L.length c] 24)) HV.out
  have NN := Lib.hid nn
  clear nn
  go_wp2_with fail
  refine NN.out.mono ?_
  clear NN
  rintro e x1 ⟨rfl, b⟩
  replace HP := Lib.hid (HP.out.later b)
  replace HV := Lib.hid (HV.out.later b)
  replace HD := Lib.hid (HD.out.later b)
  replace Y3 := Lib.hid (Y3.out.later b)
  have BB1 := Lib.hid (below_on BB0.out b)
  clear b
  have nn := rcopyD_any room A c L _ HD.out HFT.out
  have NN := Lib.hid nn
  clear nn
  have cY30 := Y3.out.cell (i := 0) rfl
  have cY31 := Y3.out.cell (i := 1) rfl
  go_wp2_with fail
  refine NN.out.mono ?_
  clear NN
  rintro e xo ⟨v, Lo, rfl, hO, hf, b⟩
  obtain ⟨Ao, co, rfl, -⟩ := hO.one
  clear cY30 cY31
  replace HP := Lib.hid (HP.out.later b)
  replace HV := Lib.hid (HV.out.later b)
  replace HD := Lib.hid (HD.out.later b)
  replace Y3 := Lib.hid (Y3.out.later b)
  have Oo := Lib.hid (hO.oneD)
  have HFo := Lib.hid hf
  have BB2 := Lib.hid (below_on BB1.out b)
  clear b hO hf
  have b := below_new (Below.refl xo.heap.size xo) (.cells #[.int .i64 room, .slice Ao Lo.length co] 24)
  replace HP := Lib.hid (HP.out.later b)
  replace HV := Lib.hid (HV.out.later b)
  replace HD := Lib.hid (HD.out.later b)
  replace Y3 := Lib.hid (Y3.out.later b)
  replace Oo := Lib.hid (Oo.out.later b)
  have Y7 := Lib.hid (Blk.new xo 24 #[.int .i64 room, .slice Ao Lo.length co])
  have BB2a := Lib.hid (below_on BB2.out b)
  clear b
  have nn := SP.out.append room Ao B co cb Lo p _ Oo.out HP.out HV.out
  rw [HFo.out, HR.out] at nn
  have NN := Lib.hid nn
  clear nn
  have cY70 := Y7.out.cell (i := 0) rfl
  have cY71 := Y7.out.cell (i := 1) rfl
  go_wp2_with fail
  refine NN.out.mono ?_
  clear NN
  intro e xp h
  obtain ⟨Ap, cp, Lp, rfl, hO, hf, b⟩ := h.open
  clear h
  clear cY70 cY71
  replace HP := Lib.hid (HP.out.later b)
  replace HV := Lib.hid (HV.out.later b)
  replace HD := Lib.hid (HD.out.later b)
  replace Y3 := Lib.hid (Y3.out.later b)
  replace Oo := Lib.hid (Oo.out.later b)
  replace Y7 := Lib.hid (Y7.out.later b)
  have Op := Lib.hid (hO.oneD)
  have HFp := Lib.hid hf
  have BB3 := Lib.hid (below_on BB2a.out b)
  clear b hO hf
  have b := below_new (Below.refl xp.heap.size xp) (.cells #[.int .i64 rm, .slice Ap Lp.length cp] 24)
  replace HP := Lib.hid (HP.out.later b)
  replace HV := Lib.hid (HV.out.later b)
  replace HD := Lib.hid (HD.out.later b)
  replace Y3 := Lib.hid (Y3.out.later b)
  replace Oo := Lib.hid (Oo.out.later b)
  replace Y7 := Lib.hid (Y7.out.later b)
  replace Op := Lib.hid (Op.out.later b)
  have Y8 := Lib.hid (Blk.new xp 24 #[.int .i64 rm, .slice Ap Lp.length cp])
  have BB3a := Lib.hid (below_on BB3.out b)
  clear b
  have nn := rappJ_any room A B c cb L p _ HD.out HP.out
  rw [HR.out] at nn
  have NN := Lib.hid nn
  clear nn
  have cY30 := Y3.out.cell (i := 0) rfl
  have cY31 := Y3.out.cell (i := 1) rfl
  go_wp2_with fail
  refine NN.out.mono ?_
  clear NN
  intro e xq h
  obtain ⟨Aq, cq, Lq, rfl, hO, hf, b⟩ := h.open
  clear h
  clear cY30 cY31
  replace HP := Lib.hid (HP.out.later b)
  replace HV := Lib.hid (HV.out.later b)
  replace HD := Lib.hid (HD.out.later b)
  replace Y3 := Lib.hid (Y3.out.later b)
  replace Oo := Lib.hid (Oo.out.later b)
  replace Y7 := Lib.hid (Y7.out.later b)
  replace Op := Lib.hid (Op.out.later b)
  replace Y8 := Lib.hid (Y8.out.later b)
  have Oq := Lib.hid (hO.oneD)
  have HFq := Lib.hid hf
  have BB4 := Lib.hid (below_on BB3a.out b)
  clear b hO hf
  have b := below_new (Below.refl xq.heap.size xq) (.cells #[.int .i64 rm, .slice Aq Lq.length cq] 24)
  replace HP := Lib.hid (HP.out.later b)
  replace HV := Lib.hid (HV.out.later b)
  replace HD := Lib.hid (HD.out.later b)
  replace Y3 := Lib.hid (Y3.out.later b)
  replace Oo := Lib.hid (Oo.out.later b)
  replace Y7 := Lib.hid (Y7.out.later b)
  replace Op := Lib.hid (Op.out.later b)
  replace Y8 := Lib.hid (Y8.out.later b)
  replace Oq := Lib.hid (Oq.out.later b)
  have Y10 := Lib.hid (Blk.new xq 24 #[.int .i64 rm, .slice Aq Lq.length cq])
  have BB4a := Lib.hid (below_on BB4.out b)
  clear b
  have hs1 := fun d os => Lib.hid (Calls.regrown_of (rsameD_any rm rm Ap Aq cp cq Lp Lq (Sort.grow (redrawn (xq.alloc (.cells #[.int .i64 rm, .slice Aq Lq.length cq] 24)) d) os) (Op.out.later (below_regrown (xq.alloc (.cells #[.int .i64 rm, .slice Aq Lq.length cq] 24)) d os)) (Oq.out.later (below_regrown (xq.alloc (.cells #[.int .i64 rm, .slice Aq Lq.length cq] 24)) d os))))
  rw [decide_eq_true (show rm = rm ∧ Lp.map Fc.fi = Lq.map Fc.fi from ⟨rfl, by rw [HFp.out, HFq.out]⟩)] at hs1
  have hs2 := fun d os => Lib.hid (Calls.regrown_of (rsameD_any room room Ao A co c Lo L (Sort.grow (redrawn (xq.alloc (.cells #[.int .i64 rm, .slice Aq Lq.length cq] 24)) d) os) (Oo.out.later (below_regrown (xq.alloc (.cells #[.int .i64 rm, .slice Aq Lq.length cq] 24)) d os)) (HD.out.later (below_regrown (xq.alloc (.cells #[.int .i64 rm, .slice Aq Lq.length cq] 24)) d os))))
  rw [decide_eq_true (show room = room ∧ Lo.map Fc.fi = L.map Fc.fi from ⟨rfl, HFo.out⟩)] at hs2
  have hs3 := fun d os => Lib.hid (Calls.regrown_of (SP.out.last room A c L (Sort.grow (redrawn (xq.alloc (.cells #[.int .i64 rm, .slice Aq Lq.length cq] 24)) d) os) (HD.out.later (below_regrown (xq.alloc (.cells #[.int .i64 rm, .slice Aq Lq.length cq] 24)) d os))))
  have hs4 := fun d os => Lib.hid (Calls.regrown_of (rlast_any room A c L (Sort.grow (redrawn (xq.alloc (.cells #[.int .i64 rm, .slice Aq Lq.length cq] 24)) d) os) (HD.out.later (below_regrown (xq.alloc (.cells #[.int .i64 rm, .slice Aq Lq.length cq] 24)) d os))))
  rw [HQ.out] at hs3 hs4
  have k30 := fun d os => cell_regrown (d := d) (os := os) (Y3.out.cell (i := 0) rfl)
  have k31 := fun d os => cell_regrown (d := d) (os := os) (Y3.out.cell (i := 1) rfl)
  have k70 := fun d os => cell_regrown (d := d) (os := os) (Y7.out.cell (i := 0) rfl)
  have k71 := fun d os => cell_regrown (d := d) (os := os) (Y7.out.cell (i := 1) rfl)
  have k80 := fun d os => cell_regrown (d := d) (os := os) (Y8.out.cell (i := 0) rfl)
  have k81 := fun d os => cell_regrown (d := d) (os := os) (Y8.out.cell (i := 1) rfl)
  have k100 := fun d os => cell_regrown (d := d) (os := os) (Y10.out.cell (i := 0) rfl)
  have k101 := fun d os => cell_regrown (d := d) (os := os) (Y10.out.cell (i := 1) rfl)
  go_wp2_with fail
  refine wp_region_quiet_below (by kernel_rfl) (by kernel_rfl) ?_
  repeat (first | go_big_quiet_step (first | with_reducible exact (hs1 _ _).out | with_reducible exact (hs2 _ _).out | with_reducible exact (hs3 _ _).out | with_reducible exact (hs4 _ _).out) | quiet_step (first | with_reducible exact (hs1 _ _).out | with_reducible exact (hs2 _ _).out | with_reducible exact (hs3 _ _).out | with_reducible exact (hs4 _ _).out))
  refine wpQuiet_nil ?_
  intro _ hw'
  obtain ⟨⟨dq, osq⟩, hw''⟩ := hw'
  subst hw''
  have bq := below_regrown (xq.alloc (.cells #[.int .i64 rm, .slice Aq Lq.length cq] 24)) dq osq
  have BQ := Lib.hid (below_on BB4a.out bq)
  clear hs1 hs2 hs3 hs4 k30 k31 k70 k71 k80 k81 k100 k101 bq
  go_wp2
  go_ret
  exact ⟨rfl, BQ.out⟩
end Go.Proofs.YtkhggofcbdcliaaDoor
