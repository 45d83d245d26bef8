/-
  What telltaleref08's Get and Sync answer.
-/
import Derived.Test.YtgjcpdcepmgafaaDkDevB
import Derived.Test.YtgjcpdcepmgafaaDkRCopy
namespace Go.Proofs.Ytgjcpdcepmgafaa
open Go.RowKit

/-- One file of a list in memory of the call's own is laid anew. -/
theorem OwnD.upd {w w' : World} {n0 g N cap i : Nat} {t e : TypeId} {L : List Fc} {f f' : Fc} (hne : t ≠ e) (h : OwnD w n0 t e (.slice (some ⟨g, 0, none⟩) N cap) L) (hN : L.length = N) (hf : L[i]? = some f)
    (row : w'.ownsRow n0 t 3 (.slice (some ⟨g, 0, none⟩) N cap) N (fCells (L.set i f'))) (own : OwnB w' n0 e f') (blk : f'.blk = f.blk) (rest : ∀ b, b < w.heap.size → b ≠ g → f.blk ≠ some b → w'.heap[b]? = w.heap[b]?) : OwnD w' n0 t e (.slice (some ⟨g, 0, none⟩) N cap) (L.set i f') := by
  have hi : i < L.length := (List.getElem?_eq_some_iff.1 hf).1
  have hrow : w.ownsRow n0 t 3 (.slice (some ⟨g, 0, none⟩) N cap) L.length (fCells L) := h.row
  have ap : ∀ (j : Nat) (x : Fc) (b : Nat), j ≠ i → L[j]? = some x → x.blk = some b → f.blk ≠ some b := fun j x b hj hx hb => by
    rcases Nat.lt_or_gt_of_ne hj with h1 | h1
    · exact h.apart j i x f b h1 hx hf hb
    · intro h2
      exact h.apart i j f x b h1 hf hx h2 hb
  refine ⟨by rw [List.length_set, hN]; exact row, fun x hx => ?_, fun j k x y b hjk hx hy hxb => ?_⟩
  · obtain ⟨j, hj⟩ := List.getElem?_of_mem hx
    by_cases ej : j = i
    · subst ej
      rw [List.getElem?_set_self hi] at hj
      cases hj
      exact own
    · rw [List.getElem?_set_ne (fun e2 => ej e2.symm)] at hj
      have hO := h.each x (List.mem_of_getElem? hj)
      refine hO.stays fun b hb => rest b (hO.lt b hb).2 (fun e2 => ?_) (ap j x b ej hj hb)
      subst e2
      subst hN
      exact hO.off_row hrow hne hb
  · by_cases e1 : j = i
    · subst e1
      rw [List.getElem?_set_self hi] at hx
      cases hx
      rw [List.getElem?_set_ne (by omega)] at hy
      rw [blk] at hxb
      exact h.apart j k f y b hjk hf hy hxb
    · rw [List.getElem?_set_ne (fun e2 => e1 e2.symm)] at hx
      by_cases e2 : k = i
      · subst e2
        rw [List.getElem?_set_self hi] at hy
        cases hy
        rw [blk]
        exact h.apart j k x f b hjk hx hf hxb
      · rw [List.getElem?_set_ne (fun e3 => e2 e3.symm)] at hy
        exact h.apart j k x y b hjk hx hy hxb
/-- Its number of sure bytes, in place. -/
theorem OwnD.put2 {w : World} {n0 g cap i : Nat} {t e : TypeId} {L : List Fc} {f : Fc} (hne : t ≠ e) (h : OwnD w n0 t e (.slice (some ⟨g, 0, none⟩) L.length cap) L) (hf : L[i]? = some f) (s : Int) : OwnD (w.setCell ⟨g, i * 3 + 2, none⟩ (.int .i64 s)) n0 t e (.slice (some ⟨g, 0, none⟩) L.length cap) (L.set i { f with s := s }) :=
  have ho := h.each f (List.mem_of_getElem? hf)
  have hrow : w.ownsRow n0 t 3 (.slice (some ⟨g, 0, none⟩) L.length cap) L.length (fCells L) := h.row
  have hb := ho.off_row hrow hne
  h.upd hne rfl hf (row_put2 hrow hf s) ((ho.num f.num s).far (p := ⟨g, i * 3 + 2, none⟩) hb _) rfl (fun _ _ h1 _ => Below.heap_setCell _ _ _ _ h1)
/-- Its first bytes alone, in place. -/
theorem OwnD.put1 {w : World} {n0 g cap i : Nat} {t e : TypeId} {L : List Fc} {f : Fc} (hne : t ≠ e) (h : OwnD w n0 t e (.slice (some ⟨g, 0, none⟩) L.length cap) L) (hf : L[i]? = some f) (n : Nat) (hn : n ≤ f.l.length) : OwnD (w.setCell ⟨g, i * 3 + 1, none⟩ (.slice f.X n f.c)) n0 t e (.slice (some ⟨g, 0, none⟩) L.length cap) (L.set i { f with l := f.l.take n }) :=
  have ho := h.each f (List.mem_of_getElem? hf)
  have hrow : w.ownsRow n0 t 3 (.slice (some ⟨g, 0, none⟩) L.length cap) L.length (fCells L) := h.row
  have hb := ho.off_row hrow hne
  have hr := row_put1 hrow hf f.X f.c (f.l.take n)
  have hln : (f.l.take n).length = n := by rw [List.length_take]; omega
  h.upd hne rfl hf (by rw [hln] at hr; exact hr) ((ho.cut n f.c hn (Nat.le_trans hn ho.le) (Nat.le_refl _)).far (p := ⟨g, i * 3 + 1, none⟩) hb _) rfl (fun _ _ h1 _ => Below.heap_setCell _ _ _ _ h1)

/-- One file more has become what G says. -/
theorem map_step {G : Fi → Fi} {A : List Fi} {M : List Fc} {k : Nat} {x f' : Fc} (h : M.map Fc.fi = (A.take k).map G ++ A.drop k) (hk : k < A.length) (hx : M[k]? = some x) (hG : f'.fi = G x.fi) : (M.set k f').map Fc.fi = (A.take (k + 1)).map G ++ A.drop (k + 1) ∧ x.fi = A[k] := by
  have hxx : x.fi = A[k] := by
    have h1 : (M.map Fc.fi)[k]? = some x.fi := by rw [List.getElem?_map, hx]; rfl
    rw [h, List.getElem?_append_right (by simp; omega)] at h1
    simp only [List.length_map, List.length_take, Nat.min_eq_left (Nat.le_of_lt hk), Nat.sub_self] at h1
    rw [List.getElem?_drop, Nat.add_zero, List.getElem?_eq_getElem hk] at h1
    exact (Option.some.inj h1).symm
  refine ⟨?_, hxx⟩
  apply List.ext_getElem?
  intro j
  have hj : (M.map Fc.fi)[j]? = ((A.take k).map G ++ A.drop k)[j]? := by rw [h]
  rw [List.getElem?_map] at hj ⊢
  have hlk : ((A.take k).map G).length = k := by rw [List.length_map, List.length_take]; omega
  have hlk1 : ((A.take (k + 1)).map G).length = k + 1 := by rw [List.length_map, List.length_take]; omega
  by_cases e : k = j
  · subst e
    rw [List.getElem?_set_self (List.getElem?_eq_some_iff.1 hx).1, List.getElem?_append_left (by omega), List.getElem?_map, List.getElem?_take_of_lt (by omega), List.getElem?_eq_getElem hk]
    simp [hG, hxx]
  · rw [List.getElem?_set_ne e, hj]
    by_cases e2 : j < k
    · rw [List.getElem?_append_left (by omega), List.getElem?_append_left (by omega), List.getElem?_map, List.getElem?_map, List.getElem?_take_of_lt e2, List.getElem?_take_of_lt (by omega)]
    · rw [List.getElem?_append_right (by omega), List.getElem?_append_right (by omega), hlk, hlk1, List.getElem?_drop, List.getElem?_drop]
      congr 1
      omega

set_option maxRecDepth 100000 in
set_option maxHeartbeats 3200000 in
theorem rget_any (room n : Int) (A : Option Addr) (c : Nat) (L : List Fc) (w : World) (h : OneD w A c L) :
    Calls Try.prog 18 #[.agg #[.int .i64 room, .slice A L.length c], .int .i64 n] w (GivesG (Dk.getR room (L.map Fc.fi) n) w) := by
  have bn := below_new (Below.refl w.heap.size w) (.cells #[.int .i64 room, .slice A L.length c] 24)
  have N := Lib.hid (rformed_any room A c L _ (h.later bn))
  have B0 := Lib.hid (Blk.new w 24 #[.int .i64 room, .slice A L.length c])
  have HD := Lib.hid h
  clear h
  cases hq : Dk.fmd room (L.map Fc.fi) with
  | false =>
    have hR : Dk.getR room (L.map Fc.fi) n = ([], 1) := by unfold Dk.getR; rw [if_neg (by rw [hq]; exact Bool.false_ne_true)]
    rw [hR]
    rw [hq] at N
    clear hq hR HD B0
    go_enter Try.func18, Try.ntmps18
    go_wp2_with fail
    refine N.out.mono ?_
    rintro e w1 ⟨rfl, b1⟩
    go_wp2
    go_ret2
    exact ⟨_, rfl, ⟨rfl, .inl ⟨rfl, rfl⟩⟩, (fun _ h => by cases h), below_on bn b1⟩
  | true =>
    rw [hq] at N
    rcases Dk.ways n hq with ⟨at_, -, hf, hp⟩ | ⟨at_, x, -, hx, hxn, hf, hp⟩
    · have hR : Dk.getR room (L.map Fc.fi) n = ([], 16) := by unfold Dk.getR; rw [if_pos hq, hf]
      rw [hR]
      have HP := Lib.hid hp
      clear hq hf hR hp
      go_enter Try.func18, Try.ntmps18
      go_wp2_with fail
      refine N.out.mono ?_
      rintro e w1 ⟨rfl, b1⟩
      have bb := below_on bn b1
      have c0 := (B0.out.later b1).cell (i := 0) rfl
      have c1 := (B0.out.later b1).cell (i := 1) rfl
      have N2 := Lib.hid (rplace_any room n (-1) A c L w1 (HD.out.later bb) HP.out)
      go_wp2_with fail
      refine N2.out.mono ?_
      rintro e w2 ⟨rfl, b2⟩
      go_wp2
      go_ret2
      exact ⟨_, rfl, ⟨rfl, .inl ⟨rfl, rfl⟩⟩, (fun _ h => by cases h), below_on bb b2⟩
    · have hR : Dk.getR room (L.map Fc.fi) n = (x.l, 0) := by unfold Dk.getR; rw [if_pos hq, hf]; rfl
      rw [hR]
      have HP := Lib.hid hp
      have HX := Lib.hid hx
      have hfit := (Dk.fit hq).each x (List.mem_of_getElem? hx)
      have hlt := (List.getElem?_eq_some_iff.1 hx).1
      have hlen := HD.out.len
      clear hq hf hR hp hx hxn
      go_enter Try.func18, Try.ntmps18
      go_wp2_with fail
      refine N.out.mono ?_
      rintro e w1 ⟨rfl, b1⟩
      have bb := below_on bn b1
      have c0 := (B0.out.later b1).cell (i := 0) rfl
      have c1 := (B0.out.later b1).cell (i := 1) rfl
      have N2 := Lib.hid (rplace_any room n (at_ : Int) A c L w1 (HD.out.later bb) HP.out)
      go_wp2_with fail
      refine N2.out.mono ?_
      rintro e w2 ⟨rfl, b2⟩
      have c1' := cell_later b2 c1
      have hne : L ≠ [] := fun e => by subst e; simp at hlt
      obtain ⟨b, off, hA, hc⟩ := (HD.out.later (below_on bb b2)).at hne
      obtain ⟨e0, e1, e2⟩ := hc at_ x HX.out
      have N3 := Lib.hid (bcopy_any x.X x.c x.l w2 hfit ((HD.out.later (below_on bb b2)).one HX.out))
      have XB := Lib.hid (HD.out.one HX.out).byte
      have BB := Lib.hid (below_on bb b2)
      have hs := (below_on bb b2).size
      subst hA
      have hi0 : (0 : Int) ≤ (at_ : Int) := by omega
      have hi1 : (at_ : Int) < (L.length : Int) := by omega
      have hi2 : ¬ ((at_ : Int) < 0) := by omega
      clear hc hne c0 c1
      go_wp2_with fail
      refine N3.out.mono ?_
      rintro e w3 ⟨v, rfl, ho, b3⟩
      have HO := Lib.hid (own_base ho hs)
      clear ho
      go_wp2
      go_ret2
      exact ⟨_, rfl, HO.out, XB.out, below_on BB.out b3⟩

set_option maxRecDepth 100000 in
set_option maxHeartbeats 3200000 in
theorem rsync_any (room : Int) (A : Option Addr) (c : Nat) (L : List Fc) (w : World) (h : OneD w A c L) :
    Calls Try.prog 27 #[.agg #[.int .i64 room, .slice A L.length c]] w (GivesDE (Dk.synR room (L.map Fc.fi)) w) := by
  have bn := below_new (below_new (Below.refl w.heap.size w) (.cells #[.int .i64 room, .slice A L.length c] 24)) (.cells #[.int .i64 0, .slice none 0 0] 24)
  have N := Lib.hid (rformed_any room A c L _ (h.later bn))
  have B1 := Lib.hid (show Blk _ (w.heap.size + 1) 24 #[.int .i64 0, .slice none 0 0] from by simpa using Blk.new (w.alloc (.cells #[.int .i64 room, .slice A L.length c] 24)) 24 #[.int .i64 0, .slice none 0 0])
  have B0 := Lib.hid ((Blk.new w 24 #[.int .i64 room, .slice A L.length c]).alloc (.cells #[.int .i64 0, .slice none 0 0] 24))
  have HD := Lib.hid h
  clear h
  cases hq : Dk.fmd room (L.map Fc.fi) with
  | false =>
    have hR : Dk.synR room (L.map Fc.fi) = (0, [], 1) := by unfold Dk.synR; rw [if_neg (by rw [hq]; exact Bool.false_ne_true)]
    rw [hR]
    rw [hq] at N
    clear hq hR HD
    go_enter Try.func27, Try.ntmps27
    go_wp2_with fail
    refine N.out.mono ?_
    rintro e w1 ⟨rfl, b1⟩
    have z' := B1.out.later b1
    have y0 := z'.cell (i := 0) rfl
    have y1 := z'.cell (i := 1) rfl
    have s0 := z'.free 0
    have s1 := z'.free 1
    have hz := (z'.put 0 (.int .i64 0)).put 1 (.slice none 0 0)
    have z0 := Lib.hid (hz.cell (i := 0) rfl)
    have z1 := Lib.hid (hz.cell (i := 1) rfl)
    have hbz := ((below_on bn b1).setCell (p := ⟨w.heap.size + 1, 0, none⟩) (by show w.heap.size ≤ w.heap.size + 1; omega) (.int .i64 0)).setCell (p := ⟨w.heap.size + 1, 1, none⟩) (by show w.heap.size ≤ w.heap.size + 1; omega) (.slice none 0 0)
    have FIN := Lib.hid (GivesDE.err 1 hbz)
    clear z' hz hbz 
    go_wp2
    have z0 := z0.out
    have z1 := z1.out
    exact bodyPost_ret (v := .tuple #[.agg #[.int .i64 0, .slice none 0 0], .int .i64 1]) (by simp [results, Try.results27, go_sem, z0, z1]) rfl FIN.out
  | true =>
    have hR : Dk.synR room (L.map Fc.fi) = (room, (L.map Fc.fi).map Dk.syn1, 0) := by unfold Dk.synR; rw [if_pos hq]
    rw [hR]
    rw [hq] at N
    have HF := Lib.hid (Dk.fit hq)
    have hlen := Dk.len_le hq
    clear hq hR
    go_enter Try.func27, Try.ntmps27
    go_wp2_with fail
    refine N.out.mono ?_
    rintro e w1 ⟨rfl, b1⟩
    have bb := below_on bn b1
    have c0 := (B0.out.later b1).cell (i := 0) rfl
    have c1 := (B0.out.later b1).cell (i := 1) rfl
    have N2 := Lib.hid (rcopyD_any room A c L w1 (HD.out.later bb) HF.out)
    have Z := Lib.hid (B1.out.later b1)
    go_wp2_with fail
    refine N2.out.mono ?_
    rintro e w2 ⟨v, L2, rfl, hO, hfi, b2⟩
    have hl2 : L2.length = L.length := by have := congrArg List.length hfi; simpa using this
    obtain ⟨V, cv, rfl, -, hcm, -, -⟩ := own_form hO.row
    have bb2 := below_on bb b2
    have b3 := below_new bb2 (.cells #[.int .i64 room, .slice V L2.length cv] 24)
    have hs2 := b2.size
    have hzl := (Z.out).lt
    have O3 := Lib.hid (hO.later (below_new (Below.refl w2.heap.size w2) (.cells #[.int .i64 room, .slice V L2.length cv] 24)))
    have Z3 := Lib.hid ((Z.out.later b2).alloc (.cells #[.int .i64 room, .slice V L2.length cv] 24))
    have Y3 := Lib.hid (Blk.new w2 24 #[.int .i64 room, .slice V L2.length cv])
    have HB3 := Lib.hid b3
    have HFI := Lib.hid hfi
    have HL2 := Lib.hid hl2
    have hl2' : L2.length ≤ 1048577 := by omega
    clear hO hfi hl2 b3 bb2 b2
    go_wp2_with fail
    go_loopw [5] (fun s5 wr => ∃ (k : Nat) (M : List Fc), k ≤ L2.length ∧ s5 = .int .i64 (k : Int) ∧ OwnD wr w1.heap.size 43 5 (.slice V L2.length cv) M ∧ M.length = L2.length ∧ M.map Fc.fi = ((L2.map Fc.fi).take k).map Dk.syn1 ++ (L2.map Fc.fi).drop k ∧ Blk wr w2.heap.size 24 #[.int .i64 room, .slice V L2.length cv] ∧ Blk wr (w.heap.size + 1) 24 #[.int .i64 0, .slice none 0 0] ∧ Below w.heap.size w wr) (fun s5 _ => L2.length - (intOf s5).toNat)
    case atStart => exact ⟨0, L2, Nat.zero_le _, rfl, O3.out, rfl, by simp, Y3.out, Z3.out, HB3.out⟩
    case round =>
      obtain ⟨k, M, hk, rfl, hO, hM, hfi, hY, hZ, hbw⟩ := hrel
      have y1 := hY.cell (i := 1) rfl
      by_cases hlt : k < L2.length
      · obtain ⟨g, cap, hgv⟩ := own_len hO.row (by omega)
        injection hgv with hV h2 h3
        subst hV h3
        obtain ⟨x, hx⟩ : ∃ x, M[k]? = some x := ⟨M[k]'(by omega), List.getElem?_eq_getElem (by omega)⟩
        have hrow : wr.ownsRow w1.heap.size 43 3 (.slice (some ⟨g, 0, none⟩) M.length cv) M.length (fCells M) := by rw [hM]; have := hO.row; rw [hM] at this; exact this
        obtain ⟨q0, q1, q2, q3, q4⟩ := row_cells hrow hx
        have hg := own_base_le hrow
        have hi0 : (0 : Int) ≤ (k : Int) := by omega
        have hi1 : (k : Int) < (L2.length : Int) := by omega
        have hOd : OwnD wr.drew w1.heap.size 43 5 (.slice (some ⟨g, 0, none⟩) M.length cv) M := by rw [hM]; exact hO.later (Below.refl _ _).drew
        have hn := hOd.put2 (by decide) hx (x.l.length : Int)
        rw [hM] at hn
        have HNX := Lib.hid hn
        have HY := Lib.hid ((show Blk wr.drew w2.heap.size 24 _ from hY).far (p := ⟨g, k * 3 + 2, none⟩) (by
          show w2.heap.size ≠ g
          intro e
          subst e
          have h1 := hY
          rcases hrow.2 with ⟨h2, _⟩ | ⟨g', cap', cur', h2, _, h3, _⟩
          · cases h2
          · injection h2 with h2
            injection h2 with h2
            injection h2 with h2
            subst h2
            unfold Blk at h1
            rw [h1] at h3
            injection h3 with h3
            injection h3 with _ h3
            exact absurd h3 (by decide)) (.int .i64 (x.l.length : Int)))
        have HZ := Lib.hid ((show Blk wr.drew (w.heap.size + 1) 24 _ from hZ).far (p := ⟨g, k * 3 + 2, none⟩) (by show w.heap.size + 1 ≠ g; omega) (.int .i64 (x.l.length : Int)))
        have HBW := Lib.hid ((hbw.drew).setCell (p := ⟨g, k * 3 + 2, none⟩) (by have := bb.size; show w.heap.size ≤ g; omega) (.int .i64 (x.l.length : Int)))
        have HX := Lib.hid hx
        have HM := Lib.hid hM
        have HFI2 := Lib.hid hfi
        have H1 := Lib.hid (map_step (f' := { x with s := (x.l.length : Int) }) hfi (by rw [List.length_map]; exact hlt) hx rfl).1
        clear hO hM hfi hY hZ hx hrow hOd hn
        go_wp2_with fail
        go_region
        all_goals
          go_wp2_with fail
          go_roundw
          case rel => exact ⟨k + 1, _, by omega, by first | rfl | go_num, HNX.out, by rw [List.length_set]; exact HM.out, H1.out, HY.out, HZ.out, HBW.out⟩
          case measure => simp [intOf]; omega
      · have hd : decide ((k : Int) < (L2.length : Int)) = false := decide_eq_false (by omega)
        have x0 := hY.cell (i := 0) rfl
        have hfin : M.map Fc.fi = (L.map Fc.fi).map Dk.syn1 := by
          rw [hfi, List.take_of_length_le (by rw [List.length_map]; omega), List.drop_of_length_le (by rw [List.length_map]; omega), List.append_nil, HFI.out]
        clear hfi
        have z' := hZ
        have y0 := z'.cell (i := 0) rfl
        have y1 := z'.cell (i := 1) rfl
        have s0 := z'.free 0
        have s1 := z'.free 1
        have hz := (z'.put 0 (.int .i64 room)).put 1 (.slice V L2.length cv)
        have z0 := Lib.hid (hz.cell (i := 0) rfl)
        have z1 := Lib.hid (hz.cell (i := 1) rfl)
        have hbz := ((hbw).setCell (p := ⟨w.heap.size + 1, 0, none⟩) (by show w.heap.size ≤ w.heap.size + 1; omega) (.int .i64 room)).setCell (p := ⟨w.heap.size + 1, 1, none⟩) (by show w.heap.size ≤ w.heap.size + 1; omega) (.slice V L2.length cv)
        have hO2 := (((hO).low (p := ⟨w.heap.size + 1, 0, none⟩) (by show w.heap.size + 1 < _; omega) (.int .i64 room)).low (p := ⟨w.heap.size + 1, 1, none⟩) (by show w.heap.size + 1 < _; omega) (.slice V L2.length cv)).lower (base' := w.heap.size) (by omega)
        have FIN := Lib.hid (show GivesDE (room, (L.map Fc.fi).map Dk.syn1, 0) w (.returned (.tuple #[.agg #[.int .i64 room, .slice V L2.length cv], .int .i64 0])) _ from ⟨_, M, rfl, hO2, hfin, hbz⟩)
        clear z' hz hbz hO hfin hY hZ hO2
        go_wp2
        have z0 := z0.out
        have z1 := z1.out
        exact bodyPost_ret (v := .tuple #[.agg #[.int .i64 room, .slice V L2.length cv], .int .i64 0]) (by simp [results, Try.results27, go_sem, z0, z1]) rfl FIN.out
end Go.Proofs.Ytgjcpdcepmgafaa
