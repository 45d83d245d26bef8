/-
  What telltaleref08's Copy answers.
-/
import Derived.Test.YtgjcpdcepmgafaaDkCopy
import Derived.Test.YtgjcpdcepmgafaaDkHard
namespace Go.Proofs.Ytgjcpdcepmgafaa
open Go.RowKit

/-- A disk is answered, in memory of the call's own, each file's bytes in a block of theirs alone. -/
def GivesDH (room : Int) (fs : List Fi) (w : World) (e : Ending) (w' : World) : Prop :=
  ∃ v L, e = .returned (.agg #[.int .i64 room, v]) ∧ HardD w' w.heap.size 43 5 v L ∧ L.map Fc.fi = fs ∧ Below w.heap.size w w'

set_option maxRecDepth 100000 in
set_option maxHeartbeats 3200000 in
theorem rcopyDS_any (room : Int) (A : Option Addr) (c : Nat) (L : List Fc) (w : World) (h : OneD w A c L) (hf : Fit L) :
    Calls Try.prog 9 #[.agg #[.int .i64 room, .slice A L.length c]] w (GivesDH room (L.map Fc.fi) w) := by
  have hlen := hf.n
  obtain ⟨i0, hI, hz0, hz1, hz2⟩ := info_parts infoFi
  have hB := ((Blk.new w 24 #[.int .i64 room, .slice A L.length c]).alloc (.cells #[.int .i64 0, .slice none 0 0] 24)).alloc (.cells #[.int .i64 room, .slice none 0 0] 24)
  have hB1 := ((Blk.new (w.alloc (.cells #[.int .i64 room, .slice A L.length c] 24)) 24 #[.int .i64 0, .slice none 0 0])).alloc (.cells #[.int .i64 room, .slice none 0 0] 24)
  have hB2 := Blk.new ((w.alloc (.cells #[.int .i64 room, .slice A L.length c] 24)).alloc (.cells #[.int .i64 0, .slice none 0 0] 24)) 24 #[.int .i64 room, .slice none 0 0]
  have b0 := below_new (below_new (below_new (Below.refl w.heap.size w) (.cells #[.int .i64 room, .slice A L.length c] 24)) (.cells #[.int .i64 0, .slice none 0 0] 24)) (.cells #[.int .i64 room, .slice none 0 0] 24)
  have HB := Lib.hid hB
  have HB1 := Lib.hid (show Blk _ (w.heap.size + 1) 24 #[.int .i64 0, .slice none 0 0] from by simpa using hB1)
  have HB2 := Lib.hid (show Blk _ (w.heap.size + 1 + 1) 24 #[.int .i64 room, .slice none 0 0] from by simpa using hB2)
  have B0 := Lib.hid b0
  have HD := Lib.hid h
  have HF := Lib.hid hf.each
  clear h hf hB hB1 hB2 b0
  go_enter Try.func9, Try.ntmps9
  go_wp2_with fail
  go_loopw [4] (fun s4 wr => ∃ (k : Nat) (v : Value) (M : List Fc), k ≤ L.length ∧ s4 = .int .i64 (k : Int) ∧ HardD wr (w.heap.size + 3) 43 5 v M ∧ M.map Fc.fi = (L.take k).map Fc.fi ∧ M.length = k ∧ Blk wr w.heap.size 24 #[.int .i64 room, .slice A L.length c] ∧ Blk wr (w.heap.size + 1) 24 #[.int .i64 0, .slice none 0 0] ∧ Blk wr (w.heap.size + 1 + 1) 24 #[.int .i64 room, v] ∧ Below w.heap.size w wr) (fun s4 _ => L.length - (intOf s4).toNat)
  case atStart => exact ⟨0, _, [], Nat.zero_le _, rfl, HardD.nil _ _ _ _, rfl, rfl, HB.out, HB1.out, HB2.out, B0.out⟩
  case round =>
    obtain ⟨k, v, M, hk, rfl, hO, hfi, hMl, hD0, hD1, hD2, hbw⟩ := hrel
    obtain ⟨V, cv, rfl, -, hcm, -, -⟩ := own_form hO.own.row
    unfold maxLen at hcm
    have d01 := hD0.cell (i := 1) rfl
    have d21 := hD2.cell (i := 1) rfl
    have f21 := hD2.free 1
    by_cases hlt : k < L.length
    · have hne : L ≠ [] := fun e => by subst e; simp at hlt
      obtain ⟨b, off, hA, hc⟩ := (HD.out.later hbw).at hne
      obtain ⟨x, hx⟩ : ∃ x, L[k]? = some x := ⟨L[k], List.getElem?_eq_getElem hlt⟩
      obtain ⟨e0, e1, e2⟩ := hc k x hx
      subst hA
      have hi0 : (0 : Int) ≤ (k : Int) := by omega
      have hi1 : (k : Int) < (L.length : Int) := by omega
      obtain ⟨W1, hW1⟩ : ∃ W1, wr.alloc (.cells #[.int .i64 x.num, .slice x.X x.l.length x.c, .int .i64 x.s] 43) = W1 := ⟨_, rfl⟩
      have hb1 : Below wr.heap.size wr W1 := by rw [← hW1]; exact below_new (Below.refl _ _) _
      have hB1 : Blk W1 wr.heap.size 43 #[.int .i64 x.num, .slice x.X x.l.length x.c, .int .i64 x.s] := by rw [← hW1]; exact Blk.new wr _ _
      have hxo := ((HD.out.later hbw).later hb1).one hx
      have hxl := HF.out x (List.mem_of_getElem? hx)
      have x0 := Lib.hid (hB1.cell (i := 0) rfl)
      have x1 := Lib.hid (hB1.cell (i := 1) rfl)
      have x2 := Lib.hid (hB1.cell (i := 2) rfl)
      have y1 := Lib.hid (cell_later hb1 d21)
      have HW1 := Lib.hid hW1
      have HX := Lib.hid hx
      have XO := Lib.hid hxo
      have BB := Lib.hid hb1
      have HO := Lib.hid hO
      have HFI := Lib.hid hfi
      have D0 := Lib.hid hD0
      have D1 := Lib.hid hD1
      have D2 := Lib.hid hD2
      have HM := Lib.hid hMl
      clear hx hc hne hxo hb1 hB1 hW1 hO hfi hD0 hD1 hD2 hMl
      have PUSH := Lib.hid (fun (w' : World) (X' : Option Addr) (c' : Nat) (hb : Below W1.heap.size W1 w') (ho : OwnBS w' W1.heap.size 5 { x with X := X', c := c' }) (v2 : Value) (w2 : World) (hg : w'.grownBy w2 (Value.ownBlock (.slice V M.length cv)))
          (h2 : w2.ownsRow (w.heap.size + 3) 43 3 v2 (M.length + 1) (fCells M ++ [.int .i64 x.num, .slice X' x.l.length c', .int .i64 x.s])) =>
        (show HardD (w2.setCell ⟨w.heap.size + 1 + 1, 1, none⟩ v2) (w.heap.size + 3) 43 5 v2 (M ++ [{ x with X := X', c := c' }]) ∧ Blk (w2.setCell ⟨w.heap.size + 1 + 1, 1, none⟩ v2) w.heap.size 24 #[.int .i64 room, .slice (some ⟨b, off, none⟩) L.length c] ∧ Blk (w2.setCell ⟨w.heap.size + 1 + 1, 1, none⟩ v2) (w.heap.size + 1) 24 #[.int .i64 0, .slice none 0 0] ∧ Blk (w2.setCell ⟨w.heap.size + 1 + 1, 1, none⟩ v2) (w.heap.size + 1 + 1) 24 #[.int .i64 room, v2] ∧ Below w.heap.size w (w2.setCell ⟨w.heap.size + 1 + 1, 1, none⟩ v2) ∧ w2.cell? ⟨w.heap.size + 1 + 1, 1, none⟩ = some (.slice V M.length cv) ∧ w2.frozen? ⟨w.heap.size + 1 + 1, 1, none⟩ = false from by
          have bb := below_on BB.out hb
          have hs := bb.size
          have hs0 := BB.out.size
          have hs1 := hb.size
          have hD2lt := D2.out.lt
          obtain ⟨p1, p2, p3, p4, p5, p6, -⟩ := HardD.push (W := wr) (w' := w') (x := { x with X := X', c := c' }) (B := W1.heap.size) (by decide) HO.out D2.out (by omega) bb hs0 (by omega) ho hg h2
          have hge := p6
          refine ⟨p1, (p5 _ (by omega) (by omega) (by omega)).trans (D0.out.later bb), (p5 _ (by omega) (by omega) (by omega)).trans (D1.out.later bb), p2, ((below_on hbw bb).grown hg (by have := hbw.size; omega) (fun k hk => by have := hge k hk; omega)).setCell (by show w.heap.size ≤ w.heap.size + 1 + 1; omega) _, p3, p4⟩))
      have OWN := Lib.hid (fun (w' : World) (hb : Below W1.heap.size W1 w') => (HO.out.own.later (below_on BB.out hb)).row)
      have hMn : (M.length + 1) * 40 ≤ 140737488355328 := by have := HM.out; omega
      have hMs : w.heap.size + 3 ≤ W1.heap.size := by have := BB.out.size; have := D2.out.lt; omega
      clear D0 D1 D2 HO
      go_wp2_with fail
      rw [HW1.out]
      refine wp_region_facts 11 (by kernel_rfl) (by kernel_rfl)
        (fun v => { tmps := #[.agg #[.int .i64 room, .slice (some ⟨b, off, none⟩) L.length c], .pointer (some ⟨w.heap.size, 0, none⟩), .pointer (some ⟨w.heap.size + 1, 0, none⟩), .pointer (some ⟨w.heap.size + 1 + 1, 0, none⟩), .int .i64 (k : Int), .pointer (some ⟨wr.heap.size, 0, none⟩), .pointer (some ⟨w.heap.size, 0, none⟩), .int .i64 room, .agg #[.int .i64 room, .slice none 0 0], .int .i64 (k : Int), .pointer (some ⟨w.heap.size, 1, none⟩), .slice (some ⟨b, off, none⟩) L.length c, .int .i64 (L.length : Int), .bool true, u14, u15, .pointer (some ⟨w.heap.size, 1, none⟩), .slice (some ⟨b, off, none⟩) L.length c, .int .i64 (k : Int), .pointer (some ⟨b, off + k * 3, none⟩), .agg #[.int .i64 x.num, .slice x.X x.l.length x.c, .int .i64 x.s], v 0, v 1, v 2, v 3, v 4, v 5, v 6, v 7, v 8, v 9, v 10, u32, u33, undef], defers := [] }) (fun i => match i with | 0 => u21 | 1 => u22 | 2 => u23 | 3 => u24 | 4 => u25 | 5 => u26 | 6 => u27 | 7 => u28 | 8 => u29 | 9 => u30 | 10 => u31 | _ => undef)
        (fun i x_ wx => match i with
          | 0 => x_ = .pointer (some ⟨w.heap.size + 1 + 1, 1, none⟩)
          | 1 => x_ = .slice V M.length cv
          | 2 => x_ = .pointer (some ⟨wr.heap.size, 0, none⟩)
          | 3 => x_ = .int .i64 x.num
          | 4 => x_ = .pointer (some ⟨wr.heap.size, 1, none⟩)
          | 5 => x_ = .slice x.X x.l.length x.c
          | 6 => ∃ X' c', x_ = .slice X' x.l.length c' ∧ OwnBS wx W1.heap.size 5 { x with X := X', c := c' }
          | 7 => x_ = .pointer (some ⟨wr.heap.size, 2, none⟩)
          | 8 => x_ = .int .i64 x.s
          | 9 => ∃ X' c', x_ = .agg #[.int .i64 x.num, .slice X' x.l.length c', .int .i64 x.s] ∧ OwnBS wx W1.heap.size 5 { x with X := X', c := c' }
          | 10 => ∃ g X' c', x_ = .slice (some ⟨g, 0, none⟩) 1 1 ∧ Blk wx g 43 #[.int .i64 x.num, .slice X' x.l.length c', .int .i64 x.s] ∧ OwnBS wx W1.heap.size 5 { x with X := X', c := c' }
          | _ => True)
        (fun w1 w2 => Below w1.heap.size w1 w2) (fun h1 h2 => below_on h1 h2) (fun _ => Below.refl _ _) (Below.drew (Below.refl _ _)) ?stab ?step ?done
      case stab =>
        rintro i x_ w1 w2 h hb
        match i, h with
        | 0, h => exact h
        | 1, h => exact h
        | 2, h => exact h
        | 3, h => exact h
        | 4, h => exact h
        | 5, h => exact h
        | 6, h => obtain ⟨X', c', h1, h2⟩ := h; exact ⟨X', c', h1, h2.later hb⟩
        | 7, h => exact h
        | 8, h => exact h
        | 9, h => obtain ⟨X', c', h1, h2⟩ := h; exact ⟨X', c', h1, h2.later hb⟩
        | 10, h => obtain ⟨g, X', c', h1, h2, h3⟩ := h; exact ⟨g, X', c', h1, h2.later hb, h3.later hb⟩
        | i + 11, _ => trivial
      case step =>
        intro i hi v w' hb hd
        match i, hi with
        | 0, _ =>
          refine wpOp_one rfl ?_
          clear hd
          go_wp2
          first | exact ⟨_, (by simp [upd]; done), Below.refl _ _, rfl⟩ | exact ⟨(by simp [upd]; done), Below.refl _ _⟩
        | 1, _ =>
          have h0 : v 0 = _ := hd 0 (List.elem_iff.1 (by kernel_rfl))
          refine wpOp_one rfl ?_
          clear hd
          rw [h0]
          have q0 := cell_later hb y1.out
          go_wp2
          first | exact ⟨_, (by simp [upd, h0]; done), Below.refl _ _, rfl⟩ | exact ⟨(by simp [upd, h0]; done), Below.refl _ _⟩
        | 2, _ =>
          refine wpOp_one rfl ?_
          clear hd
          go_wp2
          first | exact ⟨_, (by simp [upd]; done), Below.refl _ _, rfl⟩ | exact ⟨(by simp [upd]; done), Below.refl _ _⟩
        | 3, _ =>
          have h2 : v 2 = _ := hd 2 (List.elem_iff.1 (by kernel_rfl))
          refine wpOp_one rfl ?_
          clear hd
          rw [h2]
          have q0 := cell_later hb x0.out
          go_wp2
          first | exact ⟨_, (by simp [upd, h2]; done), Below.refl _ _, rfl⟩ | exact ⟨(by simp [upd, h2]; done), Below.refl _ _⟩
        | 4, _ =>
          refine wpOp_one rfl ?_
          clear hd
          go_wp2
          first | exact ⟨_, (by simp [upd]; done), Below.refl _ _, rfl⟩ | exact ⟨(by simp [upd]; done), Below.refl _ _⟩
        | 5, _ =>
          have h4 : v 4 = _ := hd 4 (List.elem_iff.1 (by kernel_rfl))
          refine wpOp_one rfl ?_
          clear hd
          rw [h4]
          have q0 := cell_later hb x1.out
          go_wp2
          first | exact ⟨_, (by simp [upd, h4]; done), Below.refl _ _, rfl⟩ | exact ⟨(by simp [upd, h4]; done), Below.refl _ _⟩
        | 6, _ =>
          have h5 : v 5 = _ := hd 5 (List.elem_iff.1 (by kernel_rfl))
          refine wpOp_one rfl ?_
          clear hd
          rw [h5]
          have CL := bcopy_any x.X x.c x.l w' hxl (XO.out.later hb)
          have hsz := hb.size
          go_wp2_with fail
          refine CL.mono ?_
          rintro e w'' ⟨v2, rfl, ho, b2⟩
          obtain ⟨X', c', rfl, -, -, -, -⟩ := own_form ho
          have ON : OwnBS w'' w'.heap.size 5 { x with X := X', c := c' } := ⟨OwnB.of_own (f := { x with X := X', c := c' }) ho XO.out.byte, ho⟩
          go_wp2
          exact ⟨_, (by simp [upd, h5]; done), b2, X', c', rfl, ON.lower hsz⟩
        | 7, _ =>
          refine wpOp_one rfl ?_
          clear hd
          go_wp2
          first | exact ⟨_, (by simp [upd]; done), Below.refl _ _, rfl⟩ | exact ⟨(by simp [upd]; done), Below.refl _ _⟩
        | 8, _ =>
          have h7 : v 7 = _ := hd 7 (List.elem_iff.1 (by kernel_rfl))
          refine wpOp_one rfl ?_
          clear hd
          rw [h7]
          have q0 := cell_later hb x2.out
          go_wp2
          first | exact ⟨_, (by simp [upd, h7]; done), Below.refl _ _, rfl⟩ | exact ⟨(by simp [upd, h7]; done), Below.refl _ _⟩
        | 9, _ =>
          have h3 : v 3 = _ := hd 3 (List.elem_iff.1 (by kernel_rfl))
          obtain ⟨X6, c6, h6, o6⟩ := hd 6 (List.elem_iff.1 (by kernel_rfl))
          have h8 : v 8 = _ := hd 8 (List.elem_iff.1 (by kernel_rfl))
          refine wpOp_one rfl ?_
          clear hd
          rw [h3, h6, h8]
          go_wp2
          exact ⟨_, (by simp [upd, h3, h6, h8]; done), Below.refl _ _, X6, c6, rfl, o6⟩
        | 10, _ =>
          obtain ⟨X9, c9, h9, o9⟩ := hd 9 (List.elem_iff.1 (by kernel_rfl))
          refine wpOp_one rfl ?_
          clear hd
          rw [h9]
          have hbn := below_new (Below.refl w'.heap.size w') (.cells #[.int .i64 x.num, .slice X9 x.l.length c9, .int .i64 x.s] 43)
          have hbk := Blk.new w' 43 #[.int .i64 x.num, .slice X9 x.l.length c9, .int .i64 x.s]
          have o9' := o9.later hbn
          have OO := Lib.hid o9'
          have KK := Lib.hid hbk
          clear o9 o9' hbk
          go_wp2
          exact ⟨_, (by simp [upd, h9]; done), hbn, w'.heap.size, X9, c9, rfl, KK.out, OO.out⟩
      case done =>
        intro v w' hb hf
        obtain ⟨gA, XA, cA, h10, B10, o10⟩ := hf 10 (by omega)
        have h1 : v 1 = _ := hf 1 (by omega)
        clear hf
        simp only [List.drop_succ_cons, List.drop_zero]
        rw [h1, h10]
        have hown := OWN.out w' hb
        have hsz := hb.size
        have PU := Lib.hid (PUSH.out w' XA cA hb o10)
        have hy : Lies w' (some ⟨gA, 0, none⟩) [.int .i64 x.num, .slice XA x.l.length cA, .int .i64 x.s] := fun _ => ⟨gA, 0, rfl, fun j u hu => by
          rw [Nat.zero_add]
          exact B10.cell (by simpa using hu)⟩
        clear PUSH OWN B10 o10 x0 x1 x2 y1
        go_wp2_with (at_builtin; refine wpList_append_lies _ rfl _ _ 22 rfl (w.heap.size + 3) 43 i0 (.agg #[.int .i64 0, .slice none 0 0, .int .i64 0]) 3 40 Try.underlying22 hI hz0 hz1 hz2 rfl (by decide) _ M.length (fCells M) rfl hown (some ⟨gA, 0, none⟩) 1 1 (fun h => by cases h) [.int .i64 x.num, .slice XA x.l.length cA, .int .i64 x.s] rfl rfl hy (by intro u hu; simp at hu; rcases hu with rfl | rfl | rfl <;> rfl) ?c3 ?c4 ?c5 ?_)
        case c3 => unfold maxLen; omega
        case c4 => exact hMn
        case c5 => omega
        intro v2 w2 ho2 hg2 _
        have nx := Lib.hid (PU.out v2 w2 hg2 ho2)
        obtain ⟨V2, cv2, rfl, -, -, -, -⟩ := own_form ho2
        have z1 := nx.out.2.2.2.2.2.1
        have z2 := nx.out.2.2.2.2.2.2
        clear ho2 hg2 hown hy PU
        go_wp2_with fail
        go_roundw
        case rel => exact ⟨k + 1, _, _, by omega, by first | rfl | go_num, nx.out.1, (by rw [List.map_append, HFI.out, List.take_succ_eq_append_getElem hlt, List.map_append]; obtain ⟨_, hh⟩ := List.getElem?_eq_some_iff.1 HX.out; rw [hh]; rfl), by simp [HM.out], nx.out.2.1, nx.out.2.2.1, nx.out.2.2.2.1, nx.out.2.2.2.2.1⟩
        case measure => simp [intOf]; omega
    · have hd : decide ((k : Int) < (L.length : Int)) = false := decide_eq_false (by omega)
      have hML : M.length = L.length := by omega
      have q0 := hD2.cell (i := 0) rfl
      have r0 := hD1.cell (i := 0) rfl
      have r1 := hD1.cell (i := 1) rfl
      have s0 := hD1.free 0
      have s1 := hD1.free 1
      have hz := (hD1.put 0 (.int .i64 room)).put 1 (.slice V M.length cv)
      have z0 := hz.cell (i := 0) rfl
      have z1 := hz.cell (i := 1) rfl
      have hbz := (hbw.setCell (p := ⟨w.heap.size + 1, 0, none⟩) (by show w.heap.size ≤ w.heap.size + 1; omega) (.int .i64 room)).setCell (p := ⟨w.heap.size + 1, 1, none⟩) (by show w.heap.size ≤ w.heap.size + 1; omega) (.slice V M.length cv)
      have hOz := ((hO.low (p := ⟨w.heap.size + 1, 0, none⟩) (by show w.heap.size + 1 < w.heap.size + 3; omega) (.int .i64 room)).low (p := ⟨w.heap.size + 1, 1, none⟩) (by show w.heap.size + 1 < w.heap.size + 3; omega) (.slice V M.length cv)).lower (base' := w.heap.size) (by omega)
      rw [List.take_of_length_le (by omega)] at hfi
      have FIN := Lib.hid (show GivesDH room (L.map Fc.fi) w (.returned (.agg #[.int .i64 room, .slice V M.length cv])) _ from ⟨_, M, rfl, hOz, hfi, hbz⟩)
      have Z0 := Lib.hid z0
      have Z1 := Lib.hid z1
      clear hO hfi hD0 hD1 hD2 hz z0 z1 hbz hOz hML hMl
      go_wp2
      have z0 := Z0.out
      have z1 := Z1.out
      exact bodyPost_ret (v := .agg #[.int .i64 room, .slice V M.length cv]) (by simp [results, Try.results9, go_sem, z0, z1]) rfl FIN.out
theorem rcopyD_any (room : Int) (A : Option Addr) (c : Nat) (L : List Fc) (w : World) (h : OneD w A c L) (hf : Fit L) :
    Calls Try.prog 9 #[.agg #[.int .i64 room, .slice A L.length c]] w (GivesD room (L.map Fc.fi) w) := by
  refine (rcopyDS_any room A c L w h hf).mono ?_
  rintro e w' ⟨v, M, h1, h2, h3, h4⟩
  exact ⟨v, M, h1, h2.own, h3, h4⟩
end Go.Proofs.Ytgjcpdcepmgafaa
