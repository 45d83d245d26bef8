/-
  What telltaleref04's Copy answers of any note: the same, in memory of its own.
  What telltaleref04's Writes, Same, Fits and News answer.
  What telltaleref04's Formed answers of any note.
  What telltaleref04's At and Told answer.
-/
import Derived.Test.YtoaclofobfaflaaG14
import Derived.Test.YtoaclofobfaflaaG11
import Derived.Test.YtoaclofobfaflaaG04
namespace Go.Proofs.Ytoaclofobfaflaa
open Go.RowKit

theorem Gives.one {l : List (Int × Int)} {w w' : World} {e : Ending} (h : Gives l w e w') : ∃ A c, e = .returned (.slice A l.length c) ∧ OneL w' A c l ∧ Below w.heap.size w w' := by
  obtain ⟨v, rfl, ho, hb⟩ := h
  obtain ⟨A, c, rfl, h1⟩ := OneL.of_own ho
  exact ⟨A, c, rfl, h1, hb⟩
theorem infoNt : (Try.prog.info? 26).map (·.size) = some 4 := by kernel_rfl
theorem infoWr : (Try.prog.info? 35).map (fun i => (i.zero, i.size, i.bytes)) = some (some (.agg #[.int .i64 0, .int .i64 0, .int .i64 0, .bool false]), 4, 32) := by kernel_rfl

set_option maxRecDepth 100000 in
set_option maxHeartbeats 3200000 in
theorem ncopy_any (S E B V : Option Addr) (cs ce cb cv : Nat) (n : Note) (w : World) (hls : n.s.length * 16 ≤ 140737488355328) (hle : n.e.length * 16 ≤ 140737488355328) (hlb : n.b.length * 16 ≤ 140737488355328) (hlw : n.ws.length * 32 ≤ 140737488355328)
    (h : NoteAt w S E B V cs ce cb cv n) : Calls Try.prog 11 #[.agg (noteCells S E B V cs ce cb cv n)] w (AnsN n w) := by
  obtain ⟨i0, hI, hz0, hz1, hz2⟩ := info_parts infoWr
  have hW0 : Blk (w.alloc (.cells (noteCells S E B V cs ce cb cv n) 26)) w.heap.size 26 (noteCells S E B V cs ce cb cv n) := Blk.new w _ _
  go_enter Try.func11, Try.ntmps11
  go_wp2_with fail
  obtain ⟨W, hW⟩ : ∃ W, (w.alloc (.cells (noteCells S E B V cs ce cb cv n) 26)).alloc (.cells #[.slice none 0 0, .slice none 0 0, .slice none 0 0, .slice none 0 0] 26) = W := ⟨_, rfl⟩
  have hb0 : Below w.heap.size w W := by rw [← hW]; exact below_new (below_new (Below.refl _ _) _) _
  have hB0 : Blk W w.heap.size 26 (noteCells S E B V cs ce cb cv n) := by rw [← hW]; exact hW0.alloc _
  have hB1 : Blk W (w.heap.size + 1) 26 #[.slice none 0 0, .slice none 0 0, .slice none 0 0, .slice none 0 0] := by
    rw [← hW, show w.heap.size + 1 = (w.alloc (.cells (noteCells S E B V cs ce cb cv n) 26)).heap.size from by simp]
    exact Blk.new _ _ _
  rw [hW]
  have HN := Lib.hid (h.later hb0)
  have c0 : W.cell? ⟨w.heap.size, 0, none⟩ = some (.slice S n.s.length cs) := hB0.cell rfl
  have c1 : W.cell? ⟨w.heap.size, 1, none⟩ = some (.slice E n.e.length ce) := hB0.cell rfl
  have c2 : W.cell? ⟨w.heap.size, 2, none⟩ = some (.slice B n.b.length cb) := hB0.cell rfl
  have c3 : W.cell? ⟨w.heap.size, 3, none⟩ = some (.slice V n.ws.length cv) := hB0.cell rfl
  have hz := hb0.size
  have N0 := Lib.hid (fun wx (hb : Below W.heap.size W wx) => (rcopy_any S cs n.s wx hls (HN.out.hs.later hb).2.2.1 (HN.out.hs.later hb).2.2.2).mono fun _ _ hg => hg.one)
  have N1 := Lib.hid (fun wx (hb : Below W.heap.size W wx) => (rcopy_any E ce n.e wx hle (HN.out.he.later hb).2.2.1 (HN.out.he.later hb).2.2.2).mono fun _ _ hg => hg.one)
  have N2 := Lib.hid (fun wx (hb : Below W.heap.size W wx) => (scopy_any B cb n.b wx hlb (HN.out.hb.later hb).2.2.1 (HN.out.hb.later hb).2.2.2).mono fun _ _ hg => hg.one)
  clear hW hW0 h
  refine wp_region_facts 13 (by kernel_rfl) (by kernel_rfl)
    (fun v => { tmps := #[.agg (noteCells S E B V cs ce cb cv n), .pointer (some ⟨w.heap.size, 0, none⟩), .pointer (some ⟨w.heap.size + 1, 0, none⟩), v 0, v 1, v 2, v 3, v 4, v 5, v 6, v 7, v 8, v 9, v 10, v 11, v 12, undef], defers := [] }) (fun _ => undef)
    (fun i x wx => match i with
      | 0 => x = .pointer (some ⟨w.heap.size, 0, none⟩)
      | 1 => x = .slice S n.s.length cs
      | 2 => ∃ A c, x = .slice A n.s.length c ∧ OneL wx A c n.s
      | 3 => x = .pointer (some ⟨w.heap.size, 1, none⟩)
      | 4 => x = .slice E n.e.length ce
      | 5 => ∃ A c, x = .slice A n.e.length c ∧ OneL wx A c n.e
      | 6 => x = .pointer (some ⟨w.heap.size, 2, none⟩)
      | 7 => x = .slice B n.b.length cb
      | 8 => ∃ A c, x = .slice A n.b.length c ∧ OneL wx A c n.b
      | 9 => ∃ g, x = .slice (some ⟨g, 0, none⟩) 0 0 ∧ Blk wx g 35 #[] ∧ w.heap.size ≤ g
      | 10 => x = .pointer (some ⟨w.heap.size, 3, none⟩)
      | 11 => x = .slice V n.ws.length cv
      | 12 => ∃ A c, x = .slice A n.ws.length c ∧ OneW wx A c n.ws
      | _ => True)
    (fun w1 w2 => Below w1.heap.size w1 w2) (fun h1 h2 => below_on h1 h2) (fun _ => Below.refl _ _) (Below.drew (Below.refl _ _)) ?stab ?step ?done
  case stab =>
    rintro i x w1 w2 h hb
    match i, h with
    | 0, h => exact h
    | 1, h => exact h
    | 2, h => obtain ⟨A, c, h1, h2⟩ := h; exact ⟨A, c, h1, h2.later hb⟩
    | 3, h => exact h
    | 4, h => exact h
    | 5, h => obtain ⟨A, c, h1, h2⟩ := h; exact ⟨A, c, h1, h2.later hb⟩
    | 6, h => exact h
    | 7, h => exact h
    | 8, h => obtain ⟨A, c, h1, h2⟩ := h; exact ⟨A, c, h1, h2.later hb⟩
    | 9, h => obtain ⟨g, h1, h2, h3⟩ := h; exact ⟨g, h1, h2.later hb, h3⟩
    | 10, h => exact h
    | 11, h => exact h
    | 12, h => obtain ⟨A, c, h1, h2⟩ := h; exact ⟨A, c, h1, h2.later hb⟩
    | i + 13, _ => trivial
  case step =>
    intro i hi v w' hb hd
    match i, hi with
    | 0, _ =>
      refine wpOp_one rfl ?_
      clear hd
      go_wp2
      exact ⟨_, by simp [upd]; done, Below.refl _ _, rfl⟩
    | 1, _ =>
      have h0 : v 0 = _ := hd 0 (List.elem_iff.1 (by kernel_rfl))
      refine wpOp_one rfl ?_
      clear hd
      rw [h0]
      have q := cell_later hb c0
      go_wp2
      exact ⟨_, by simp [upd, h0]; done, Below.refl _ _, rfl⟩
    | 2, _ =>
      have h1 : v 1 = _ := hd 1 (List.elem_iff.1 (by kernel_rfl))
      refine wpOp_one rfl ?_
      clear hd
      rw [h1]
      go_wp2_with fail
      refine (N0.out _ hb).mono ?_
      rintro e w'' hg
      obtain ⟨A, c, rfl, ho, b⟩ := hg
      go_wp2
      exact ⟨_, by simp [upd, h1]; done, b, A, c, rfl, ho⟩
    | 3, _ =>
      refine wpOp_one rfl ?_
      clear hd
      go_wp2
      exact ⟨_, by simp [upd]; done, Below.refl _ _, rfl⟩
    | 4, _ =>
      have h3 : v 3 = _ := hd 3 (List.elem_iff.1 (by kernel_rfl))
      refine wpOp_one rfl ?_
      clear hd
      rw [h3]
      have q := cell_later hb c1
      go_wp2
      exact ⟨_, by simp [upd, h3]; done, Below.refl _ _, rfl⟩
    | 5, _ =>
      have h4 : v 4 = _ := hd 4 (List.elem_iff.1 (by kernel_rfl))
      refine wpOp_one rfl ?_
      clear hd
      rw [h4]
      go_wp2_with fail
      refine (N1.out _ hb).mono ?_
      rintro e w'' hg
      obtain ⟨A, c, rfl, ho, b⟩ := hg
      go_wp2
      exact ⟨_, by simp [upd, h4]; done, b, A, c, rfl, ho⟩
    | 6, _ =>
      refine wpOp_one rfl ?_
      clear hd
      go_wp2
      exact ⟨_, by simp [upd]; done, Below.refl _ _, rfl⟩
    | 7, _ =>
      have h6 : v 6 = _ := hd 6 (List.elem_iff.1 (by kernel_rfl))
      refine wpOp_one rfl ?_
      clear hd
      rw [h6]
      have q := cell_later hb c2
      go_wp2
      exact ⟨_, by simp [upd, h6]; done, Below.refl _ _, rfl⟩
    | 8, _ =>
      have h7 : v 7 = _ := hd 7 (List.elem_iff.1 (by kernel_rfl))
      refine wpOp_one rfl ?_
      clear hd
      rw [h7]
      go_wp2_with fail
      refine (N2.out _ hb).mono ?_
      rintro e w'' hg
      obtain ⟨A, c, rfl, ho, b⟩ := hg
      go_wp2
      exact ⟨_, by simp [upd, h7]; done, b, A, c, rfl, ho⟩
    | 9, _ =>
      refine wpOp_one rfl ?_
      clear hd
      have hz := hb.size
      go_wp2
      exact ⟨_, by simp [upd]; done, below_new (Below.refl _ _) _, w'.heap.size, rfl, Blk.new _ _ _, by omega⟩
    | 10, _ =>
      refine wpOp_one rfl ?_
      clear hd
      go_wp2
      exact ⟨_, by simp [upd]; done, Below.refl _ _, rfl⟩
    | 11, _ =>
      have h10 : v 10 = _ := hd 10 (List.elem_iff.1 (by kernel_rfl))
      refine wpOp_one rfl ?_
      clear hd
      rw [h10]
      have q := cell_later hb c3
      go_wp2
      exact ⟨_, by simp [upd, h10]; done, Below.refl _ _, rfl⟩
    | 12, _ =>
      obtain ⟨g, h9, hg, hgb⟩ := hd 9 (List.elem_iff.1 (by kernel_rfl))
      have h11 : v 11 = _ := hd 11 (List.elem_iff.1 (by kernel_rfl))
      refine wpOp_one rfl ?_
      clear hd
      rw [h9, h11]
      have hv := HN.out.hv.later hb
      have HV := Lib.hid hv
      clear hv
      refine wpList_append_fresh _ rfl _ _ 24 rfl w.heap.size g 35 i0 (.agg #[.int .i64 0, .int .i64 0, .int .i64 0, .bool false]) 4 32 Try.underlying24 hI hz0 hz1 hz2 rfl (by decide) rfl hg hgb V n.ws.length cv HV.out.2.2.1 (Nt.wrCells n.ws) rfl (Nt.wrCells_length n.ws) HV.out.2.2.2 (Nt.wrCells_one n.ws) ?c3 ?c4 ?_
      case c3 => have := HV.out.1; have := HV.out.2.1; omega
      case c4 => exact hlw
      intro v' w'' hown b
      obtain ⟨A, c, rfl, ho⟩ := OneW.of_own hown
      clear hown
      go_wp2
      exact ⟨_, by simp [upd, h9, h11, Act.put]; done, b, A, c, rfl, ho⟩
  case done =>
    intro v w' hb hf
    obtain ⟨A2, k2, h2, o2⟩ := hf 2 (by omega)
    obtain ⟨A5, k5, h5, o5⟩ := hf 5 (by omega)
    obtain ⟨A8, k8, h8, o8⟩ := hf 8 (by omega)
    obtain ⟨A12, k12, h12, o12⟩ := hf 12 (by omega)
    have HO := Lib.hid (NoteAt.mk o2 o5 o8 o12)
    have hB := hB1.later hb
    have hbw := below_on hb0 hb
    clear o2 o5 o8 o12 hf
    simp only [List.drop_succ_cons, List.drop_zero]
    rw [h2, h5, h8, h12]
    have d0 := hB.cell (i := 0) rfl
    have d0f := hB.free 0
    have d1f := hB.free 1
    have d2f := hB.free 2
    have d3f := hB.free 3
    have d1 := hB.cell (i := 1) rfl
    have d2 := hB.cell (i := 2) rfl
    have d3 := hB.cell (i := 3) rfl
    go_wp2
    have hB4 : Blk ((((w'.setCell ⟨w.heap.size + 1, 0, none⟩ (.slice A2 n.s.length k2)).setCell ⟨w.heap.size + 1, 1, none⟩ (.slice A5 n.e.length k5)).setCell ⟨w.heap.size + 1, 2, none⟩ (.slice A8 n.b.length k8)).setCell ⟨w.heap.size + 1, 3, none⟩ (.slice A12 n.ws.length k12)) (w.heap.size + 1) 26 (noteCells A2 A5 A8 A12 k2 k5 k8 k12 n) := (((hB.put 0 _).put 1 _).put 2 _).put 3 _
    have hb4 : ∀ x0 x1 x2 x3, Below w.heap.size w ((((w'.setCell ⟨w.heap.size + 1, 0, none⟩ x0).setCell ⟨w.heap.size + 1, 1, none⟩ x1).setCell ⟨w.heap.size + 1, 2, none⟩ x2).setCell ⟨w.heap.size + 1, 3, none⟩ x3) := fun x0 x1 x2 x3 => (((hbw.setCell (p := ⟨w.heap.size + 1, 0, none⟩) (by simp) _).setCell (p := ⟨w.heap.size + 1, 1, none⟩) (by simp) _).setCell (p := ⟨w.heap.size + 1, 2, none⟩) (by simp) _).setCell (p := ⟨w.heap.size + 1, 3, none⟩) (by simp) _
    have hN4 := HO.out.puts hB ⟨rfl, rfl, rfl, rfl⟩ (.slice A2 n.s.length k2) (.slice A5 n.e.length k5) (.slice A8 n.b.length k8) (.slice A12 n.ws.length k12) ⟨rfl, rfl, rfl⟩
    exact bodyPost_ret (v := .agg (noteCells A2 A5 A8 A12 k2 k5 k8 k12 n)) (results_cell_row rfl _ _ (w.heap.size + 1) 26 (noteCells A2 A5 A8 A12 k2 k5 k8 k12 n) (0, 0) _ rfl hB4 Try.underlying26 rfl infoNt) rfl ⟨_, _, _, _, _, _, _, _, rfl, hN4, hb4 _ _ _ _⟩

end Go.Proofs.Ytoaclofobfaflaa
namespace Go.Proofs.Ytoaclofobfaflaa
open Go.RowKit

theorem wr_ext {l r : List Wr} (h : l.length = r.length) (hk : ∀ k, k < l.length → l.getD k Nt.zeroW = r.getD k Nt.zeroW) : l = r := by
  apply List.ext_getElem h
  intro i h1 h2
  have := hk i h1
  rw [List.getD_eq_getElem?_getD, List.getD_eq_getElem?_getD, List.getElem?_eq_getElem h1, List.getElem?_eq_getElem h2] at this
  simpa using this

set_option maxHeartbeats 3200000 in
theorem nwrites_any (A B : Option Addr) (c1 c2 : Nat) (l r : List Wr) (w : World) (h1 : OneW w A c1 l) (h2 : OneW w B c2 r) :
    Calls Try.prog 43 #[.slice A l.length c1, .slice B r.length c2] w (Says (.bool (decide (l = r))) w) := by
  have hl := h1.len
  have H1 := Lib.hid h1
  have H2 := Lib.hid h2
  clear h1 h2
  by_cases hlen : l.length = r.length
  · have hd0 : ((l.length : Int) != (r.length : Int)) = false := by rw [bne_eq_false_iff_eq]; omega
    have HLEN := Lib.hid hlen
    have hr1 : r.length ≤ l.length := by omega
    have hr2 : l.length ≤ r.length := by omega
    clear hlen
    go_enter Try.func43, Try.ntmps43
    go_wp2_with fail
    go_loopw [5] (fun s5 wr => ∃ k : Nat, k ≤ l.length ∧ s5 = .int .i64 (k : Int) ∧ (∀ j, j < k → l.getD j Nt.zeroW = r.getD j Nt.zeroW) ∧ Below w.heap.size w wr) (fun s5 _ => l.length - (intOf s5).toNat)
    case atStart => exact ⟨0, Nat.zero_le _, rfl, fun j hj => by omega, Below.refl _ _⟩
    case round =>
      obtain ⟨k, hk, rfl, heq, hbw⟩ := hrel
      have HEQ := Lib.hid heq
      clear heq
      by_cases hlt : k < l.length
      · have hne : l ≠ [] := fun e => by subst e; simp at hlt
        have hne2 : r ≠ [] := fun e => by have := HLEN.out; subst e; simp at this; exact hne this
        obtain ⟨b, off, hA, hcA⟩ := (H1.out.later hbw).at hne
        obtain ⟨b', off', hB, hcB⟩ := (H2.out.later hbw).at hne2
        obtain ⟨e0, e1, e2, e3⟩ := hcA k hlt
        obtain ⟨f0, f1, f2, f3⟩ := hcB k (by omega)
        have H1' := H1
        have H2' := H2
        subst hA hB
        clear hcA hcB
        have hi0 : (0 : Int) ≤ (k : Int) := by omega
        have hi1 : (k : Int) < (l.length : Int) := by omega
        have hi2 : (k : Int) < (r.length : Int) := by omega
        obtain ⟨x, hx⟩ : ∃ x, l.getD k Nt.zeroW = x := ⟨_, rfl⟩
        obtain ⟨y, hy⟩ : ∃ y, r.getD k Nt.zeroW = y := ⟨_, rfl⟩
        rw [hx] at e0 e1 e2 e3
        rw [hy] at f0 f1 f2 f3
        have HX := Lib.hid hx
        have HY := Lib.hid hy
        clear hx hy
        by_cases hxy : x = y
        · subst hxy
          go_wp2_with fail
          go_quiet (fail)
          go_wp2_with fail
          go_roundw
          case rel =>
            refine ⟨k + 1, by omega, by go_num, ?_, below_drewN hbw _⟩
            intro j hj
            by_cases e : j = k
            · subst e; rw [HX.out, HY.out]
            · exact HEQ.out j (by omega)
          case measure => simp [intOf]; omega
        · have hno : decide (l = r) = false := decide_eq_false (fun e => hxy (by rw [← HX.out, ← HY.out, e]))
          have HNO := Lib.hid hno
          clear hno
          obtain ⟨x1, x2, x3, x4⟩ := x
          obtain ⟨y1, y2, y3, y4⟩ := y
          have hall : (x1 == y1) = false ∨ (x1 = y1 ∧ (x2 == y2) = false) ∨ (x1 = y1 ∧ x2 = y2 ∧ (x3 == y3) = false) ∨ (x1 = y1 ∧ x2 = y2 ∧ x3 = y3 ∧ (x4 == y4) = false) := by
            by_cases q1 : x1 = y1
            · by_cases q2 : x2 = y2
              · by_cases q3 : x3 = y3
                · exact .inr (.inr (.inr ⟨q1, q2, q3, beq_eq_false_iff_ne.2 (fun e => hxy (by rw [q1, q2, q3, e]))⟩))
                · exact .inr (.inr (.inl ⟨q1, q2, beq_eq_false_iff_ne.2 q3⟩))
              · exact .inr (.inl ⟨q1, beq_eq_false_iff_ne.2 q2⟩)
            · exact .inl (beq_eq_false_iff_ne.2 q1)
          clear hxy
          rcases hall with h1 | ⟨rfl, h1⟩ | ⟨rfl, rfl, h1⟩ | ⟨rfl, rfl, rfl, h1⟩
          all_goals
            go_wp2_with fail
            go_quiet (fail)
            go_wp2
            go_ret
            exact ⟨by rw [HNO.out]; rfl, below_drewN hbw _⟩
      · have hyes : decide (l = r) = true := decide_eq_true (wr_ext HLEN.out (fun j hj => HEQ.out j (by omega)))
        have HY := Lib.hid hyes
        clear hyes
        go_wp2
        go_ret
        exact ⟨by rw [HY.out]; rfl, hbw⟩
  · have hd0 : ((l.length : Int) != (r.length : Int)) = true := by rw [bne_iff_ne]; omega
    have hno : decide (l = r) = false := decide_eq_false (fun e => hlen (by rw [e]))
    have HNO := Lib.hid hno
    clear hno
    go_enter Try.func43, Try.ntmps43
    go_wp2
    go_ret
    exact ⟨by rw [HNO.out]; rfl, Below.refl _ _⟩

/-- The same notes? -/
def sameN (a b : Note) : Bool := decide (a.s = b.s) && (decide (a.e = b.e) && (decide (a.b = b.b) && decide (a.ws = b.ws)))
theorem sameN_iff (a b : Note) : sameN a b = true ↔ a = b := by
  unfold sameN
  simp only [Bool.and_eq_true, decide_eq_true_eq]
  constructor
  · rintro ⟨h1, h2, h3, h4⟩
    cases a
    cases b
    simp_all
  · rintro rfl
    exact ⟨rfl, rfl, rfl, rfl⟩
theorem sameN_self (a : Note) : sameN a a = true := (sameN_iff a a).2 rfl

/-- A note in a block of its own, by its cells. -/
theorem note_cells {w : World} {g : Nat} {t : TypeId} {S E B V : Option Addr} {cs ce cb cv : Nat} {n : Note} (h : Blk w g t (noteCells S E B V cs ce cb cv n)) :
    w.cell? ⟨g, 0, none⟩ = some (.slice S n.s.length cs) ∧ w.cell? ⟨g, 1, none⟩ = some (.slice E n.e.length ce) ∧ w.cell? ⟨g, 2, none⟩ = some (.slice B n.b.length cb) ∧ w.cell? ⟨g, 3, none⟩ = some (.slice V n.ws.length cv) := ⟨h.cell rfl, h.cell rfl, h.cell rfl, h.cell rfl⟩

set_option maxHeartbeats 1600000 in
theorem nsame_any (S E B V S' E' B' V' : Option Addr) (cs ce cb cv cs' ce' cb' cv' : Nat) (n m : Note) (w : World) (h1 : NoteAt w S E B V cs ce cb cv n) (h2 : NoteAt w S' E' B' V' cs' ce' cb' cv' m) :
    Calls Try.prog 18 #[.agg (noteCells S E B V cs ce cb cv n), .agg (noteCells S' E' B' V' cs' ce' cb' cv' m)] w (Says (.bool (sameN n m)) w) := by
  obtain ⟨W, hW⟩ : ∃ W, (w.alloc (.cells (noteCells S E B V cs ce cb cv n) 26)).alloc (.cells (noteCells S' E' B' V' cs' ce' cb' cv' m) 26) = W := ⟨_, rfl⟩
  have hb0 : Below w.heap.size w W := by rw [← hW]; exact below_new (below_new (Below.refl _ _) _) _
  have hB0 : Blk W w.heap.size 26 (noteCells S E B V cs ce cb cv n) := by rw [← hW]; exact (Blk.new w _ _).alloc _
  have hB1 : Blk W (w.heap.size + 1) 26 (noteCells S' E' B' V' cs' ce' cb' cv' m) := by
    rw [← hW, show w.heap.size + 1 = (w.alloc (.cells (noteCells S E B V cs ce cb cv n) 26)).heap.size from by simp]
    exact Blk.new _ _ _
  have HB0 := Lib.hid hB0
  have HB1 := Lib.hid hB1
  have HN := Lib.hid (h1.later hb0)
  have HM := Lib.hid (h2.later hb0)
  have N0 := Lib.hid (fun wx (hb : Below W.heap.size W wx) => rsame_any S S' cs cs' n.s m.s wx (HN.out.hs.later hb).len (HN.out.hs.later hb).stamps (HM.out.hs.later hb).stamps)
  have N1 := Lib.hid (fun wx (hb : Below W.heap.size W wx) => rsame_any E E' ce ce' n.e m.e wx (HN.out.he.later hb).len (HN.out.he.later hb).stamps (HM.out.he.later hb).stamps)
  have N2 := Lib.hid (fun wx (hb : Below W.heap.size W wx) => ssame_any B B' cb cb' n.b m.b wx (HN.out.hb.later hb).len (HN.out.hb.later hb).stamps (HM.out.hb.later hb).stamps)
  have N3 := Lib.hid (fun wx (hb : Below W.heap.size W wx) => nwrites_any V V' cv cv' n.ws m.ws wx (HN.out.hv.later hb) (HM.out.hv.later hb))
  have HR := Lib.hid (show sameN n m = (decide (n.s = m.s) && (decide (n.e = m.e) && (decide (n.b = m.b) && decide (n.ws = m.ws)))) from rfl)
  obtain ⟨x0, hx0⟩ : ∃ x, decide (n.s = m.s) = x := ⟨_, rfl⟩
  obtain ⟨x1, hx1⟩ : ∃ x, decide (n.e = m.e) = x := ⟨_, rfl⟩
  obtain ⟨x2, hx2⟩ : ∃ x, decide (n.b = m.b) = x := ⟨_, rfl⟩
  obtain ⟨x3, hx3⟩ : ∃ x, decide (n.ws = m.ws) = x := ⟨_, rfl⟩
  rw [hx0] at N0 HR
  rw [hx1] at N1 HR
  rw [hx2] at N2 HR
  rw [hx3] at N3 HR
  have HW := Lib.hid hW
  clear hW hB0 hB1 h1 h2 hx0 hx1 hx2 hx3 HN HM
  obtain ⟨c0, c1, c2, c3⟩ := note_cells HB0.out
  obtain ⟨d0, d1, d2, d3⟩ := note_cells HB1.out
  have p0 := c0
  have q0 := d0
  rw [← HW.out] at p0 q0
  have bb := Below.refl W.heap.size W
  cases x0 with
  | false =>
    go_enter Try.func18, Try.ntmps18
    go_wp2_with fail
    rw [HW.out]
    refine (N0.out _ bb).mono ?_
    rintro e w1 ⟨rfl, b1⟩
    go_wp2
    go_ret
    exact ⟨by rw [HR.out]; rfl, below_on hb0 b1⟩
  | true =>
  cases x1 with
  | false =>
    go_enter Try.func18, Try.ntmps18
    go_wp2_with fail
    rw [HW.out]
    refine (N0.out _ bb).mono ?_
    rintro e w1 ⟨rfl, b1⟩
    have c1' := cell_later b1 c1
    have d1' := cell_later b1 d1
    go_wp2_with fail
    refine (N1.out _ b1).mono ?_
    rintro e w2 ⟨rfl, b2⟩
    go_wp2
    go_ret
    exact ⟨by rw [HR.out]; rfl, below_on (below_on hb0 b1) b2⟩
  | true =>
  cases x2 with
  | false =>
    go_enter Try.func18, Try.ntmps18
    go_wp2_with fail
    rw [HW.out]
    refine (N0.out _ bb).mono ?_
    rintro e w1 ⟨rfl, b1⟩
    have c1' := cell_later b1 c1
    have d1' := cell_later b1 d1
    go_wp2_with fail
    refine (N1.out _ b1).mono ?_
    rintro e w2 ⟨rfl, b2⟩
    have bb2 := below_on b1 b2
    have c2' := cell_later bb2 c2
    have d2' := cell_later bb2 d2
    go_wp2_with fail
    refine (N2.out _ bb2).mono ?_
    rintro e w3 ⟨rfl, b3⟩
    go_wp2
    go_ret
    exact ⟨by rw [HR.out]; rfl, below_on (below_on hb0 bb2) b3⟩
  | true =>
  go_enter Try.func18, Try.ntmps18
  go_wp2_with fail
  rw [HW.out]
  refine (N0.out _ bb).mono ?_
  rintro e w1 ⟨rfl, b1⟩
  have c1' := cell_later b1 c1
  have d1' := cell_later b1 d1
  go_wp2_with fail
  refine (N1.out _ b1).mono ?_
  rintro e w2 ⟨rfl, b2⟩
  have bb2 := below_on b1 b2
  have c2' := cell_later bb2 c2
  have d2' := cell_later bb2 d2
  go_wp2_with fail
  refine (N2.out _ bb2).mono ?_
  rintro e w3 ⟨rfl, b3⟩
  have bb3 := below_on bb2 b3
  have c3' := cell_later bb3 c3
  have d3' := cell_later bb3 d3
  go_wp2_with fail
  refine (N3.out _ bb3).mono ?_
  rintro e w4 ⟨rfl, b4⟩
  go_wp2
  go_ret
  exact ⟨by rw [HR.out]; rfl, below_on (below_on hb0 bb3) b4⟩

set_option maxHeartbeats 800000 in
theorem nfits_any (S E B V A : Option Addr) (cs ce cb cv c : Nat) (n : Note) (l : List (Int × Int)) (w : World) (h1 : NoteAt w S E B V cs ce cb cv n) (h2 : OneL w A c l) :
    Calls Try.prog 15 #[.agg (noteCells S E B V cs ce cb cv n), .slice A l.length c] w (Says (.bool (Ve.cov (Ve.cnt l) (Ve.cnt n.s))) w) := by
  obtain ⟨W, hW⟩ : ∃ W, w.alloc (.cells (noteCells S E B V cs ce cb cv n) 26) = W := ⟨_, rfl⟩
  have hb0 : Below w.heap.size w W := by rw [← hW]; exact below_new (Below.refl _ _) _
  have hB0 : Blk W w.heap.size 26 (noteCells S E B V cs ce cb cv n) := by rw [← hW]; exact Blk.new w _ _
  obtain ⟨c0, c1, c2, c3⟩ := note_cells hB0
  have hO := h2.later hb0
  have hS := h1.hs.later hb0
  have N0 := Lib.hid (rcovers_any A S c cs l n.s W hO.len hS.len hO.stamps hS.stamps)
  have p0 := c0
  rw [← hW] at p0
  have HW := Lib.hid hW
  clear hW hB0 h1 h2 hO hS
  go_enter Try.func15, Try.ntmps15
  go_wp2_with fail
  rw [HW.out]
  refine N0.out.mono ?_
  rintro e w1 ⟨rfl, b1⟩
  go_wp2
  go_ret
  exact ⟨rfl, below_on hb0 b1⟩

set_option maxHeartbeats 800000 in
theorem nnews_any (S E B V A : Option Addr) (cs ce cb cv c : Nat) (n : Note) (l : List (Int × Int)) (w : World) (h1 : NoteAt w S E B V cs ce cb cv n) (h2 : OneL w A c l) :
    Calls Try.prog 17 #[.agg (noteCells S E B V cs ce cb cv n), .slice A l.length c] w (Says (.bool (!Ve.cov (Ve.cnt l) (Ve.cnt n.e))) w) := by
  obtain ⟨W, hW⟩ : ∃ W, w.alloc (.cells (noteCells S E B V cs ce cb cv n) 26) = W := ⟨_, rfl⟩
  have hb0 : Below w.heap.size w W := by rw [← hW]; exact below_new (Below.refl _ _) _
  have hB0 : Blk W w.heap.size 26 (noteCells S E B V cs ce cb cv n) := by rw [← hW]; exact Blk.new w _ _
  obtain ⟨c0, c1, c2, c3⟩ := note_cells hB0
  have hO := h2.later hb0
  have hS := h1.he.later hb0
  have N0 := Lib.hid (rcovers_any A E c ce l n.e W hO.len hS.len hO.stamps hS.stamps)
  have p0 := c1
  rw [← hW] at p0
  have HW := Lib.hid hW
  clear hW hB0 h1 h2 hO hS
  go_enter Try.func17, Try.ntmps17
  go_wp2_with fail
  rw [HW.out]
  refine N0.out.mono ?_
  rintro e w1 ⟨rfl, b1⟩
  go_wp2
  go_ret
  exact ⟨rfl, below_on hb0 b1⟩

end Go.Proofs.Ytoaclofobfaflaa
namespace Go.Proofs.Ytoaclofobfaflaa
open Go.RowKit

namespace Nt
def obj (l : List Wr) (k : Nat) : Int := (l.getD k zeroW).2.2.1
/-- Are the first k writes as they must be? -/
def wsTo (n : Note) (k : Nat) : Prop := ∀ j, j < k → hasOf n.e (n.ws.getD j zeroW).1 (n.ws.getD j zeroW).2.1 = true ∧ (0 ≤ obj n.ws j ∧ obj n.ws j ≤ 255) ∧ inOf n.b (obj n.ws j) = false ∧ (0 < j → obj n.ws (j - 1) < obj n.ws j)
def wsOk (n : Note) : Bool := decide (∀ j : Fin n.ws.length, hasOf n.e (n.ws.getD j.val zeroW).1 (n.ws.getD j.val zeroW).2.1 = true ∧ (0 ≤ obj n.ws j.val ∧ obj n.ws j.val ≤ 255) ∧ inOf n.b (obj n.ws j.val) = false ∧ (0 < j.val → obj n.ws (j.val - 1) < obj n.ws j.val))
theorem wsOk_iff (n : Note) : wsOk n = true ↔ wsTo n n.ws.length := by
  unfold wsOk wsTo
  rw [decide_eq_true_iff]
  exact ⟨fun h j hj => h ⟨j, hj⟩, fun h j => h j.val j.isLt⟩
theorem wsOk_no {n : Note} (k : Nat) (hk : k < n.ws.length) (h : ¬ (hasOf n.e (n.ws.getD k zeroW).1 (n.ws.getD k zeroW).2.1 = true ∧ (0 ≤ obj n.ws k ∧ obj n.ws k ≤ 255) ∧ inOf n.b (obj n.ws k) = false ∧ (0 < k → obj n.ws (k - 1) < obj n.ws k))) : wsOk n = false := by
  cases hc : wsOk n with
  | false => rfl
  | true => exact absurd ((wsOk_iff n).1 hc k hk) h
/-- Is it a note as it must be? -/
def fmd (n : Note) : Bool := Ve.fmd n.s && (Ve.fmd n.e && (Ve.cov (Ve.cnt n.e) (Ve.cnt n.s) && (Sp.fmd n.b && wsOk n)))
end Nt

set_option maxRecDepth 100000 in
set_option maxHeartbeats 6400000 in
theorem nformed_any (S E B V : Option Addr) (cs ce cb cv : Nat) (n : Note) (w : World) (h1 : NoteAt w S E B V cs ce cb cv n) :
    Calls Try.prog 13 #[.agg (noteCells S E B V cs ce cb cv n)] w (Says (.bool (Nt.fmd n)) w) := by
  obtain ⟨W, hW⟩ : ∃ W, w.alloc (.cells (noteCells S E B V cs ce cb cv n) 26) = W := ⟨_, rfl⟩
  have hb0 : Below w.heap.size w W := by rw [← hW]; exact below_new (Below.refl _ _) _
  have hB0 : Blk W w.heap.size 26 (noteCells S E B V cs ce cb cv n) := by rw [← hW]; exact Blk.new w _ _
  obtain ⟨c0, c1, c2, c3⟩ := note_cells hB0
  have p0 := c0
  rw [← hW] at p0
  have HN := Lib.hid (h1.later hb0)
  have HR := Lib.hid (show Nt.fmd n = (Ve.fmd n.s && (Ve.fmd n.e && (Ve.cov (Ve.cnt n.e) (Ve.cnt n.s) && (Sp.fmd n.b && Nt.wsOk n)))) from rfl)
  have N0 := Lib.hid (fun wx (hb : Below W.heap.size W wx) => rformed_any S cs n.s wx (HN.out.hs.later hb).len (HN.out.hs.later hb).stamps)
  have N1 := Lib.hid (fun wx (hb : Below W.heap.size W wx) => rformed_any E ce n.e wx (HN.out.he.later hb).len (HN.out.he.later hb).stamps)
  have N2 := Lib.hid (fun wx (hb : Below W.heap.size W wx) => rcovers_any E S ce cs n.e n.s wx (HN.out.he.later hb).len (HN.out.hs.later hb).len (HN.out.he.later hb).stamps (HN.out.hs.later hb).stamps)
  have N3 := Lib.hid (fun wx (hb : Below W.heap.size W wx) => sformed_any B cb n.b wx (HN.out.hb.later hb))
  obtain ⟨x0, hx0⟩ : ∃ x, Ve.fmd n.s = x := ⟨_, rfl⟩
  obtain ⟨x1, hx1⟩ : ∃ x, Ve.fmd n.e = x := ⟨_, rfl⟩
  obtain ⟨x2, hx2⟩ : ∃ x, Ve.cov (Ve.cnt n.e) (Ve.cnt n.s) = x := ⟨_, rfl⟩
  obtain ⟨x3, hx3⟩ : ∃ x, Sp.fmd n.b = x := ⟨_, rfl⟩
  rw [hx0] at N0 HR
  rw [hx1] at N1 HR
  rw [hx2] at N2 HR
  rw [hx3] at N3 HR
  have HW := Lib.hid hW
  clear hW hx0 hx1 hx2 hx3
  have bb0 := Below.refl W.heap.size W
  cases x0 with
  | false =>
    go_enter Try.func13, Try.ntmps13
    go_wp2_with fail
    rw [HW.out]
    refine (N0.out _ bb0).mono ?_
    rintro e w1 ⟨rfl, b1⟩
    have bb1 := below_on bb0 b1
    go_wp2
    go_ret
    exact ⟨by rw [HR.out]; rfl, below_on hb0 bb1⟩
  | true =>
  cases x1 with
  | false =>
    go_enter Try.func13, Try.ntmps13
    go_wp2_with fail
    rw [HW.out]
    refine (N0.out _ bb0).mono ?_
    rintro e w1 ⟨rfl, b1⟩
    have bb1 := below_on bb0 b1
    have c1_1 := cell_later bb1 c1
    go_wp2_with fail
    refine (N1.out _ bb1).mono ?_
    rintro e w2 ⟨rfl, b2⟩
    have bb2 := below_on bb1 b2
    go_wp2
    go_ret
    exact ⟨by rw [HR.out]; rfl, below_on hb0 bb2⟩
  | true =>
  cases x2 with
  | false =>
    go_enter Try.func13, Try.ntmps13
    go_wp2_with fail
    rw [HW.out]
    refine (N0.out _ bb0).mono ?_
    rintro e w1 ⟨rfl, b1⟩
    have bb1 := below_on bb0 b1
    have c1_1 := cell_later bb1 c1
    go_wp2_with fail
    refine (N1.out _ bb1).mono ?_
    rintro e w2 ⟨rfl, b2⟩
    have bb2 := below_on bb1 b2
    have c0_2 := cell_later bb2 c0
    have c1_2 := cell_later bb2 c1
    go_wp2_with fail
    refine (N2.out _ bb2).mono ?_
    rintro e w3 ⟨rfl, b3⟩
    have bb3 := below_on bb2 b3
    go_wp2
    go_ret
    exact ⟨by rw [HR.out]; rfl, below_on hb0 bb3⟩
  | true =>
  cases x3 with
  | false =>
    go_enter Try.func13, Try.ntmps13
    go_wp2_with fail
    rw [HW.out]
    refine (N0.out _ bb0).mono ?_
    rintro e w1 ⟨rfl, b1⟩
    have bb1 := below_on bb0 b1
    have c1_1 := cell_later bb1 c1
    go_wp2_with fail
    refine (N1.out _ bb1).mono ?_
    rintro e w2 ⟨rfl, b2⟩
    have bb2 := below_on bb1 b2
    have c0_2 := cell_later bb2 c0
    have c1_2 := cell_later bb2 c1
    go_wp2_with fail
    refine (N2.out _ bb2).mono ?_
    rintro e w3 ⟨rfl, b3⟩
    have bb3 := below_on bb2 b3
    have c2_3 := cell_later bb3 c2
    go_wp2_with fail
    refine (N3.out _ bb3).mono ?_
    rintro e w4 ⟨rfl, b4⟩
    have bb4 := below_on bb3 b4
    go_wp2
    go_ret
    exact ⟨by rw [HR.out]; rfl, below_on hb0 bb4⟩
  | true =>
  go_enter Try.func13, Try.ntmps13
  go_wp2_with fail
  rw [HW.out]
  refine (N0.out _ bb0).mono ?_
  rintro e w1 ⟨rfl, b1⟩
  have bb1 := below_on bb0 b1
  have c1_1 := cell_later bb1 c1
  go_wp2_with fail
  refine (N1.out _ bb1).mono ?_
  rintro e w2 ⟨rfl, b2⟩
  have bb2 := below_on bb1 b2
  have c0_2 := cell_later bb2 c0
  have c1_2 := cell_later bb2 c1
  go_wp2_with fail
  refine (N2.out _ bb2).mono ?_
  rintro e w3 ⟨rfl, b3⟩
  have bb3 := below_on bb2 b3
  have c2_3 := cell_later bb3 c2
  go_wp2_with fail
  refine (N3.out _ bb3).mono ?_
  rintro e w4 ⟨rfl, b4⟩
  have bb4 := below_on bb3 b4
  have c3_4 := cell_later bb4 c3
  go_wp2_with fail
  go_loopw [3] (fun s3 wr => ∃ k : Nat, k ≤ n.ws.length ∧ s3 = .int .i64 (k : Int) ∧ Nt.wsTo n k ∧ Below W.heap.size W wr) (fun s3 _ => n.ws.length - (intOf s3).toNat)
  case atStart => exact ⟨0, Nat.zero_le _, rfl, fun j hj => by omega, bb4⟩
  case round =>
    obtain ⟨k, hk, rfl, hall, hbw⟩ := hrel
    have HALL := Lib.hid hall
    have hlenw := HN.out.hv.len
    have g1 := cell_later hbw c1
    have g2 := cell_later hbw c2
    have g3 := cell_later hbw c3
    clear hall c1_1 c0_2 c1_2 c2_3 c3_4 p0
    by_cases hlt : k < n.ws.length
    · have hne : n.ws ≠ [] := fun e => by rw [e] at hlt; simp at hlt
      obtain ⟨b, off, hA, hcA⟩ := (HN.out.hv.later hbw).at hne
      subst hA
      obtain ⟨e0, e1, e2, e3⟩ := hcA k hlt
      have hi0 : (0 : Int) ≤ (k : Int) := by omega
      have hi1 : (k : Int) < (n.ws.length : Int) := by omega
      have hno := @Nt.wsOk_no n k hlt
      have hnx : hasOf n.e (n.ws.getD k Nt.zeroW).1 (n.ws.getD k Nt.zeroW).2.1 = true → (0 ≤ Nt.obj n.ws k ∧ Nt.obj n.ws k ≤ 255) → inOf n.b (Nt.obj n.ws k) = false → (0 < k → Nt.obj n.ws (k - 1) < Nt.obj n.ws k) → Nt.wsTo n (k + 1) := fun q1 q2 q3 q4 j hj => by
        by_cases e : j = k
        · subst e; exact ⟨q1, q2, q3, q4⟩
        · exact HALL.out j (by omega)
      have hprev : ∀ m, k = m + 1 → wr.cell? ⟨b, off + m * 4 + 2, none⟩ = some (.int .i64 (Nt.obj n.ws m)) := fun m e => (hcA m (by omega)).2.2.1
      have hob : (n.ws.getD k Nt.zeroW).2.2.1 = Nt.obj n.ws k := rfl
      rw [hob] at e2
      obtain ⟨x, hx⟩ : ∃ x, (n.ws.getD k Nt.zeroW).1 = x := ⟨_, rfl⟩
      obtain ⟨y, hy⟩ : ∃ y, (n.ws.getD k Nt.zeroW).2.1 = y := ⟨_, rfl⟩
      obtain ⟨gn, hgn⟩ : ∃ gn, (n.ws.getD k Nt.zeroW).2.2.2 = gn := ⟨_, rfl⟩
      obtain ⟨o, ho⟩ : ∃ o, Nt.obj n.ws k = o := ⟨_, rfl⟩
      rw [hx] at e0 hno hnx
      rw [hy] at e1 hno hnx
      rw [hgn] at e3
      rw [ho] at e2 hno hnx
      obtain ⟨hs, hhs⟩ : ∃ hs, hasOf n.e x y = hs := ⟨_, rfl⟩
      obtain ⟨ib, hib⟩ : ∃ ib, inOf n.b o = ib := ⟨_, rfl⟩
      obtain ⟨W1, hW1⟩ : ∃ W1, wr.alloc (.cells #[.int .i64 x, .int .i64 y, .int .i64 o, .bool gn] 35) = W1 := ⟨_, rfl⟩
      have hbn : Below wr.heap.size wr W1 := by rw [← hW1]; exact below_new (Below.refl _ _) _
      have hB1 : Blk W1 wr.heap.size 35 #[.int .i64 x, .int .i64 y, .int .i64 o, .bool gn] := by rw [← hW1]; exact Blk.new wr _ _
      have hbw1 := below_on hbw hbn
      have k0 : ∀ d os, (Sort.grow (redrawn W1 d) os).cell? ⟨wr.heap.size, 0, none⟩ = some (.int .i64 x) := cell_regrown (hB1.cell rfl)
      have k1 : ∀ d os, (Sort.grow (redrawn W1 d) os).cell? ⟨wr.heap.size, 1, none⟩ = some (.int .i64 y) := cell_regrown (hB1.cell rfl)
      have k2 : ∀ d os, (Sort.grow (redrawn W1 d) os).cell? ⟨wr.heap.size, 2, none⟩ = some (.int .i64 o) := cell_regrown (hB1.cell rfl)
      have k4 : ∀ d os, (Sort.grow (redrawn W1 d) os).cell? ⟨w.heap.size, 1, none⟩ = some (.slice E n.e.length ce) := cell_regrown (cell_later hbn g1)
      have k5 : ∀ d os, (Sort.grow (redrawn W1 d) os).cell? ⟨w.heap.size, 2, none⟩ = some (.slice B n.b.length cb) := cell_regrown (cell_later hbn g2)
      have k6 : ∀ d os, (Sort.grow (redrawn W1 d) os).cell? ⟨w.heap.size, 3, none⟩ = some (.slice (some ⟨b, off, none⟩) n.ws.length cv) := cell_regrown (cell_later hbn g3)
      have cH : ∀ d os, Calls Try.prog 40 #[.slice E n.e.length ce, .agg #[.int .i64 x, .int .i64 y]] (Sort.grow (redrawn W1 d) os) fun e w'' => e = .returned (.bool hs) ∧ ∃ p : Regrown, w'' = Sort.grow (redrawn W1 p.d) p.os := fun d os => by
        rw [← hhs]
        have hE := (HN.out.he.later hbw1).later (below_regrown W1 d os)
        exact Calls.regrown_of (rhas_any E ce n.e x y _ hE.len hE.stamps)
      have cI : ∀ d os, Calls Try.prog 41 #[.slice B n.b.length cb, .int .i64 o] (Sort.grow (redrawn W1 d) os) fun e w'' => e = .returned (.bool ib) ∧ ∃ p : Regrown, w'' = Sort.grow (redrawn W1 p.d) p.os := fun d os => by
        rw [← hib]
        exact Calls.regrown_of (shas_any B cb n.b o _ ((HN.out.hb.later hbw1).later (below_regrown W1 d os)))
      rw [hhs, hib] at hno hnx
      have CH := Lib.hid cH
      have CI := Lib.hid cI
      have NO := Lib.hid hno
      have NX := Lib.hid hnx
      have PV := Lib.hid hprev
      have HW1 := Lib.hid hW1
      clear hcA hno hnx hprev cH cI hW1 hB1 hob hx hy hgn ho hhs hib
      have hcs : (hs = false) ∨ (hs = true ∧ decide (o < 0) = true ∧ o < 0) ∨ (hs = true ∧ decide (o < 0) = false ∧ 0 ≤ o ∧ decide (255 < o) = true ∧ 255 < o) ∨ (hs = true ∧ decide (o < 0) = false ∧ 0 ≤ o ∧ decide (255 < o) = false ∧ o ≤ 255 ∧ ib = true) ∨ (hs = true ∧ decide (o < 0) = false ∧ 0 ≤ o ∧ decide (255 < o) = false ∧ o ≤ 255 ∧ ib = false) := by
        cases hs
        · exact .inl rfl
        · by_cases h1 : o < 0
          · exact .inr (.inl ⟨rfl, decide_eq_true h1, h1⟩)
          · by_cases h2 : 255 < o
            · exact .inr (.inr (.inl ⟨rfl, decide_eq_false h1, by omega, decide_eq_true h2, h2⟩))
            · cases ib
              · exact .inr (.inr (.inr (.inr ⟨rfl, decide_eq_false h1, by omega, decide_eq_false h2, by omega, rfl⟩)))
              · exact .inr (.inr (.inr (.inl ⟨rfl, decide_eq_false h1, by omega, decide_eq_false h2, by omega, rfl⟩)))
      rcases hcs with rfl | ⟨rfl, d1, d2⟩ | ⟨rfl, d1, d2, d3, d4⟩ | ⟨rfl, d1, d2, d3, d4, rfl⟩ | ⟨rfl, d1, d2, d3, d4, rfl⟩
      · have HNO := Lib.hid (NO.out (fun h => by have := h.1; cases this))
        go_wp2_with fail
        rw [HW1.out]
        refine wp_region_quiet_below (by kernel_rfl) (by kernel_rfl) ?_
        repeat (first | go_big_quiet_step (first | exact CH.out _ _ | exact CI.out _ _) | quiet_step (first | exact CH.out _ _ | exact CI.out _ _))
        refine wpQuiet_nil ?_
        intro _ hw'
        obtain ⟨⟨dq, osq⟩, hw''⟩ := hw'
        subst hw''
        go_wp2
        go_ret
        exact ⟨by rw [HR.out, HNO.out]; rfl, below_on hb0 (below_on hbw1 (below_regrown W1 dq osq))⟩
      · have HNO := Lib.hid (NO.out (fun h => by have := h.2.1.1; omega))
        go_wp2_with fail
        rw [HW1.out]
        refine wp_region_quiet_below (by kernel_rfl) (by kernel_rfl) ?_
        repeat (first | go_big_quiet_step (first | exact CH.out _ _ | exact CI.out _ _) | quiet_step (first | exact CH.out _ _ | exact CI.out _ _))
        refine wpQuiet_nil ?_
        intro _ hw'
        obtain ⟨⟨dq, osq⟩, hw''⟩ := hw'
        subst hw''
        go_wp2
        go_ret
        exact ⟨by rw [HR.out, HNO.out]; rfl, below_on hb0 (below_on hbw1 (below_regrown W1 dq osq))⟩
      · have HNO := Lib.hid (NO.out (fun h => by have := h.2.1.2; omega))
        go_wp2_with fail
        rw [HW1.out]
        refine wp_region_quiet_below (by kernel_rfl) (by kernel_rfl) ?_
        repeat (first | go_big_quiet_step (first | exact CH.out _ _ | exact CI.out _ _) | quiet_step (first | exact CH.out _ _ | exact CI.out _ _))
        refine wpQuiet_nil ?_
        intro _ hw'
        obtain ⟨⟨dq, osq⟩, hw''⟩ := hw'
        subst hw''
        go_wp2
        go_ret
        exact ⟨by rw [HR.out, HNO.out]; rfl, below_on hb0 (below_on hbw1 (below_regrown W1 dq osq))⟩
      · have HNO := Lib.hid (NO.out (fun h => by have := h.2.2.1; cases this))
        go_wp2_with fail
        rw [HW1.out]
        refine wp_region_quiet_below (by kernel_rfl) (by kernel_rfl) ?_
        repeat (first | go_big_quiet_step (first | exact CH.out _ _ | exact CI.out _ _) | quiet_step (first | exact CH.out _ _ | exact CI.out _ _))
        refine wpQuiet_nil ?_
        intro _ hw'
        obtain ⟨⟨dq, osq⟩, hw''⟩ := hw'
        subst hw''
        go_wp2
        go_ret
        exact ⟨by rw [HR.out, HNO.out]; rfl, below_on hb0 (below_on hbw1 (below_regrown W1 dq osq))⟩
      · cases k with
        | zero =>
          simp only [Nat.zero_mul, Nat.add_zero] at e0 e1 e2 e3
          have HT := Lib.hid (NX.out rfl ⟨d2, d4⟩ rfl (fun h => by omega))
          go_wp2_with fail
          rw [HW1.out]
          refine wp_region_quiet_below (by kernel_rfl) (by kernel_rfl) ?_
          repeat (first | go_big_quiet_step (first | exact CH.out _ _ | exact CI.out _ _) | quiet_step (first | exact CH.out _ _ | exact CI.out _ _))
          refine wpQuiet_nil ?_
          intro _ hw'
          obtain ⟨⟨dq, osq⟩, hw''⟩ := hw'
          subst hw''
          go_wp2_with fail
          go_roundw
          case rel => exact ⟨_, by omega, by first | rfl | go_num, HT.out, below_on hbw1 (below_regrown W1 dq osq)⟩
          case measure => simp [intOf]; omega
        | succ m =>
          have hm1 : ((m + 1 : Nat) : Int) - 1 = (m : Int) := by omega
          have hj0 : (0 : Int) ≤ (m : Int) := by omega
          have hj1 : (m : Int) < (n.ws.length : Int) := by omega
          have hg : decide (((m + 1 : Nat) : Int) > 0) = true := decide_eq_true (by omega)
          have f1 := PV.out m rfl
          obtain ⟨po, hpo⟩ : ∃ po, Nt.obj n.ws m = po := ⟨_, rfl⟩
          rw [hpo] at f1
          have k7 : ∀ d os, (Sort.grow (redrawn W1 d) os).cell? ⟨b, off + m * 4 + 2, none⟩ = some (.int .i64 po) := cell_regrown (cell_later hbn f1)
          have HPO := Lib.hid hpo
          clear f1 hpo
          by_cases hge : o ≤ po
          · have d5 : decide (o ≤ po) = true := decide_eq_true hge
            have HNO := Lib.hid (NO.out (fun h => by have h2 := h.2.2.2 (by omega); rw [show m + 1 - 1 = m from rfl, HPO.out] at h2; omega))
            go_wp2_with fail
            rw [HW1.out]
            refine wp_region_quiet_below (by kernel_rfl) (by kernel_rfl) ?_
            repeat (first | go_big_quiet_step (first | exact CH.out _ _ | exact CI.out _ _) | quiet_step (first | exact CH.out _ _ | exact CI.out _ _))
            refine wpQuiet_nil ?_
            intro _ hw'
            obtain ⟨⟨dq, osq⟩, hw''⟩ := hw'
            subst hw''
            go_wp2
            go_ret
            exact ⟨by rw [HR.out, HNO.out]; rfl, below_on hb0 (below_on hbw1 (below_regrown W1 dq osq))⟩
          · have d5 : decide (o ≤ po) = false := decide_eq_false hge
            have HT := Lib.hid (NX.out rfl ⟨d2, d4⟩ rfl (fun _ => by rw [show m + 1 - 1 = m from rfl, HPO.out]; omega))
            go_wp2_with fail
            rw [HW1.out]
            refine wp_region_quiet_below (by kernel_rfl) (by kernel_rfl) ?_
            repeat (first | go_big_quiet_step (first | exact CH.out _ _ | exact CI.out _ _) | quiet_step (first | exact CH.out _ _ | exact CI.out _ _))
            refine wpQuiet_nil ?_
            intro _ hw'
            obtain ⟨⟨dq, osq⟩, hw''⟩ := hw'
            subst hw''
            go_wp2_with fail
            go_roundw
            case rel => exact ⟨_, by omega, by first | rfl | go_num, HT.out, below_on hbw1 (below_regrown W1 dq osq)⟩
            case measure => simp [intOf]; omega
    · have hkl : k = n.ws.length := by omega
      have hok : Nt.wsOk n = true := (Nt.wsOk_iff n).2 (by rw [← hkl]; exact HALL.out)
      have HOK := Lib.hid hok
      clear hok
      subst hkl
      go_wp2
      go_ret
      exact ⟨by rw [HR.out, HOK.out]; rfl, below_on hb0 hbw⟩

end Go.Proofs.Ytoaclofobfaflaa
namespace Go.Proofs.Ytoaclofobfaflaa
open Go.RowKit

section
variable {P : Program}
theorem results_cell_tmp {fn : Func} {p t1 : Tmp} {ty : TypeId} (h : fn.results = #[.cell p ty, .tmp t1]) (tmps : Array Value) (w : World) (g : Nat) (t : TypeId) (cs : Array Value) (d : TypeDesc)
    (hp : tmps.getD p undef = .pointer (some ⟨g, 0, none⟩)) (hg : Blk w g t cs) (hu : P.underlying ty = some d) (hd : (match d with | .struct _ | .array _ _ => true | _ => false) = true) (hi : (P.info? ty).map (·.size) = some cs.size) :
    (results fn tmps).run P w = .ok (.tuple #[.agg cs, tmps.getD t1 undef]) w := by
  have hp' : tmps[p]?.getD undef = .pointer (some ⟨g, 0, none⟩) := by simpa using hp
  simp [results, h, hp', asAddr, run_loadVar_row w g t ty cs (0, 0) d hg hu hd hi]
theorem results_cell_tmp2 {fn : Func} {p t1 t2 : Tmp} {ty : TypeId} (h : fn.results = #[.cell p ty, .tmp t1, .tmp t2]) (tmps : Array Value) (w : World) (g : Nat) (t : TypeId) (cs : Array Value) (d : TypeDesc)
    (hp : tmps.getD p undef = .pointer (some ⟨g, 0, none⟩)) (hg : Blk w g t cs) (hu : P.underlying ty = some d) (hd : (match d with | .struct _ | .array _ _ => true | _ => false) = true) (hi : (P.info? ty).map (·.size) = some cs.size) :
    (results fn tmps).run P w = .ok (.tuple #[.agg cs, tmps.getD t1 undef, tmps.getD t2 undef]) w := by
  have hp' : tmps[p]?.getD undef = .pointer (some ⟨g, 0, none⟩) := by simpa using hp
  simp [results, h, hp', asAddr, run_loadVar_row w g t ty cs (0, 0) d hg hu hd hi]
end

namespace Nt
def wrV (x : Wr) : Value := .agg #[.int .i64 x.1, .int .i64 x.2.1, .int .i64 x.2.2.1, .bool x.2.2.2]
def wrArr (x : Wr) : Array Value := #[.int .i64 x.1, .int .i64 x.2.1, .int .i64 x.2.2.1, .bool x.2.2.2]
/-- The first write of an object, and whether there is one. -/
def at_ (l : List Wr) (o : Int) : Wr × Bool := match l.find? (fun x => decide (x.2.2.1 = o)) with
  | some x => (x, true)
  | none => (zeroW, false)
theorem at_some {l : List Wr} {o : Int} {k : Nat} (hk : k < l.length) (h : obj l k = o) (hb : ∀ j, j < k → obj l j ≠ o) : at_ l o = (l.getD k zeroW, true) := by
  have : l.find? (fun x => decide (x.2.2.1 = o)) = some (l.getD k zeroW) := by
    rw [List.find?_eq_some_iff_getElem]
    have e : l.getD k zeroW = l[k] := by rw [List.getD_eq_getElem?_getD, List.getElem?_eq_getElem hk]; rfl
    refine ⟨decide_eq_true h, k, hk, e.symm, fun j hj => ?_⟩
    have h2 := hb j hj
    unfold obj at h2
    rw [List.getD_eq_getElem?_getD, List.getElem?_eq_getElem (by omega)] at h2
    simpa using h2
  unfold at_
  rw [this]
theorem at_none {l : List Wr} {o : Int} (hb : ∀ j, j < l.length → obj l j ≠ o) : at_ l o = (zeroW, false) := by
  have : l.find? (fun x => decide (x.2.2.1 = o)) = none := by
    rw [List.find?_eq_none]
    intro x hx
    obtain ⟨j, hj, rfl⟩ := List.mem_iff_getElem.1 hx
    have h2 := hb j hj
    unfold obj at h2
    rw [List.getD_eq_getElem?_getD, List.getElem?_eq_getElem hj] at h2
    simpa using h2
  unfold at_
  rw [this]
end Nt
theorem infoW4 : (Try.prog.info? 35).map (·.size) = some 4 := by kernel_rfl

set_option maxHeartbeats 1600000 in
theorem nat_any (A : Option Addr) (c : Nat) (l : List Wr) (o : Int) (w : World) (h : OneW w A c l) :
    Calls Try.prog 52 #[.slice A l.length c, .int .i64 o] w (Says (.tuple #[Nt.wrV (Nt.at_ l o).1, .bool (Nt.at_ l o).2]) w) := by
  have hl := h.len
  have H1 := Lib.hid h
  clear h
  go_enter Try.func52, Try.ntmps52
  go_wp2_with fail
  go_loopw [6] (fun s6 wr => ∃ k : Nat, k ≤ l.length ∧ s6 = .int .i64 (k : Int) ∧ (∀ j, j < k → Nt.obj l j ≠ o) ∧ Blk wr w.heap.size 35 (Nt.wrArr Nt.zeroW) ∧ Below w.heap.size w wr) (fun s6 _ => l.length - (intOf s6).toNat)
  case atStart => exact ⟨0, Nat.zero_le _, rfl, (fun j hj => by omega), Blk.new _ _ _, below_new (Below.refl _ _) _⟩
  case round =>
    obtain ⟨k, hk, rfl, hall, hB, hbw⟩ := hrel
    have HALL := Lib.hid hall
    clear hall
    have z0 := hB.cell (i := 0) rfl
    have z1 := hB.cell (i := 1) rfl
    have z2 := hB.cell (i := 2) rfl
    have z3 := hB.cell (i := 3) rfl
    have y0 := hB.free 0
    have y1 := hB.free 1
    have y2 := hB.free 2
    have y3 := hB.free 3
    have HB := Lib.hid hB
    clear hB
    by_cases hlt : k < l.length
    · have hne : l ≠ [] := fun e => by subst e; simp at hlt
      obtain ⟨b, off, hA, hcA⟩ := (H1.out.later hbw).at hne
      have H1' := H1
      subst hA
      obtain ⟨e0, e1, e2, e3⟩ := hcA k hlt
      clear hcA
      have hi0 : (0 : Int) ≤ (k : Int) := by omega
      have hi1 : (k : Int) < (l.length : Int) := by omega
      have hob : (l.getD k Nt.zeroW).2.2.1 = Nt.obj l k := rfl
      by_cases heq : Nt.obj l k = o
      · have hd : (Nt.obj l k == o) = true := beq_iff_eq.2 heq
        have hat := Nt.at_some hlt heq HALL.out
        obtain ⟨x, hx⟩ : ∃ x, l.getD k Nt.zeroW = x := ⟨_, rfl⟩
        rw [hx] at e0 e1 e2 e3 hob hat
        rw [← hob] at hd
        have HAT := Lib.hid hat
        have hbf : b ≠ w.heap.size := fun e => by
          have hq := World.cell?_of_block (w := wr) (w' := wr) (a := ⟨b, off + k * 4, none⟩) rfl
          have h0 := H1.out.2.2.2
          have hne2 : Nt.wrCells l ≠ [] := fun e2 => hne (Nt.wrCells_nil.1 e2)
          obtain ⟨b', off', hA', hc'⟩ := h0 hne2
          injection hA' with hA'
          injection hA' with hA1 hA2
          obtain ⟨q1, _⟩ := Nt.wrCells_get l k hlt
          have := World.block_lt_of_cell? _ _ (hc' _ _ q1)
          simp at this
          omega
        clear hat hx hob heq
        go_wp2
        have hB4 : Blk ((((wr.setCell ⟨w.heap.size, 0, none⟩ (.int .i64 x.1)).setCell ⟨w.heap.size, 1, none⟩ (.int .i64 x.2.1)).setCell ⟨w.heap.size, 2, none⟩ (.int .i64 x.2.2.1)).setCell ⟨w.heap.size, 3, none⟩ (.bool x.2.2.2)) w.heap.size 35 (Nt.wrArr x) := (((HB.out.put 0 _).put 1 _).put 2 _).put 3 _
        exact bodyPost_ret (v := .tuple #[Nt.wrV x, .bool true]) (results_cell_tmp (p := 4) (t1 := 5) (ty := 35) rfl _ _ w.heap.size 35 (Nt.wrArr x) _ rfl hB4 Try.underlying35 rfl infoW4) rfl ⟨by rw [HAT.out], (((hbw.setCell (p := ⟨w.heap.size, 0, none⟩) (Nat.le_refl _) _).setCell (p := ⟨w.heap.size, 1, none⟩) (Nat.le_refl _) _).setCell (p := ⟨w.heap.size, 2, none⟩) (Nat.le_refl _) _).setCell (p := ⟨w.heap.size, 3, none⟩) (Nat.le_refl _) _⟩
      · have hd : (Nt.obj l k == o) = false := beq_eq_false_iff_ne.2 heq
        have HT := Lib.hid (show ∀ j, j < k + 1 → Nt.obj l j ≠ o from fun j hj => by
          by_cases e : j = k
          · subst e; exact heq
          · exact HALL.out j (by omega))
        obtain ⟨x, hx⟩ : ∃ x, l.getD k Nt.zeroW = x := ⟨_, rfl⟩
        rw [hx] at e0 e1 e2 e3 hob
        rw [← hob] at hd
        clear hob heq hx
        go_wp2_with fail
        go_roundw
        case rel => exact ⟨k + 1, by omega, by go_num, HT.out, HB.out, hbw⟩
        case measure => simp [intOf]; omega
    · have hkl : k = l.length := by omega
      have hat := Nt.at_none (l := l) (o := o) (fun j hj => HALL.out j (by omega))
      have HAT := Lib.hid hat
      clear hat
      subst hkl
      go_wp2
      have hB4 : Blk ((((wr.setCell ⟨w.heap.size, 0, none⟩ (.int .i64 0)).setCell ⟨w.heap.size, 1, none⟩ (.int .i64 0)).setCell ⟨w.heap.size, 2, none⟩ (.int .i64 0)).setCell ⟨w.heap.size, 3, none⟩ (.bool false)) w.heap.size 35 (Nt.wrArr Nt.zeroW) := (((HB.out.put 0 _).put 1 _).put 2 _).put 3 _
      exact bodyPost_ret (v := .tuple #[Nt.wrV Nt.zeroW, .bool false]) (results_cell_tmp (p := 4) (t1 := 5) (ty := 35) rfl _ _ w.heap.size 35 (Nt.wrArr Nt.zeroW) _ rfl hB4 Try.underlying35 rfl infoW4) rfl ⟨by rw [HAT.out], (((hbw.setCell (p := ⟨w.heap.size, 0, none⟩) (Nat.le_refl _) _).setCell (p := ⟨w.heap.size, 1, none⟩) (Nat.le_refl _) _).setCell (p := ⟨w.heap.size, 2, none⟩) (Nat.le_refl _) _).setCell (p := ⟨w.heap.size, 3, none⟩) (Nat.le_refl _) _⟩

end Go.Proofs.Ytoaclofobfaflaa
