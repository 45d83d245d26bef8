/-
  The law CachePuts over the contracts of cache's functions.
-/
import Derived.Test.YtmccednfaemiaaaCaLawG
import Derived.Test.YtmccednfaemiaaaCaPoke
import Derived.Laws.BitsAllLaws
namespace Go.Proofs.Ytmccednfaemiaaa
open Go.RowKit Fb

theorem isB_xor {x : Int} (h : isB x) : isB (bits BinOp.xor IntKind.u8 x 255) := by
  obtain ⟨h1, h2⟩ := h
  rw [u8_xor x 255 h1 h2 (by omega) (by omega)]
  have : x.toNat ^^^ (255 : Int).toNat < 256 := Nat.xor_lt_two_pow (n := 8) (by omega) (by decide)
  unfold isB
  omega
/-- A store where no byte stands leaves bytes as they were. -/
theorem OneB.aside {w : World} {X : Option Addr} {d : Nat} {v : List Int} (h : OneB w X d v) {g i : Nat} {u y : Value} (hc : w.cell? ⟨g, i, none⟩ = some u) (hu : ∀ x, u ≠ .int .u8 x) : OneB (w.setCell ⟨g, i, none⟩ y) X d v :=
  ⟨h.le, h.cap, h.noA, fun hne => by
    obtain ⟨b, off, hX, hl⟩ := h.lies hne
    refine ⟨b, off, hX, fun j z hz => ?_⟩
    have h1 := hl j z hz
    rw [World.cell?_setCell_other (h := fun e => by
      rw [← e, hc] at h1
      injection h1 with h1
      obtain ⟨x, _, hx⟩ := List.mem_map.1 (List.mem_of_getElem? hz)
      exact hu x (h1.trans hx.symm))]
    exact h1, h.byte⟩
/-- A body's cells are written into a new block: other bodies stay. -/
theorem OneC.aside {w : World} {A : Option Addr} {c : Nat} {M : List Bc} (h : OneC w A c M) {g : Nat} {t : TypeId} {y0 y1 y2 : Int} {y3 : Value} (hB : Blk w g t #[.int .i64 0, .int .i64 0, .int .i64 0, .slice none 0 0]) (hg : ∀ b off, A = some ⟨b, off, none⟩ → M.length ≠ 0 → b ≠ g) :
    OneC ((((w.setCell ⟨g, 0, none⟩ (.int .i64 y0)).setCell ⟨g, 1, none⟩ (.int .i64 y1)).setCell ⟨g, 2, none⟩ (.int .i64 y2)).setCell ⟨g, 3, none⟩ y3) A c M := by
  refine ⟨h.le, h.cap, h.noA, fun hne => ?_, fun z hz => ?_⟩
  · obtain ⟨b, off, hA, hl⟩ := h.lies hne
    have hbg := hg b off hA (fun e => hne (Ca.cells_nil.2 (List.eq_nil_of_length_eq_zero e)))
    refine ⟨b, off, hA, fun j u hu => ?_⟩
    refine (World.cell?_of_block ?_).trans (hl j u hu)
    exact (((Below.heap_setCell _ _ _ _ hbg).trans (Below.heap_setCell _ _ _ _ hbg)).trans (Below.heap_setCell _ _ _ _ hbg)).trans (Below.heap_setCell _ _ _ _ hbg)
  · have h0 := (h.each z hz).aside (y := .int .i64 y0) (hB.cell (i := 0) rfl) (fun x e => by cases e)
    have h1 := h0.aside (y := .int .i64 y1) ((hB.put 0 (.int .i64 y0)).cell (i := 1) rfl) (fun x e => by cases e)
    have h2 := h1.aside (y := .int .i64 y2) (((hB.put 0 (.int .i64 y0)).put 1 (.int .i64 y1)).cell (i := 2) rfl) (fun x e => by cases e)
    exact h2.aside (y := y3) ((((hB.put 0 (.int .i64 y0)).put 1 (.int .i64 y1)).put 2 (.int .i64 y2)).cell (i := 3) rfl) (fun x e => by cases e)
theorem OneB.aside4 {w : World} {X : Option Addr} {d : Nat} {v : List Int} (h : OneB w X d v) {g : Nat} {t : TypeId} {y0 y1 y2 : Int} {y3 : Value} (hB : Blk w g t #[.int .i64 0, .int .i64 0, .int .i64 0, .slice none 0 0]) :
    OneB ((((w.setCell ⟨g, 0, none⟩ (.int .i64 y0)).setCell ⟨g, 1, none⟩ (.int .i64 y1)).setCell ⟨g, 2, none⟩ (.int .i64 y2)).setCell ⟨g, 3, none⟩ y3) X d v := by
  have h0 := h.aside (y := .int .i64 y0) (hB.cell (i := 0) rfl) (fun x e => by cases e)
  have h1 := h0.aside (y := .int .i64 y1) ((hB.put 0 (.int .i64 y0)).cell (i := 1) rfl) (fun x e => by cases e)
  have h2 := h1.aside (y := .int .i64 y2) (((hB.put 0 (.int .i64 y0)).put 1 (.int .i64 y1)).cell (i := 2) rfl) (fun x e => by cases e)
  exact h2.aside (y := y3) ((((hB.put 0 (.int .i64 y0)).put 1 (.int .i64 y1)).put 2 (.int .i64 y2)).cell (i := 3) rfl) (fun x e => by cases e)

set_option maxRecDepth 100000 in
set_option maxHeartbeats 12800000 in
theorem lawCPuts_any (SS : CacheSpec) (A X : Option Addr) (c0 d : Nat) (L : List Bc) (room : Int) (x : Bd) (w : World) (h : OneC w A c0 L) (hx : OneB w X d x.v) (hn : L.length * 48 ≤ 140737488355328) (hz : ∀ z ∈ L, z.b.v.length ≤ 140737488355328) (hxz : x.v.length ≤ 140737488355328) :
    Calls Try.prog 4 #[.slice A L.length c0, .int .i64 room, .agg (bdCells X d x)] w (Says (.bool true) w) := by
  obtain ⟨x0, x1, x2, vl⟩ := x
  unfold bdCells
  dsimp only at hx hxz ⊢
  have b0 := below_new (Below.refl w.heap.size w) (.cells #[.int .i64 x0, .int .i64 x1, .int .i64 x2, .slice X vl.length d] 38)
  have B0 := Blk.new w 38 #[.int .i64 x0, .int .i64 x1, .int .i64 x2, .slice X vl.length d]
  obtain ⟨W0, hW⟩ : ∃ W0, w.alloc (.cells #[.int .i64 x0, .int .i64 x1, .int .i64 x2, .slice X vl.length d] 38) = W0 := ⟨_, rfl⟩
  rw [hW] at b0 B0
  have HW := Lib.hid hW
  have HL := Lib.hid h
  have HB := Lib.hid b0
  have HS := Lib.hid B0
  have HV := Lib.hid hx
  have HVB := Lib.hid hx.byte
  have N0 := Lib.hid (calive_any SS W0)
  have NG := Lib.hid (fun w' (hb : Below w.heap.size w w') => cgreat_any A c0 L w' (h.later hb) hn hz)
  by_cases hg : 1048576 ≤ L.length + Ca.used (L.map Bc.b)
  · rw [decide_eq_true hg] at NG
    clear hg b0 B0 hW h hx
    go_enter Try.func4, Try.ntmps4
    go_wp2_with fail
    rw [HW.out]
    refine N0.out.mono ?_
    rintro e w1 ⟨rfl, b1⟩
    have NG' := Lib.hid (NG.out w1 (below_on HB.out b1))
    have B1 := Lib.hid (below_on HB.out b1)
    clear b1 N0 NG
    go_wp2_with fail
    refine NG'.out.mono ?_
    rintro e w2 ⟨rfl, b2⟩
    have B2 := Lib.hid (below_on B1.out b2)
    clear b2 NG' B1
    go_wp2
    go_ret
    exact ⟨rfl, B2.out⟩
  rw [decide_eq_false hg] at NG
  have hsm : L.length + Ca.used (L.map Bc.b) < 1048576 := by omega
  have hfit := Fits.of_small hsm
  obtain ⟨bl, hbl⟩ : ∃ bl, L.map Bc.b = bl := ⟨_, rfl⟩
  have NC0 := Lib.hid (fun w' (hb : Below w.heap.size w w') => show Calls Try.prog 9 #[.slice A L.length c0] w' (GivesC bl w') from by rw [← hbl]; exact ccopy_any A c0 L w' (h.later hb) hfit)
  have NB0 := Lib.hid (fun w' (hb : Below w.heap.size w w') => show Calls Try.prog 18 #[.agg #[.int .i64 x0, .int .i64 x1, .int .i64 x2, .slice X vl.length d]] w' (GivesBd ⟨x0, x1, x2, vl⟩ w') from cbody_any X d ⟨x0, x1, x2, vl⟩ w' hxz (hx.later hb))
  have N1 := Lib.hid (fun A1 c1 M Y e wx (hO : OneC wx A1 c1 M) (hM : M.map Bc.b = bl) (hY : OneB wx Y e vl) => show Calls Try.prog 19 #[.slice A1 M.length c1, .int .i64 room, .agg #[.int .i64 x0, .int .i64 x1, .int .i64 x2, .slice Y vl.length e]] wx (GivesCE (Ca.putR bl room ⟨x0, x1, x2, vl⟩).1 (Ca.putR bl room ⟨x0, x1, x2, vl⟩).2 wx) from by
    have := SS.put A1 Y c1 e M room ⟨x0, x1, x2, vl⟩ wx hO hY
    rwa [hM] at this)
  have N2 := Lib.hid (fun w' (hb : Below w.heap.size w w') => show Calls Try.prog 20 #[.slice A L.length c0, .int .i64 room, .agg #[.int .i64 x0, .int .i64 x1, .int .i64 x2, .slice X vl.length d]] w' (GivesCE (Ca.putR bl room ⟨x0, x1, x2, vl⟩).1 (Ca.putR bl room ⟨x0, x1, x2, vl⟩).2 w') from by
    have := cput_any A X c0 d L room ⟨x0, x1, x2, vl⟩ w' (h.later hb) (hx.later hb)
    rwa [hbl] at this)
  have N3 := Lib.hid (fun A1 c1 M wx (hO : OneC wx A1 c1 M) (hM : M.map Bc.b = bl) => show Calls Try.prog 21 #[.slice A1 M.length c1, .int .i64 room] wx (Says (.bool (Ca.fmd bl room)) wx) from by
    have := SS.formed A1 c1 M room wx hO
    rwa [hM] at this)
  have N4 := Lib.hid (fun w' (hb : Below w.heap.size w w') => show Calls Try.prog 22 #[.slice A L.length c0, .int .i64 room] w' (Says (.bool (Ca.fmd bl room)) w') from by
    have := cformed_any A c0 L room w' (h.later hb)
    rwa [hbl] at this)
  obtain ⟨⟨pl, pe⟩, hp⟩ : ∃ r, Ca.putR bl room ⟨x0, x1, x2, vl⟩ = r := ⟨_, rfl⟩
  rw [hp] at N1 N2
  dsimp only at N1 N2
  obtain ⟨fq, hfq⟩ : ∃ f, Ca.fmd bl room = f := ⟨_, rfl⟩
  rw [hfq] at N3 N4
  have HBL := Lib.hid hbl
  clear hg hsm hfit hbl hp hfq b0 B0 hW h hx hn hz hxz
  go_enter Try.func4, Try.ntmps4
  go_wp2_with fail
  rw [HW.out]
  refine N0.out.mono ?_
  rintro e w1 ⟨rfl, b1⟩
  have NG' := Lib.hid (NG.out w1 (below_on HB.out b1))
  have B1 := Lib.hid (below_on HB.out b1)
  have S1 := Lib.hid (HS.out.later b1)
  clear b1 N0 NG HS HB HW
  go_wp2_with fail
  refine NG'.out.mono ?_
  rintro e W ⟨rfl, b2⟩
  have B2 := Lib.hid (below_on B1.out b2)
  have S2 := Lib.hid (S1.out.later b2)
  have hzw := S2.out.lt
  have HX := Lib.hid (show W.cell? ⟨w.heap.size, 0, none⟩ = some (.int .i64 x0) ∧ W.cell? ⟨w.heap.size, 1, none⟩ = some (.int .i64 x1) ∧ W.cell? ⟨w.heap.size, 2, none⟩ = some (.int .i64 x2) ∧ W.cell? ⟨w.heap.size, 3, none⟩ = some (.slice X vl.length d) from ⟨S2.out.cell rfl, S2.out.cell rfl, S2.out.cell rfl, S2.out.cell rfl⟩)
  have NC := Lib.hid (fun w' (hb : Below W.heap.size W w') => NC0.out w' (below_on B2.out hb))
  have NB := Lib.hid (fun w' (hb : Below W.heap.size W w') => NB0.out w' (below_on B2.out hb))
  clear b2 NG' B1 S1 NC0 NB0
  go_upto_region 5 with (fail)
  refine wp_region_facts2 5 (by kernel_rfl) (by kernel_rfl)
    (fun v => { tmps := #[.slice A L.length c0, .int .i64 room, .agg #[.int .i64 x0, .int .i64 x1, .int .i64 x2, .slice X vl.length d], undef, undef, .pointer (some ⟨w.heap.size, 0, none⟩), .bool false, undef, v 4, undef, undef, undef, undef, undef, undef, undef, .bool true, .bool false, .slice A L.length c0, .bool false, v 0, v 1, v 2, v 3, undef, undef, undef, undef, undef, undef, undef, undef, undef, undef, undef, undef, undef, undef, undef, undef, undef, undef, undef, undef, undef, undef, undef, undef, undef, undef, undef, undef, undef, undef, undef, undef, undef, undef, undef, undef, undef, undef, undef, undef, undef, undef, undef, undef, undef, undef, undef, undef, undef, undef, undef, undef, undef, undef, undef, undef, undef, undef, undef, undef, undef, undef, undef, undef, undef, undef, undef, undef], defers := [] }) (fun _ => undef)
    (fun i x wx => match i with
      | 0 => x = .slice A L.length c0
      | 1 => ∃ A1 c1 M, x = .slice A1 (List.length M) c1 ∧ List.map Bc.b M = bl ∧ OneC wx A1 c1 M
      | 2 => x = .agg #[.int .i64 x0, .int .i64 x1, .int .i64 x2, .slice X vl.length d]
      | 3 => ∃ Y e, x = .agg #[.int .i64 x0, .int .i64 x1, .int .i64 x2, .slice Y vl.length e] ∧ OneB wx Y e vl
      | 4 => ∃ g, x = .pointer (some ⟨g, 0, none⟩) ∧ Blk wx g 38 #[.int .i64 0, .int .i64 0, .int .i64 0, .slice none 0 0] ∧ W.heap.size ≤ g
      | _ => True)
    (fun i j x y => (i = 4 ∧ j = 1) → ∀ g b off n c, x = .pointer (some ⟨g, 0, none⟩) → y = .slice (some ⟨b, off, none⟩) n c → n ≠ 0 → b ≠ g)
    (fun w1 w2 => Below w1.heap.size w1 w2) (fun h1 h2 => below_on h1 h2) (fun _ => Below.refl _ _) (Below.drew (Below.refl _ _)) ?stab ?step ?done
  case stab =>
    rintro i x w1 w2 h hb
    match i, h with
    | 0, h => exact h
    | 1, h => obtain ⟨A1, c1, M, h1, h2, h3⟩ := h; exact ⟨A1, c1, M, h1, h2, h3.later hb⟩
    | 2, h => exact h
    | 3, h => obtain ⟨Y, e, h1, h2⟩ := h; exact ⟨Y, e, h1, h2.later hb⟩
    | 4, h => obtain ⟨g, h1, h2, h3⟩ := h; exact ⟨g, h1, h2.later hb, h3⟩
    | i + 5, _ => trivial
  case step =>
    intro i hi v w' hb hd
    match i, hi with
    | 0, _ =>
      refine wpOp_oneK rfl (fun KK hKK => ?_)
      have HKK := Lib.hid hKK
      clear hKK hd
      go_wp2
      exact HKK.out _ _ ⟨_, (by simp [upd]; done), Below.refl _ _, rfl, fun _ _ _ _ => ⟨fun h => absurd h.1 (by decide), fun h => absurd h.2 (by decide)⟩⟩
    | 1, _ =>
      have h0 : v 0 = _ := hd 0 (List.elem_iff.1 (by kernel_rfl))
      refine wpOp_oneK rfl (fun KK hKK => ?_)
      have HKK := Lib.hid hKK
      clear hKK hd
      rw [h0]
      go_wp2_with fail
      refine (NC.out _ hb).mono ?_
      rintro e w'' ⟨A1, c1, M, rfl, hm, ho, b⟩
      have HO := Lib.hid ho
      have HM := Lib.hid hm
      clear ho hm
      go_wp2
      exact HKK.out _ _ ⟨_, (by simp [upd, h0]; done), b, ⟨A1, c1, M, rfl, HM.out, HO.out.one⟩, fun j y _ hy => ⟨fun h => absurd h.1 (by decide), fun h => by
        obtain ⟨rfl, -⟩ := h
        obtain ⟨g, hg1, hg2, -⟩ := hy
        intro g' b' off n c' e1 e2 _
        rw [hg1] at e1
        injection e1 with e1; injection e1 with e1; injection e1 with e1
        injection e2 with e2
        have h3 := HO.out.row b' off e2
        have h4 := hg2.lt
        omega⟩⟩
    | 2, _ =>
      refine wpOp_oneK rfl (fun KK hKK => ?_)
      have HKK := Lib.hid hKK
      clear hKK hd
      have q0 := cell_later hb HX.out.1
      have q1 := cell_later hb HX.out.2.1
      have q2 := cell_later hb HX.out.2.2.1
      have q3 := cell_later hb HX.out.2.2.2
      go_wp2
      exact HKK.out _ _ ⟨_, (by simp [upd]; done), Below.refl _ _, rfl, fun _ _ _ _ => ⟨fun h => absurd h.1 (by decide), fun h => absurd h.2 (by decide)⟩⟩
    | 3, _ =>
      have h2 : v 2 = _ := hd 2 (List.elem_iff.1 (by kernel_rfl))
      refine wpOp_oneK rfl (fun KK hKK => ?_)
      have HKK := Lib.hid hKK
      clear hKK hd
      rw [h2]
      go_wp2_with fail
      refine (NB.out _ hb).mono ?_
      rintro e w'' ⟨Y, ey, rfl, ho, b⟩
      obtain ⟨Y', ey', hv, hoy⟩ := OneB.of_own ho HVB.out
      injection hv with hv1 _ hv3
      subst hv1 hv3
      have HO := Lib.hid hoy
      clear ho hoy
      unfold bdCells
      go_wp2
      exact HKK.out _ _ ⟨_, (by simp [upd, h2]; done), b, ⟨Y, ey, rfl, HO.out⟩, fun _ _ _ _ => ⟨fun h => absurd h.1 (by decide), fun h => absurd h.2 (by decide)⟩⟩
    | 4, _ =>
      refine wpOp_oneK rfl (fun KK hKK => ?_)
      have HKK := Lib.hid hKK
      clear hKK hd
      have bn := below_new (Below.refl w'.heap.size w') (.cells #[.int .i64 0, .int .i64 0, .int .i64 0, .slice none 0 0] 38)
      have HBN := Lib.hid (Blk.new w' 38 #[.int .i64 0, .int .i64 0, .int .i64 0, .slice none 0 0])
      have hsz := hb.size
      go_wp2
      exact HKK.out _ _ ⟨_, (by simp [upd]; done), bn, ⟨w'.heap.size, rfl, HBN.out, hsz⟩, fun j y _ hy => ⟨fun h => by
        obtain ⟨-, rfl⟩ := h
        obtain ⟨A1, c1, M, hy1, -, hy3⟩ := hy
        intro g' b' off n c' e1 e2 hn
        injection e1 with e1; injection e1 with e1; injection e1 with e1
        rw [hy1] at e2
        injection e2 with e2 e3 e4
        have hne : M ≠ [] := fun e => hn (by rw [← e3, e]; rfl)
        obtain ⟨b9, off9, h9, hc9⟩ := hy3.at hne
        rw [e2] at h9
        injection h9 with h9; injection h9 with h9
        have h10 := World.block_lt_of_cell? _ _ (hc9 0 (List.length_pos_iff.2 hne)).1
        simp at h10
        omega, fun h => absurd h.2 (by decide)⟩⟩
    | k + 5, hk => exact absurd hk (by omega)
  case done =>
    intro v w5 hb hf hrr
    obtain ⟨A1, c1, M1, h1, m1, o1⟩ := hf 1 (by decide)
    obtain ⟨Y3, e3, h3, o3⟩ := hf 3 (by decide)
    obtain ⟨g4, h4, b4, l4⟩ := hf 4 (by decide)
    have hr41 := hrr 4 1 (by omega) (by omega) (by omega)
    clear hf hrr
    rw [h1, h3, h4]
    simp only [List.drop_succ_cons, List.drop_zero]
    have hS5 := S2.out.later hb
    have hsg : w.heap.size ≠ g4 := by omega
    have hwg : w.heap.size ≤ g4 := by omega
    have q0 := b4.cell (i := 0) rfl
    have q1 := b4.cell (i := 1) rfl
    have q2 := b4.cell (i := 2) rfl
    have q3 := b4.cell (i := 3) rfl
    have f0 := b4.free 0
    have f1 := b4.free 1
    have f2 := b4.free 2
    have f3 := b4.free 3
    have hOM := o1.aside (y0 := x0) (y1 := x1) (y2 := x2) (y3 := .slice Y3 vl.length e3) b4 (fun b off e hl => hr41 ⟨rfl, rfl⟩ g4 b off _ c1 h4 (by rw [h1, e]) hl)
    have hOY := o3.aside4 (y0 := x0) (y1 := x1) (y2 := x2) (y3 := .slice Y3 vl.length e3) b4
    have hG := (((b4.put 0 (.int .i64 x0)).put 1 (.int .i64 x1)).put 2 (.int .i64 x2)).put 3 (.slice Y3 vl.length e3)
    have hS6 := (((hS5.far (p := ⟨g4, 0, none⟩) hsg (.int .i64 x0)).far (p := ⟨g4, 1, none⟩) hsg (.int .i64 x1)).far (p := ⟨g4, 2, none⟩) hsg (.int .i64 x2)).far (p := ⟨g4, 3, none⟩) hsg (.slice Y3 vl.length e3)
    have hB6 := ((((below_on B2.out hb).setCell (p := ⟨g4, 0, none⟩) hwg (.int .i64 x0)).setCell (p := ⟨g4, 1, none⟩) hwg (.int .i64 x1)).setCell (p := ⟨g4, 2, none⟩) hwg (.int .i64 x2)).setCell (p := ⟨g4, 3, none⟩) hwg (.slice Y3 vl.length e3)
    obtain ⟨w6, hw6⟩ : ∃ w6, (((w5.setCell ⟨g4, 0, none⟩ (.int .i64 x0)).setCell ⟨g4, 1, none⟩ (.int .i64 x1)).setCell ⟨g4, 2, none⟩ (.int .i64 x2)).setCell ⟨g4, 3, none⟩ (.slice Y3 vl.length e3) = w6 := ⟨_, rfl⟩
    rw [hw6] at hOM hOY hG hS6 hB6
    have HW6 := Lib.hid hw6
    have HM := Lib.hid m1
    have OM := Lib.hid hOM
    have OY := Lib.hid hOY
    have G6 := Lib.hid hG
    have S6 := Lib.hid hS6
    have B6 := Lib.hid hB6
    clear hb hS5 b4 hOM hOY hG hS6 hB6 hw6 m1 o1 o3 hr41 h1 h4 S2 HX NC NB B2
    go_upto_region 6 with (fail)
    rw [HW6.out]
    have NP := Lib.hid (N1.out A1 c1 M1 Y3 e3 w6 OM.out HM.out OY.out)
    have g0 := G6.out.cell (i := 0) rfl
    have g1 := G6.out.cell (i := 1) rfl
    have g2 := G6.out.cell (i := 2) rfl
    have g3 := G6.out.cell (i := 3) rfl
    clear HW6 N1 q0 q1 q2 q3 f0 f1 f2 f3
    go_wp2_with fail
    refine NP.out.mono ?_
    rintro e w7 ⟨AP, cP, P, rfl, hP, hO7, b7⟩
    have P7 := Lib.hid hO7
    have HP := Lib.hid hP
    have B67 := Lib.hid b7
    have B7 := Lib.hid (below_on B6.out b7)
    have hS7 := S6.out.later b7
    have s0 := hS7.cell (i := 0) rfl
    have s1 := hS7.cell (i := 1) rfl
    have s2 := hS7.cell (i := 2) rfl
    have s3 := hS7.cell (i := 3) rfl
    have NQ := Lib.hid (N2.out w7 (below_on B6.out b7))
    clear hO7 hP b7 hS7 NP N2 g0 g1 g2 g3
    go_wp2_with fail
    refine NQ.out.mono ?_
    rintro e w8 ⟨AQ, cQ, Q, rfl, hQ, hO8, b8⟩
    have P8 := Lib.hid (P7.out.later b8)
    have B68 := Lib.hid (below_on B67.out b8)
    have B8 := Lib.hid (below_on B7.out b8)
    have ns := csame_any AP AQ cP cQ P Q w8 (P7.out.later b8).one hO8.one
    rw [decide_eq_true (HP.out.trans hQ.symm)] at ns
    have NS := Lib.hid ns
    clear hO8 hQ b8 NQ B67 B7 P7 ns s0 s1 s2 s3
    go_wp2_with fail
    refine NS.out.mono ?_
    rintro e w9 ⟨rfl, b9⟩
    have P9 := Lib.hid (P8.out.later b9)
    have B69 := Lib.hid (below_on B68.out b9)
    have B9 := Lib.hid (below_on B8.out b9)
    have NF := Lib.hid (N3.out A1 c1 M1 w9 (OM.out.later (below_on B68.out b9)) HM.out)
    clear b9 NS B68 B8 P8 N3
    go_wp2_with fail
    refine NF.out.mono ?_
    rintro e w10 ⟨rfl, b10⟩
    have P10 := Lib.hid (P9.out.later b10)
    have B610 := Lib.hid (below_on B69.out b10)
    have B10 := Lib.hid (below_on B9.out b10)
    have NH := Lib.hid (N4.out w10 (below_on B9.out b10))
    clear b10 NF B69 B9 P9 N4
    go_wp2_with fail
    refine NH.out.mono ?_
    rintro e w11 ⟨rfl, b11⟩
    have P11 := Lib.hid (P10.out.later b11)
    have B611 := Lib.hid (below_on B610.out b11)
    have hqq : (fq == fq) = true := by simp
    have hplen := P11.out.one.len
    clear b11 NH B610 B10 P10
    go_wp2_with fail
    go_loopw [14] (fun s14 wr => ∃ (k : Nat) (P' : List Bc), s14 = .int .i64 (k : Int) ∧ k ≤ P.length ∧ P'.map Ca.shape = P.map Ca.shape ∧ OwnC wr w6.heap.size AP cP P' ∧ Below w6.heap.size w6 wr) (fun s14 _ => P.length - (intOf s14).toNat)
    case atStart => exact ⟨0, P, rfl, Nat.zero_le _, rfl, P11.out, B611.out⟩
    case round =>
      clear P11 B611
      obtain ⟨k, P', rfl, hk, hsh, hO, hbw⟩ := hrel
      by_cases hlt : k < P.length
      · have hi0 : (0 : Int) ≤ (k : Int) := by omega
        have hi1 : (k : Int) < (P.length : Int) := by omega
        have hd0 : decide ((k : Int) < (P.length : Int)) = true := decide_eq_true hi1
        have hne : P ≠ [] := fun e => by rw [e] at hlt; exact absurd hlt (Nat.not_lt_zero _)
        obtain ⟨X2, d2, hX2⟩ : ∃ X2 d2, (P.getD k Bc.zero).X = X2 ∧ (P.getD k Bc.zero).d = d2 := ⟨_, _, rfl, rfl⟩
        obtain ⟨n, hnn⟩ : ∃ n, (P.getD k Bc.zero).b.v.length = n := ⟨_, rfl⟩
        have hshp : ∀ P2 : List Bc, P2.map Ca.shape = P.map Ca.shape → k < P2.length ∧ (P2.getD k Bc.zero).X = X2 ∧ (P2.getD k Bc.zero).d = d2 ∧ (P2.getD k Bc.zero).b.v.length = n := fun P2 h2 => by
          have h3 := Ca.shape_at h2 k hlt
          have h4 := Ca.shape_len h2
          exact ⟨by omega, h3.1.trans hX2.1, h3.2.1.trans hX2.2, h3.2.2.trans hnn⟩
        have HSHP := Lib.hid hshp
        have HSH := Lib.hid hsh
        have HO := Lib.hid hO
        have BW := Lib.hid hbw
        have hn9 : n ≤ 9223372036854775807 := by
          obtain ⟨q1, q2, q3, q4⟩ := hshp P' hsh
          have := (hO.one.each _ (Ca.getD_mem q1)).len
          omega
        clear hsh hO hbw hX2 hnn hshp
        go_wp2_with fail
        go_loopw [15] (fun s15 wr => ∃ (j : Nat) (P' : List Bc), s15 = .int .i64 (j : Int) ∧ j ≤ n ∧ P'.map Ca.shape = P.map Ca.shape ∧ OwnC wr w6.heap.size AP cP P' ∧ Below w6.heap.size w6 wr) (fun s15 _ => n - (intOf s15).toNat)
        case atStart => exact ⟨0, P', rfl, Nat.zero_le _, HSH.out, HO.out, BW.out⟩
        case round =>
          clear HSH HO BW
          obtain ⟨j, P2, rfl, hj, hsh, hO, hbw⟩ := hrel
          obtain ⟨q1, q2, q3, q4⟩ := HSHP.out P2 hsh
          have hne2 : P2 ≠ [] := fun e => by rw [e] at q1; exact absurd q1 (Nat.not_lt_zero _)
          obtain ⟨rb, ro, hA, hcs⟩ := hO.one.at hne2
          obtain ⟨-, -, -, e3⟩ := hcs k q1
          rw [q2, q3, q4] at e3
          have hln : P2.length = P.length := Ca.shape_len hsh
          have hO' := hO
          have HO := Lib.hid hO
          have HSH := Lib.hid hsh
          have BW := Lib.hid hbw
          have HA := Lib.hid hA
          by_cases hjn : j < n
          · have hd1 : decide ((j : Int) < (n : Int)) = true := decide_eq_true (by omega)
            have hb1 := hO.one.each _ (Ca.getD_mem q1)
            have hy1 := hO.byte _ (Ca.getD_mem q1)
            rw [q2, q3] at hb1
            rw [q2] at hy1
            have hvne : (P2.getD k Bc.zero).b.v ≠ [] := fun e => by rw [e] at q4; simp at q4; omega
            obtain ⟨b9, off9, hX9, hc9⟩ := hb1.at hvne
            have c0 := hc9 j (by omega)
            obtain ⟨hy2, hy3, hy4⟩ := hy1 b9 off9 hX9
            have f0 := hy4 (off9 + j)
            have hbo : isB ((P2.getD k Bc.zero).b.v.getD j 0) := by
              have hj2 : j < (P2.getD k Bc.zero).b.v.length := by omega
              rw [List.getD_eq_getElem?_getD, List.getElem?_eq_getElem hj2]
              exact hb1.byte _ (List.getElem_mem hj2)
            have hle9 := hb1.le
            rw [q4] at hle9
            have hcap9 := hb1.cap
            unfold maxLen at hcap9
            obtain ⟨old, hold⟩ : ∃ x, (P2.getD k Bc.zero).b.v.getD j 0 = x := ⟨_, rfl⟩
            rw [hold] at c0 hbo
            have hpk := hO.poke c0 (isB_xor hbo)
            have hsp := (Ca.shape_poke b9 (off9 + j) (bits BinOp.xor IntKind.u8 old 255) P2).trans hsh
            have hbk := hbw.setCell (p := ⟨b9, off9 + j, none⟩) hy2 (.int .u8 (bits BinOp.xor IntKind.u8 old 255))
            have HPK := Lib.hid (And.intro hsp (And.intro hpk hbk))
            subst hX9 hA
            have hj0 : (0 : Int) ≤ (j : Int) := by omega
            have hj1 : (j : Int) < (n : Int) := by omega
            clear hpk hsp hbk hold hbo hb1 hy1 hy4 hc9 hcs hO hO' hsh hbw hvne hne2 HO HSH BW HA q2 q3 q4 hln
            go_wp2_with fail
            go_roundw
            case rel =>
              obtain ⟨z1, z2, z3⟩ := HPK.out
              exact ⟨j + 1, _, by go_num, by omega, z1, z2, z3⟩
            case measure => simp [intOf]; omega
          · have hd1 : decide ((j : Int) < (n : Int)) = false := decide_eq_false (by omega)
            subst hA
            clear hcs hO hO' hsh hbw hne2 q2 q3 q4 hln
            go_wp2_with fail
            go_roundw
            case rel => exact ⟨k + 1, P2, by first | rfl | (congr 1; omega), by omega, HSH.out, HO.out, BW.out⟩
            case measure => simp [intOf]; omega
      · have hd0 : decide ((k : Int) < (P.length : Int)) = false := decide_eq_false (by omega)
        have bbr := below_on B6.out hbw
        have ns := csame_any A1 A c1 c0 M1 L wr (OM.out.later hbw) (HL.out.later bbr)
        rw [decide_eq_true (HM.out.trans HBL.out.symm)] at ns
        have NS := Lib.hid ns
        have BBR := Lib.hid bbr
        have BW := Lib.hid hbw
        clear bbr ns hO hsh hbw
        go_wp2_with fail
        refine NS.out.mono ?_
        rintro e w13 ⟨rfl, b13⟩
        have BB13 := Lib.hid (below_on BBR.out b13)
        have BW13 := below_on BW.out b13
        have hG := G6.out.later BW13
        have hS := S6.out.later BW13
        have g0 := hG.cell (i := 0) rfl
        have g1 := hG.cell (i := 1) rfl
        have g2 := hG.cell (i := 2) rfl
        have g3 := hG.cell (i := 3) rfl
        have s0 := hS.cell (i := 0) rfl
        have s1 := hS.cell (i := 1) rfl
        have s2 := hS.cell (i := 2) rfl
        have s3 := hS.cell (i := 3) rfl
        have NT := Lib.hid (show Calls Try.prog 23 #[.agg #[.int .i64 x0, .int .i64 x1, .int .i64 x2, .slice Y3 vl.length e3], .agg #[.int .i64 x0, .int .i64 x1, .int .i64 x2, .slice X vl.length d]] w13 (Says (.bool true) w13) from by
          have := bsamebody_any Y3 X e3 d ⟨x0, x1, x2, vl⟩ ⟨x0, x1, x2, vl⟩ w13 (OY.out.later BW13) (HV.out.later BB13.out)
          rwa [(Wi.bsame_iff _ _).2 rfl] at this)
        clear b13 NS BBR BW hG hS BW13
        go_wp2_with fail
        refine NT.out.mono ?_
        rintro e w14 ⟨rfl, b14⟩
        have FB := Lib.hid (below_on BB13.out b14)
        clear b14 NT BB13
        go_wp2
        go_ret
        exact ⟨by first | rfl | simp, FB.out⟩
end Go.Proofs.Ytmccednfaemiaaa
