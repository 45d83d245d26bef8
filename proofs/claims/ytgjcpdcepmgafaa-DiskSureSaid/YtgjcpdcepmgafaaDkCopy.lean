/-
  Disks in memory of the call's own: what slices.Clone answers of files, disk's copied, telltaleref08's Copy.
-/
import Derived.Test.YtgjcpdcepmgafaaDkPlace
import Derived.Test.YtgjcpdcepmgafaaDkHalf
import Derived.Test.YtgjcpdcepmgafaaByClone
import Derived.Test.YtgjcpdcepmgafaaFresh
import Derived.Test.YtgjcpdcepmgafaaRegion
import Derived.Deep.RegionWith
namespace Go.Proofs.Ytgjcpdcepmgafaa
open Go.RowKit

theorem infoFi : (Try.prog.info? 43).map (fun i => (i.zero, i.size, i.bytes)) = some (some (.agg #[.int .i64 0, .slice none 0 0, .int .i64 0]), 3, 40) := by kernel_rfl

set_option maxHeartbeats 1600000 in
theorem cloneF_any (A : Option Addr) (c n : Nat) (xs : List Value) (w : World) (hn : n * 40 ≤ 140737488355328) (hA : A = none → n = 0 ∧ c = 0) (hx : xs.length = n * 3) (h1 : ∀ u ∈ xs, u.oneCell' = true) (h : Lies w A xs) :
    Calls Try.prog 47 #[.slice A n c] w fun e w' => ∃ v, e = .returned v ∧ w'.ownsRow w.heap.size 43 3 v n xs ∧ Below w.heap.size w w' := by
  obtain ⟨i0, hI, hz0, hz1, hz2⟩ := info_parts infoFi
  cases A with
  | none =>
    obtain ⟨rfl, rfl⟩ := hA rfl
    have hl0 : xs = [] := List.eq_nil_of_length_eq_zero (by simpa using hx)
    subst hl0
    clear h
    have hq := Lib.run_eql_slice_nil (P := Try.prog) w 22 43 none 0 0 0 0 Try.underlying22
    go_enter Try.func47, Try.ntmps47
    go_wp2
    go_ret
    exact ⟨_, rfl, ⟨rfl, .inl ⟨rfl, rfl⟩⟩, Below.refl _ _⟩
  | some a =>
    have hq := Lib.run_eql_slice_nil (P := Try.prog) w 22 43 (some a) n c 0 0 Try.underlying22
    have HL := Lib.hid (h.alloc (.cells #[] 43))
    have HB := Lib.hid (Blk.new w 43 #[])
    have b0 := below_new (Below.refl w.heap.size w) (.cells #[] 43)
    have HX := Lib.hid hx
    clear h hx hA
    go_enter Try.func47, Try.ntmps47
    go_wp2_with (at_builtin; refine wpList_append_fresh _ rfl _ _ 22 rfl w.heap.size w.heap.size 43 i0 (.agg #[.int .i64 0, .slice none 0 0, .int .i64 0]) 3 40 Try.underlying22 hI hz0 hz1 hz2 rfl (by decide) rfl HB.out (Nat.le_refl _) (some a) n c (fun h => by cases h) xs rfl HX.out HL.out h1 (by unfold maxLen; omega) hn ?_)
    intro v' w' ho hb
    have HO := Lib.hid ho
    clear ho
    go_wp2
    go_ret
    exact ⟨v', rfl, HO.out, below_on b0 (by rw [show (w.alloc (.cells #[] 43)).heap.size = w.heap.size + 1 from by simp]; exact hb)⟩

/-- A disk is answered, in memory of the call's own. -/
def GivesD (room : Int) (fs : List Fi) (w : World) (e : Ending) (w' : World) : Prop :=
  ∃ v L, e = .returned (.agg #[.int .i64 room, v]) ∧ OwnD w' w.heap.size 43 5 v L ∧ L.map Fc.fi = fs ∧ Below w.heap.size w w'
/-- The same, each file's bytes in a block that is theirs alone. -/
def GivesDS (room : Int) (fs : List Fi) (w : World) (e : Ending) (w' : World) : Prop :=
  ∃ v L, e = .returned (.agg #[.int .i64 room, v]) ∧ OwnD w' w.heap.size 43 5 v L ∧ (∀ f ∈ L, OwnS w' w.heap.size 5 f) ∧ L.map Fc.fi = fs ∧ Below w.heap.size w w'
/-- The room that a list of files takes. -/
structure Fit (L : List Fc) : Prop where
  n : L.length * 40 ≤ 140737488355328
  each : ∀ f ∈ L, f.l.length ≤ 140737488355328

set_option maxRecDepth 100000 in
set_option maxHeartbeats 3200000 in
theorem copied_any (room : Int) (A : Option Addr) (c : Nat) (L : List Fc) (w : World) (h : OneD w A c L) (hf : Fit L) :
    Calls Try.prog 39 #[.agg #[.int .i64 room, .slice A L.length c]] w (GivesDS room (L.map Fc.fi) w) := by
  have hlen := hf.n
  have bn := below_new (Below.refl w.heap.size w) (.cells #[.int .i64 room, .slice A L.length c] 24)
  have bn2 := below_new bn (.cells #[.int .i64 0, .slice none 0 0] 24)
  have N := Lib.hid (cloneF_any A c L.length (fCells L) _ hlen h.noA (fCells_length L) (fCells_one L) (h.lies.later bn2))
  have HD := Lib.hid h
  have HF := Lib.hid hf.each
  clear h hf
  go_enter Try.func39, Try.ntmps39
  go_wp2_with fail
  refine N.out.mono ?_
  rintro e w1 ⟨v, rfl, ho, b1⟩
  obtain ⟨V, cv, rfl, -, hcm, -, -⟩ := own_form ho
  have B0 := ((Blk.new w 24 #[.int .i64 room, .slice A L.length c]).alloc (.cells #[.int .i64 0, .slice none 0 0] 24)).later b1
  have B1 := (Blk.new (w.alloc (.cells #[.int .i64 room, .slice A L.length c] 24)) 24 #[.int .i64 0, .slice none 0 0]).later b1
  have B1' : Blk w1 (w.heap.size + 1) 24 #[.int .i64 0, .slice none 0 0] := by simpa using B1
  have c0 := B0.cell (i := 0) rfl
  have c1 := B0.cell (i := 1) rfl
  have f1 := B0.free 1
  have b2 := (below_on bn2 b1).setCell (p := ⟨w.heap.size, 1, none⟩) (Nat.le_refl _) (.slice V L.length cv)
  have ho2 : w1.ownsRow (w.heap.size + 2) 43 3 (.slice V L.length cv) L.length (fCells L) := by simpa using ho
  have hrow : HalfD (w1.setCell ⟨w.heap.size, 1, none⟩ (.slice V L.length cv)) (w.heap.size + 2) 43 5 (.slice V L.length cv) L 0 L := HalfD.start (own_stays ho2 fun k hk => Below.heap_setCell _ _ _ _ (by have := own_ge ho2 k hk; show k ≠ w.heap.size; omega))
  have HR := Lib.hid hrow
  have HB0 := Lib.hid (B0.put 1 (.slice V L.length cv))
  have HB1 := Lib.hid (B1'.far (p := ⟨w.heap.size, 1, none⟩) (by show w.heap.size + 1 ≠ w.heap.size; omega) (.slice V L.length cv))
  have HB := Lib.hid b2
  unfold maxLen at hcm
  clear ho ho2 B0 B1 B1' hrow b2 b1 bn bn2
  go_wp2_with fail
  go_loopw [12] (fun s12 wr => ∃ (k : Nat) (Lk : List Fc), k ≤ L.length ∧ s12 = .int .i64 (k : Int) ∧ HalfD wr (w.heap.size + 2) 43 5 (.slice V L.length cv) L k Lk ∧ Blk wr w.heap.size 24 #[.int .i64 room, .slice V L.length cv] ∧ Blk wr (w.heap.size + 1) 24 #[.int .i64 0, .slice none 0 0] ∧ Below w.heap.size w wr) (fun s12 _ => L.length - (intOf s12).toNat)
  case atStart => exact ⟨0, L, Nat.zero_le _, rfl, HR.out, HB0.out, HB1.out, HB.out⟩
  case round =>
    obtain ⟨k, Lk, hk, rfl, hH, hD0, hD1, hbw⟩ := hrel
    by_cases hlt : k < L.length
    · obtain ⟨x, hx⟩ : ∃ x, L[k]? = some x := ⟨L[k], List.getElem?_eq_getElem hlt⟩
      obtain ⟨g, cap, hgv⟩ := own_len hH.row (by omega)
      injection hgv with hV h2 h3
      subst hV h3
      have hxk : Lk[k]? = some x := by rw [hH.rest k (Nat.le_refl _)]; exact hx
      obtain ⟨q0, q1, q2⟩ := fCells_get Lk x k hxk
      have e0 := own_cell_at hH.row q0
      have e1 := own_cell_at hH.row q1
      have e2 := own_cell_at hH.row q2
      have hg := own_base_le hH.row
      have hi0 : (0 : Int) ≤ (k : Int) := by omega
      have hi1 : (k : Int) < (L.length : Int) := by omega
      have HX := Lib.hid hx
      obtain ⟨W1, hW1⟩ : ∃ W1, wr.alloc (.cells #[.int .i64 x.num, .slice x.X x.l.length x.c, .int .i64 x.s] 43) = W1 := ⟨_, rfl⟩
      have hb1 : Below wr.heap.size wr W1 := by rw [← hW1]; exact below_new (Below.refl _ _) _
      have hB1 : Blk W1 wr.heap.size 43 #[.int .i64 x.num, .slice x.X x.l.length x.c, .int .i64 x.s] := by rw [← hW1]; exact Blk.new wr _ _
      have hxo := ((HD.out.later hbw).later hb1).one hx
      have hxl := HF.out x (List.mem_of_getElem? hx)
      have HW1 := Lib.hid hW1
      have HH := Lib.hid hH
      have BX := Lib.hid hB1
      have D0 := Lib.hid hD0
      have D1 := Lib.hid hD1
      have BB := Lib.hid hb1
      have XO := Lib.hid hxo
      clear hx hxk q0 q1 q2 hH hW1 hB1 hD0 hD1 hb1 hxo
      have CL := Lib.hid (cloneB_any x.X x.c x.l W1.drew hxl (show OneB W1.drew x.X x.c x.l from XO.out.later (Below.drew (Below.refl _ _))))
      have d1 : W1.drew.cell? ⟨w.heap.size, 1, none⟩ = some (.slice (some ⟨g, 0, none⟩) L.length cv) := cell_later BB.out.drew (D0.out.cell (i := 1) rfl)
      have x1 : W1.drew.cell? ⟨wr.heap.size, 1, none⟩ = some (.slice x.X x.l.length x.c) := BX.out.cell (i := 1) rfl
      have D := Lib.hid d1
      have E1 := Lib.hid (show W1.drew.cell? ⟨g, k * 3 + 1, none⟩ = some (.slice x.X x.l.length x.c) from cell_later BB.out.drew e1)
      have F1 := Lib.hid (show W1.drew.frozen? ⟨g, k * 3 + 1, none⟩ = false from (BB.out.drew.frozen hg.2).trans (own_free_at HH.out.row _))
      have hgw : (⟨g, k * 3 + 1, none⟩ : Addr).block < W1.drew.heap.size := Nat.lt_of_lt_of_le hg.2 BB.out.size
      have NX := Lib.hid (fun (w2 : World) (X2 : Option Addr) (c2 : Nat) (b2 : Below W1.drew.heap.size W1.drew w2) (ho : w2.ownsRow W1.drew.heap.size 5 1 (.slice X2 x.l.length c2) x.l.length (bCells x.l)) =>
        (show HalfD (w2.setCell ⟨g, k * 3 + 1, none⟩ (.slice X2 x.l.length c2)) (w.heap.size + 2) 43 5 (.slice (some ⟨g, 0, none⟩) L.length cv) L (k + 1) (Lk.set k { x with X := X2, c := c2 }) ∧ Blk (w2.setCell ⟨g, k * 3 + 1, none⟩ (.slice X2 x.l.length c2)) w.heap.size 24 #[.int .i64 room, .slice (some ⟨g, 0, none⟩) L.length cv] ∧ Blk (w2.setCell ⟨g, k * 3 + 1, none⟩ (.slice X2 x.l.length c2)) (w.heap.size + 1) 24 #[.int .i64 0, .slice none 0 0] ∧ Below w.heap.size w (w2.setCell ⟨g, k * 3 + 1, none⟩ (.slice X2 x.l.length c2)) from
          have bb := below_on BB.out.drew b2
          have h0 := bb.size
          have h1 := BB.out.size
          have h2 := hbw.size
          ⟨HH.out.next (by decide) HX.out bb (B := W1.drew.heap.size) h1 (by have := D1.out.lt; omega) (OwnB.of_own (f := { x with X := X2, c := c2 }) ho XO.out.byte) ho, (D0.out.later bb).far (by show w.heap.size ≠ g; have := hg.1; omega) _, (D1.out.later bb).far (by show w.heap.size + 1 ≠ g; have := hg.1; omega) _, (below_on hbw bb).setCell (by show w.heap.size ≤ g; have := hg.1; omega) _⟩))
      go_wp2_with fail
      rw [HW1.out]
      go_region_with (go_at_call 36; refine CL.out.mono ?_; rintro e w2 ⟨v2, rfl, ho2, b2⟩; obtain ⟨X2, c2, rfl, -, -, -, -⟩ := own_form ho2; have d2 := cell_later b2 D.out; have d3 := cell_later b2 E1.out; have d4 := (b2.frozen hgw).trans F1.out; have HO2 := Lib.hid ho2; clear ho2)
      all_goals
        have nx := Lib.hid (NX.out _ _ _ b2 HO2.out)
        clear d2 d3 d4 d1 x1 NX CL HX D E1 F1 XO BX
        go_wp2_with fail
        go_roundw
        case rel => exact ⟨k + 1, _, by omega, by first | rfl | go_num, nx.out.1, nx.out.2.1, nx.out.2.2.1, nx.out.2.2.2⟩
        case measure => simp [intOf]; omega
    · have hd : decide ((k : Int) < (L.length : Int)) = false := decide_eq_false (by omega)
      have q0 := hD0.cell (i := 0) rfl
      have q1 := hD0.cell (i := 1) rfl
      have r0 := hD1.cell (i := 0) rfl
      have r1 := hD1.cell (i := 1) rfl
      have s0 := hD1.free 0
      have s1 := hD1.free 1
      have hO := (hH.done (by omega)).lower (base' := w.heap.size) (by omega)
      have hfi := hH.fi
      have HO := Lib.hid hO
      have HH := Lib.hid hH
      have HFI := Lib.hid hfi
      have H1 := Lib.hid hD1
      have hlt1 := hD1.lt
      have hz := (hD1.put 0 (.int .i64 room)).put 1 (.slice V L.length cv)
      have z0 := hz.cell (i := 0) rfl
      have z1 := hz.cell (i := 1) rfl
      have hbz := (hbw.setCell (p := ⟨w.heap.size + 1, 0, none⟩) (by show w.heap.size ≤ w.heap.size + 1; omega) (.int .i64 room)).setCell (p := ⟨w.heap.size + 1, 1, none⟩) (by show w.heap.size ≤ w.heap.size + 1; omega) (.slice V L.length cv)
      have hOz : OwnD ((wr.setCell ⟨w.heap.size + 1, 0, none⟩ (.int .i64 room)).setCell ⟨w.heap.size + 1, 1, none⟩ (.slice V L.length cv)) w.heap.size 43 5 (.slice V L.length cv) Lk := by
        have hD := hH.done (by omega)
        have hff : ∀ k, w.heap.size + 2 ≤ k → ((wr.setCell ⟨w.heap.size + 1, 0, none⟩ (.int .i64 room)).setCell ⟨w.heap.size + 1, 1, none⟩ (.slice V L.length cv)).heap[k]? = wr.heap[k]? := fun k hk =>
          (Below.heap_setCell _ _ _ _ (by show k ≠ w.heap.size + 1; omega)).trans (Below.heap_setCell _ _ _ _ (by show k ≠ w.heap.size + 1; omega))
        exact (OwnD.mk (own_stays hD.row fun k hk => hff k (own_ge hD.row k hk)) (fun f hf => (hD.each f hf).stays fun k hk => hff k ((hD.each f hf).lt k hk).1) hD.apart).lower (by omega)
      have hHz : ∀ f ∈ Lk, OwnS ((wr.setCell ⟨w.heap.size + 1, 0, none⟩ (.int .i64 room)).setCell ⟨w.heap.size + 1, 1, none⟩ (.slice V L.length cv)) w.heap.size 5 f := fun f hf =>
        (((hH.hards (by omega) f hf).far (p := ⟨w.heap.size + 1, 0, none⟩) (fun e => by have := (((hH.done (by omega)).each f hf).lt _ e).1; have h2 : w.heap.size + 2 ≤ w.heap.size + 1 := this; omega) (.int .i64 room)).far (p := ⟨w.heap.size + 1, 1, none⟩) (fun e => by have := (((hH.done (by omega)).each f hf).lt _ e).1; have h2 : w.heap.size + 2 ≤ w.heap.size + 1 := this; omega) (.slice V L.length cv)).lower (by omega)
      have FIN := Lib.hid (show GivesDS room (L.map Fc.fi) w (.returned (.agg #[.int .i64 room, .slice V L.length cv])) _ from ⟨_, Lk, rfl, hOz, hHz, hfi, hbz⟩)
      have Z0 := Lib.hid z0
      have Z1 := Lib.hid z1
      clear hO hH hfi hD0 hD1 hz z0 z1 hbz hOz hHz HO HH
      go_wp2
      have z0 := Z0.out
      have z1 := Z1.out
      exact bodyPost_ret (v := .agg #[.int .i64 room, .slice V L.length cv]) (by simp [results, Try.results39, go_sem, z0, z1]) rfl FIN.out
end Go.Proofs.Ytgjcpdcepmgafaa
