/-
  Disks in memory of the call's own: what slices.Clone answers of files, disk's copied, telltaleref08's Copy.
  A disk as an argument, opened: its files, and how many there can be.
  A slice of bytes as an argument, opened as a list of bytes; what a bound on the bulk of all that is read gives.
  What a bound on the bulk of all that is read gives: how long each slice is.
-/
import Derived.Test.YtkhggofcbdcliaaDoorG05
import Derived.Test.YtkhggofcbdcliaaDoorG06
import Derived.Deep.RegionWith
import Derived.Test.YtkhggofcbdcliaaDoorG01
import Derived.Lib.SmallJoins
import Derived.Test.YtkhggofcbdcliaaDoorG03
import Derived.Test.YtkhggofcbdcliaaDoorRows
namespace Go.Proofs.YtkhggofcbdcliaaDoor
open Go.RowKit

theorem infoFi : (Tryd.prog.info? 50).map (fun i => (i.zero, i.size, i.bytes)) = some (some (.agg #[.int .i64 0, .slice none 0 0, .int .i64 0]), 3, 40) := by kernel_rfl

set_option maxHeartbeats 1600000 in
theorem cloneF_any (A : Option Addr) (c n : Nat) (xs : List Value) (w : World) (hn : n * 40 ≤ 140737488355328) (hA : A = none → n = 0 ∧ c = 0) (hx : xs.length = n * 3) (h1 : ∀ u ∈ xs, u.oneCell' = true) (h : Lies w A xs) :
    Calls Tryd.prog 67 #[.slice A n c] w fun e w' => ∃ v, e = .returned v ∧ w'.ownsRow w.heap.size 50 3 v n xs ∧ Below w.heap.size w w' := by
  obtain ⟨i0, hI, hz0, hz1, hz2⟩ := info_parts infoFi
  cases A with
  | none =>
    obtain ⟨rfl, rfl⟩ := hA rfl
    have hl0 : xs = [] := List.eq_nil_of_length_eq_zero (by simpa using hx)
    subst hl0
    clear h
    have hq := Lib.run_eql_slice_nil (P := Tryd.prog) w 22 50 none 0 0 0 0 Tryd.underlying22
    go_enter Tryd.func67, Tryd.ntmps67
    go_wp2
    go_ret
    exact ⟨_, rfl, ⟨rfl, .inl ⟨rfl, rfl⟩⟩, Below.refl _ _⟩
  | some a =>
    have hq := Lib.run_eql_slice_nil (P := Tryd.prog) w 22 50 (some a) n c 0 0 Tryd.underlying22
    have HL := Lib.hid (h.alloc (.cells #[] 50))
    have HB := Lib.hid (Blk.new w 50 #[])
    have b0 := below_new (Below.refl w.heap.size w) (.cells #[] 50)
    have HX := Lib.hid hx
    clear h hx hA
    go_enter Tryd.func67, Tryd.ntmps67
    go_wp2_with (at_builtin; refine wpList_append_fresh _ rfl _ _ 22 rfl w.heap.size w.heap.size 50 i0 (.agg #[.int .i64 0, .slice none 0 0, .int .i64 0]) 3 40 Tryd.underlying22 hI hz0 hz1 hz2 rfl (by decide) rfl HB.out (Nat.le_refl _) (some a) n c (fun h => by cases h) xs rfl HX.out HL.out h1 (by unfold maxLen; omega) hn ?_)
    intro v' w' ho hb
    have HO := Lib.hid ho
    clear ho
    go_wp2
    go_ret
    exact ⟨v', rfl, HO.out, below_on b0 (by rw [show (w.alloc (.cells #[] 50)).heap.size = w.heap.size + 1 from by simp]; exact hb)⟩

/-- A disk is answered, in memory of the call's own. -/
def GivesD (room : Int) (fs : List Fi) (w : World) (e : Ending) (w' : World) : Prop :=
  ∃ v L, e = .returned (.agg #[.int .i64 room, v]) ∧ OwnD w' w.heap.size 50 5 v L ∧ L.map Fc.fi = fs ∧ Below w.heap.size w w'
/-- The same, each file's bytes in a block that is theirs alone. -/
def GivesDS (room : Int) (fs : List Fi) (w : World) (e : Ending) (w' : World) : Prop :=
  ∃ v L, e = .returned (.agg #[.int .i64 room, v]) ∧ OwnD w' w.heap.size 50 5 v L ∧ (∀ f ∈ L, OwnS w' w.heap.size 5 f) ∧ L.map Fc.fi = fs ∧ Below w.heap.size w w'
/-- The room that a list of files takes. -/
structure Fit (L : List Fc) : Prop where
  n : L.length * 40 ≤ 140737488355328
  each : ∀ f ∈ L, f.l.length ≤ 140737488355328

set_option maxRecDepth 100000 in
set_option maxHeartbeats 3200000 in
theorem copied_any (room : Int) (A : Option Addr) (c : Nat) (L : List Fc) (w : World) (h : OneD w A c L) (hf : Fit L) :
    Calls Tryd.prog 58 #[.agg #[.int .i64 room, .slice A L.length c]] w (GivesDS room (L.map Fc.fi) w) := by
  have hlen := hf.n
  have bn := below_new (Below.refl w.heap.size w) (.cells #[.int .i64 room, .slice A L.length c] 24)
  have bn2 := below_new bn (.cells #[.int .i64 0, .slice none 0 0] 24)
  have N := Lib.hid (cloneF_any A c L.length (fCells L) _ hlen h.noA (fCells_length L) (fCells_one L) (h.lies.later bn2))
  have HD := Lib.hid h
  have HF := Lib.hid hf.each
  clear h hf
  go_enter Tryd.func58, Tryd.ntmps58
  go_wp2_with fail
  refine N.out.mono ?_
  rintro e w1 ⟨v, rfl, ho, b1⟩
  obtain ⟨V, cv, rfl, -, hcm, -, -⟩ := own_form ho
  have B0 := ((Blk.new w 24 #[.int .i64 room, .slice A L.length c]).alloc (.cells #[.int .i64 0, .slice none 0 0] 24)).later b1
  have B1 := (Blk.new (w.alloc (.cells #[.int .i64 room, .slice A L.length c] 24)) 24 #[.int .i64 0, .slice none 0 0]).later b1
  have B1' : Blk w1 (w.heap.size + 1) 24 #[.int .i64 0, .slice none 0 0] := by simpa using B1
  have c0 := B0.cell (i := 0) rfl
  have c1 := B0.cell (i := 1) rfl
  have f1 := B0.free 1
  have b2 := (below_on bn2 b1).setCell (p := ⟨w.heap.size, 1, none⟩) (Nat.le_refl _) (.slice V L.length cv)
  have ho2 : w1.ownsRow (w.heap.size + 2) 50 3 (.slice V L.length cv) L.length (fCells L) := by simpa using ho
  have hrow : HalfD (w1.setCell ⟨w.heap.size, 1, none⟩ (.slice V L.length cv)) (w.heap.size + 2) 50 5 (.slice V L.length cv) L 0 L := HalfD.start (own_stays ho2 fun k hk => Below.heap_setCell _ _ _ _ (by have := own_ge ho2 k hk; show k ≠ w.heap.size; omega))
  have HR := Lib.hid hrow
  have HB0 := Lib.hid (B0.put 1 (.slice V L.length cv))
  have HB1 := Lib.hid (B1'.far (p := ⟨w.heap.size, 1, none⟩) (by show w.heap.size + 1 ≠ w.heap.size; omega) (.slice V L.length cv))
  have HB := Lib.hid b2
  unfold maxLen at hcm
  clear ho ho2 B0 B1 B1' hrow b2 b1 bn bn2
  go_wp2_with fail
  go_loopw [12] (fun s12 wr => ∃ (k : Nat) (Lk : List Fc), k ≤ L.length ∧ s12 = .int .i64 (k : Int) ∧ HalfD wr (w.heap.size + 2) 50 5 (.slice V L.length cv) L k Lk ∧ Blk wr w.heap.size 24 #[.int .i64 room, .slice V L.length cv] ∧ Blk wr (w.heap.size + 1) 24 #[.int .i64 0, .slice none 0 0] ∧ Below w.heap.size w wr) (fun s12 _ => L.length - (intOf s12).toNat)
  case atStart => exact ⟨0, L, Nat.zero_le _, rfl, HR.out, HB0.out, HB1.out, HB.out⟩
  case round =>
    obtain ⟨k, Lk, hk, rfl, hH, hD0, hD1, hbw⟩ := hrel
    by_cases hlt : k < L.length
    · obtain ⟨x, hx⟩ : ∃ x, L[k]? = some x := ⟨L[k], List.getElem?_eq_getElem hlt⟩
      obtain ⟨g, cap, hgv⟩ := own_len hH.row (by omega)
      injection hgv with hV h2 h3
      subst hV h3
      have hxk : Lk[k]? = some x := by rw [hH.rest k (Nat.le_refl _)]; exact hx
      obtain ⟨q0, q1, q2⟩ := fCells_get Lk x k hxk
      have e0 := own_cell_at hH.row q0
      have e1 := own_cell_at hH.row q1
      have e2 := own_cell_at hH.row q2
      have hg := own_base_le hH.row
      have hi0 : (0 : Int) ≤ (k : Int) := by omega
      have hi1 : (k : Int) < (L.length : Int) := by omega
      have HX := Lib.hid hx
      obtain ⟨W1, hW1⟩ : ∃ W1, wr.alloc (.cells #[.int .i64 x.num, .slice x.X x.l.length x.c, .int .i64 x.s] 50) = W1 := ⟨_, rfl⟩
      have hb1 : Below wr.heap.size wr W1 := by rw [← hW1]; exact below_new (Below.refl _ _) _
      have hB1 : Blk W1 wr.heap.size 50 #[.int .i64 x.num, .slice x.X x.l.length x.c, .int .i64 x.s] := by rw [← hW1]; exact Blk.new wr _ _
      have hxo := ((HD.out.later hbw).later hb1).one hx
      have hxl := HF.out x (List.mem_of_getElem? hx)
      have HW1 := Lib.hid hW1
      have HH := Lib.hid hH
      have BX := Lib.hid hB1
      have D0 := Lib.hid hD0
      have D1 := Lib.hid hD1
      have BB := Lib.hid hb1
      have XO := Lib.hid hxo
      clear hx hxk q0 q1 q2 hH hW1 hB1 hD0 hD1 hb1 hxo
      have CL := Lib.hid (cloneB_any x.X x.c x.l W1.drew hxl (show OneB W1.drew x.X x.c x.l from XO.out.later (Below.drew (Below.refl _ _))))
      have d1 : W1.drew.cell? ⟨w.heap.size, 1, none⟩ = some (.slice (some ⟨g, 0, none⟩) L.length cv) := cell_later BB.out.drew (D0.out.cell (i := 1) rfl)
      have x1 : W1.drew.cell? ⟨wr.heap.size, 1, none⟩ = some (.slice x.X x.l.length x.c) := BX.out.cell (i := 1) rfl
      have D := Lib.hid d1
      have E1 := Lib.hid (show W1.drew.cell? ⟨g, k * 3 + 1, none⟩ = some (.slice x.X x.l.length x.c) from cell_later BB.out.drew e1)
      have F1 := Lib.hid (show W1.drew.frozen? ⟨g, k * 3 + 1, none⟩ = false from (BB.out.drew.frozen hg.2).trans (own_free_at HH.out.row _))
      have hgw : (⟨g, k * 3 + 1, none⟩ : Addr).block < W1.drew.heap.size := Nat.lt_of_lt_of_le hg.2 BB.out.size
      have NX := Lib.hid (fun (w2 : World) (X2 : Option Addr) (c2 : Nat) (b2 : Below W1.drew.heap.size W1.drew w2) (ho : w2.ownsRow W1.drew.heap.size 5 1 (.slice X2 x.l.length c2) x.l.length (bCells x.l)) =>
        (show HalfD (w2.setCell ⟨g, k * 3 + 1, none⟩ (.slice X2 x.l.length c2)) (w.heap.size + 2) 50 5 (.slice (some ⟨g, 0, none⟩) L.length cv) L (k + 1) (Lk.set k { x with X := X2, c := c2 }) ∧ Blk (w2.setCell ⟨g, k * 3 + 1, none⟩ (.slice X2 x.l.length c2)) w.heap.size 24 #[.int .i64 room, .slice (some ⟨g, 0, none⟩) L.length cv] ∧ Blk (w2.setCell ⟨g, k * 3 + 1, none⟩ (.slice X2 x.l.length c2)) (w.heap.size + 1) 24 #[.int .i64 0, .slice none 0 0] ∧ Below w.heap.size w (w2.setCell ⟨g, k * 3 + 1, none⟩ (.slice X2 x.l.length c2)) from
          have bb := below_on BB.out.drew b2
          have h0 := bb.size
          have h1 := BB.out.size
          have h2 := hbw.size
          ⟨HH.out.next (by decide) HX.out bb (B := W1.drew.heap.size) h1 (by have := D1.out.lt; omega) (OwnB.of_own (f := { x with X := X2, c := c2 }) ho XO.out.byte) ho, (D0.out.later bb).far (by show w.heap.size ≠ g; have := hg.1; omega) _, (D1.out.later bb).far (by show w.heap.size + 1 ≠ g; have := hg.1; omega) _, (below_on hbw bb).setCell (by show w.heap.size ≤ g; have := hg.1; omega) _⟩))
      go_wp2_with fail
      rw [HW1.out]
      go_region_with (go_at_call 36; refine CL.out.mono ?_; rintro e w2 ⟨v2, rfl, ho2, b2⟩; obtain ⟨X2, c2, rfl, -, -, -, -⟩ := own_form ho2; have d2 := cell_later b2 D.out; have d3 := cell_later b2 E1.out; have d4 := (b2.frozen hgw).trans F1.out; have HO2 := Lib.hid ho2; clear ho2)
      all_goals
        have nx := Lib.hid (NX.out _ _ _ b2 HO2.out)
        clear d2 d3 d4 d1 x1 NX CL HX D E1 F1 XO BX
        go_wp2_with fail
        go_roundw
        case rel => exact ⟨k + 1, _, by omega, by first | rfl | go_num, nx.out.1, nx.out.2.1, nx.out.2.2.1, nx.out.2.2.2⟩
        case measure => simp [intOf]; omega
    · have hd : decide ((k : Int) < (L.length : Int)) = false := decide_eq_false (by omega)
      have q0 := hD0.cell (i := 0) rfl
      have q1 := hD0.cell (i := 1) rfl
      have r0 := hD1.cell (i := 0) rfl
      have r1 := hD1.cell (i := 1) rfl
      have s0 := hD1.free 0
      have s1 := hD1.free 1
      have hO := (hH.done (by omega)).lower (base' := w.heap.size) (by omega)
      have hfi := hH.fi
      have HO := Lib.hid hO
      have HH := Lib.hid hH
      have HFI := Lib.hid hfi
      have H1 := Lib.hid hD1
      have hlt1 := hD1.lt
      have hz := (hD1.put 0 (.int .i64 room)).put 1 (.slice V L.length cv)
      have z0 := hz.cell (i := 0) rfl
      have z1 := hz.cell (i := 1) rfl
      have hbz := (hbw.setCell (p := ⟨w.heap.size + 1, 0, none⟩) (by show w.heap.size ≤ w.heap.size + 1; omega) (.int .i64 room)).setCell (p := ⟨w.heap.size + 1, 1, none⟩) (by show w.heap.size ≤ w.heap.size + 1; omega) (.slice V L.length cv)
      have hOz : OwnD ((wr.setCell ⟨w.heap.size + 1, 0, none⟩ (.int .i64 room)).setCell ⟨w.heap.size + 1, 1, none⟩ (.slice V L.length cv)) w.heap.size 50 5 (.slice V L.length cv) Lk := by
        have hD := hH.done (by omega)
        have hff : ∀ k, w.heap.size + 2 ≤ k → ((wr.setCell ⟨w.heap.size + 1, 0, none⟩ (.int .i64 room)).setCell ⟨w.heap.size + 1, 1, none⟩ (.slice V L.length cv)).heap[k]? = wr.heap[k]? := fun k hk =>
          (Below.heap_setCell _ _ _ _ (by show k ≠ w.heap.size + 1; omega)).trans (Below.heap_setCell _ _ _ _ (by show k ≠ w.heap.size + 1; omega))
        exact (OwnD.mk (own_stays hD.row fun k hk => hff k (own_ge hD.row k hk)) (fun f hf => (hD.each f hf).stays fun k hk => hff k ((hD.each f hf).lt k hk).1) hD.apart).lower (by omega)
      have hHz : ∀ f ∈ Lk, OwnS ((wr.setCell ⟨w.heap.size + 1, 0, none⟩ (.int .i64 room)).setCell ⟨w.heap.size + 1, 1, none⟩ (.slice V L.length cv)) w.heap.size 5 f := fun f hf =>
        (((hH.hards (by omega) f hf).far (p := ⟨w.heap.size + 1, 0, none⟩) (fun e => by have := (((hH.done (by omega)).each f hf).lt _ e).1; have h2 : w.heap.size + 2 ≤ w.heap.size + 1 := this; omega) (.int .i64 room)).far (p := ⟨w.heap.size + 1, 1, none⟩) (fun e => by have := (((hH.done (by omega)).each f hf).lt _ e).1; have h2 : w.heap.size + 2 ≤ w.heap.size + 1 := this; omega) (.slice V L.length cv)).lower (by omega)
      have FIN := Lib.hid (show GivesDS room (L.map Fc.fi) w (.returned (.agg #[.int .i64 room, .slice V L.length cv])) _ from ⟨_, Lk, rfl, hOz, hHz, hfi, hbz⟩)
      have Z0 := Lib.hid z0
      have Z1 := Lib.hid z1
      clear hO hH hfi hD0 hD1 hz z0 z1 hbz hOz hHz HO HH
      go_wp2
      have z0 := Z0.out
      have z1 := Z1.out
      exact bodyPost_ret (v := .agg #[.int .i64 room, .slice V L.length cv]) (by simp [results, Tryd.results58, go_sem, z0, z1]) rfl FIN.out
end Go.Proofs.YtkhggofcbdcliaaDoor
namespace Go.Proofs.YtkhggofcbdcliaaDoor
open Go.ChangeShapes Go.WideShapes Go.RowKit Go.Deep

set_option maxRecDepth 100000
theorem list3 {cs : List Value} (h : cs.length = 3) : ∃ a0 a1 a2, cs = [a0, a1, a2] := by
  match cs, h with
  | [a0, a1, a2], _ => exact ⟨a0, a1, a2, rfl⟩
theorem list2 {cs : List Value} (h : cs.length = 2) : ∃ a0 a1, cs = [a0, a1] := by
  match cs, h with
  | [a0, a1], _ => exact ⟨a0, a1, rfl⟩

section
variable {H : Type} {enc : TypeId × Value → H} {w : World}
/-- The datum of a list of k things, of each of which something is known. -/
def LenG (d : DataW H) (k : Nat) : Prop := k = 0 ∨ ∃ elems spare, d = .slice elems spare ∧ elems.length = k
/-- A slice whose elements' cells are known by 'f', at its own cell; and something of each element and of its datum. -/
theorem open_list_with {P : Program} {α : Type} (z : α) (f : α → List Value) (good : α → DataW H → Prop) {size : Nat} (hf : ∀ a, (f a).length = size) {t e : TypeId} {fuel0 : Nat} {cs0 : List Value} {y : DataW H × List MemPlace}
    (ht : P.underlying t = some (.slice e)) (hC : P.cellsOf e = size) (hsz : 0 < size)
    (helem : ∀ (fuel : Nat) (cs : List Value) (x : DataW H × List MemPlace), DataW.trod enc P w 0 (fun _ => true) true fuel e cs = some x → ∃ a, cs = f a ∧ good a x.1)
    (hfu : DataW.trod enc P w 0 (fun _ => true) true fuel0 t cs0 = some y) :
    ∃ (A : Option Addr) (cap : Nat) (l : List α), cs0 = [.slice A l.length cap] ∧ l.length ≤ cap ∧ cap ≤ maxLen ∧ (A = none → l.length = 0 ∧ cap = 0) ∧ Lies w A (l.flatMap f) ∧
      (l = [] ∨ ∃ elems spare, y.1 = .slice elems spare ∧ elems.length = l.length ∧ ∀ a ∈ l, ∃ d ∈ elems, good a d) := by
  rcases open_slice ht hfu with ⟨hcs, hx⟩ | ⟨a, len, cap, m, n, D, Pl, hcs, _, hl, hm, hmm, hx, hi⟩
  · subst hcs hx
    exact ⟨none, 0, [], rfl, Nat.le_refl _, Nat.zero_le _, fun _ => ⟨rfl, rfl⟩, Lies.nil, .inl rfl⟩
  · simp at hmm
    subst hmm
    obtain ⟨g, hg⟩ := pick (n := len) (p := fun i s => good s (D i) ∧ ∀ j, j < size → w.cell? (a.add (i * size + j)) = (f s)[j]?) z (fun i hi' => by
      obtain ⟨cs', hc, ht'⟩ := hi i (by omega)
      rw [hC] at hc
      obtain ⟨s, rfl, hs⟩ := helem _ _ _ ht'
      obtain ⟨_, _, hcell⟩ := World.cells?_some hc
      refine ⟨s, hs, fun j hj => ?_⟩
      rw [← hcell j hj, Go.Deep.add_add])
    refine ⟨some a, m, (List.range len).map g, by simpa using hcs, by simpa using hl, hm, (fun h => by cases h), (fun hne => ?_), .inr ⟨_, _, by rw [hx], by simp, fun s hs => ?_⟩⟩
    · have hpos : 0 < len := by
        rcases Nat.eq_zero_or_pos len with h0 | h0
        · subst h0; simp at hne
        · exact h0
      obtain ⟨b, off, spot⟩ := a
      have h00 := (hg 0 hpos).2 0 hsz
      have hspot : spot = none := by
        have hlen := hf (g 0)
        rw [List.getElem?_eq_getElem (by omega)] at h00
        simpa [Addr.add] using World.cell?_spot h00
      subst hspot
      refine ⟨b, off, rfl, fun j u hu => ?_⟩
      obtain ⟨i, r, s, h1, h2, h3, h4⟩ := flat_get f hf _ j u hu
      have hil : i < len := by
        have := (List.getElem?_eq_some_iff.1 h1).1
        simpa using this
      simp [hil] at h1
      subst h1
      rw [← Go.WideShapes.add_plain, h3, (hg i hil).2 r h2]
      exact h4
    · simp at hs
      obtain ⟨i, hil, rfl⟩ := hs
      exact ⟨D i, List.mem_map.2 ⟨i, List.mem_range.2 hil, rfl⟩, (hg i hil).1⟩

theorem dkInt : Tryd.prog.cellsOf 3 = 1 := by kernel_rfl
theorem dkB : Tryd.prog.cellsOf 5 = 1 := by kernel_rfl
theorem dkLB : Tryd.prog.cellsOf 25 = 1 := by kernel_rfl
theorem dkFile : Tryd.prog.cellsOf 50 = 3 := by kernel_rfl
theorem dkLF : Tryd.prog.cellsOf 22 = 1 := by kernel_rfl
theorem dkDisk : Tryd.prog.cellsOf 24 = 2 := by kernel_rfl
theorem dkBytesB : Tryd.prog.bytesOf 5 = 1 := by kernel_rfl
theorem dkBytesF : Tryd.prog.bytesOf 50 = 40 := by kernel_rfl
theorem dk_byteE (fuel : Nat) (cs : List Value) (x : DataW H × List MemPlace) (h : DataW.trod enc Tryd.prog w 0 (fun _ => true) true fuel 5 cs = some x) : ∃ a : Int, cs = [.int .u8 a] ∧ isB a := by
  obtain ⟨a, e0, rfl, wa⟩ := DataW.trod_int Tryd.underlying5 h
  refine ⟨a, e0, ?_⟩
  have hb : IntKind.u8.min ≤ a ∧ a ≤ IntKind.u8.max := by simpa [Lit.wf] using wa
  have e1 : IntKind.u8.min = 0 := by decide
  have e2 : IntKind.u8.max = 255 := by decide
  rw [e1, e2] at hb
  exact ⟨hb.1, by omega⟩
theorem dk_flat (l : List Int) : l.flatMap (fun n => [Value.int .u8 n]) = bCells l := by
  induction l with
  | nil => rfl
  | cons s r ih =>
    rw [List.flatMap_cons, ih]
    rfl
theorem dk_bytesE {fuel : Nat} {cs : List Value} {x : DataW H × List MemPlace} (h : DataW.trod enc Tryd.prog w 0 (fun _ => true) true fuel 25 cs = some x) : ∃ A c l, cs = [.slice A (List.length l) c] ∧ OneB w A c l ∧ LenG x.1 l.length := by
  obtain ⟨A, c, l, h1, h2, h3, h4, h5, h6⟩ := open_list_with (0 : Int) (fun n => [Value.int .u8 n]) (fun a _ => isB a) (size := 1) (fun _ => rfl) Tryd.underlying25 dkB (by decide) (fun fuel cs x h => dk_byteE fuel cs x h) h
  rw [dk_flat] at h5
  refine ⟨A, c, l, h1, ⟨h2, h3, h4, h5, fun x hx => ?_⟩, ?_⟩
  · rcases h6 with rfl | ⟨_, _, _, _, h7⟩
    · cases hx
    · obtain ⟨_, _, h8⟩ := h7 x hx
      exact h8
  · rcases h6 with rfl | ⟨el, sp, h7, h8, _⟩
    · exact .inl rfl
    · exact .inr ⟨el, sp, h7, h8⟩
/-- What is known of a file and of its datum. -/
def FileG (w : World) (f : Fc) (d : DataW H) : Prop := OneB w f.X f.c f.l ∧ ∃ d0 d1 d2, d = .agg [d0, d1, d2] ∧ LenG d1 f.l.length
theorem dk_fileE (fuel : Nat) (cs : List Value) (x : DataW H × List MemPlace) (h : DataW.trod enc Tryd.prog w 0 (fun _ => true) true fuel 50 cs = some x) : ∃ f : Fc, cs = fCells [f] ∧ FileG w f x.1 := by
  obtain ⟨y0, y1, y2, m, hx, hl, q0, q1, q2⟩ := trod_struct3 Tryd.underlying50 h
  rw [dkFile] at hl
  obtain ⟨a0, a1, a2, rfl⟩ := list3 hl
  dsimp only at q0 q1 q2
  rw [dkInt] at q0 q2
  rw [dkLB] at q1
  obtain ⟨n, e0, _, _⟩ := DataW.trod_int Tryd.underlying3 q0
  obtain ⟨X, c, l, e1, o1, z1⟩ := dk_bytesE q1
  obtain ⟨s, e2, _, _⟩ := DataW.trod_int Tryd.underlying3 q2
  simp at e0 e1 e2
  subst e0 e1 e2
  exact ⟨⟨n, X, c, l, s⟩, rfl, o1, _, _, _, congrArg Prod.fst hx, z1⟩
theorem fCells_flat (l : List Fc) : l.flatMap (fun f => fCells [f]) = fCells l := by
  induction l with
  | nil => rfl
  | cons s r ih =>
    rw [List.flatMap_cons, ih]
    rfl
/-- A disk by value. -/
theorem open_disk {r : Reach} {b0 : Nat} {v : Value} {d : DataW H} {p : List MemPlace} (hv : Value.okWide Tryd.prog w r b0 24 v) (h : DataW.Trod enc Tryd.prog w 0 (fun _ => true) true 24 v d p) :
    ∃ (room : Int) (A : Option Addr) (c : Nat) (L : List Fc), v = .agg #[.int .i64 room, .slice A L.length c] ∧ OneD w A c L ∧
      ∃ d0 d1, d = .agg [d0, d1] ∧ (L = [] ∨ ∃ elems spare, d1 = .slice elems spare ∧ elems.length = L.length ∧ ∀ f ∈ L, ∃ x ∈ elems, FileG w f x) := by
  obtain ⟨cs, rfl, _⟩ := okWide_struct Tryd.underlying24 hv
  obtain ⟨fuel, hf⟩ := h
  obtain ⟨y0, y1, m, hx, hl, q0, q1⟩ := trod_struct2 Tryd.underlying24 hf
  have hcc : (Value.agg cs).cells.toList = cs.toList := rfl
  rw [hcc] at hl q0 q1
  rw [dkDisk] at hl
  obtain ⟨a0, a1, hcs⟩ := list2 hl
  rw [hcs] at q0 q1
  dsimp only at q0 q1
  rw [dkInt] at q0
  rw [dkLF] at q1
  obtain ⟨room, e0, _, _⟩ := DataW.trod_int Tryd.underlying3 q0
  obtain ⟨A, c, L, e1, h2, h3, h4, h5, h6⟩ := open_list_with Fc.zero (fun f => fCells [f]) (fun f d => FileG w f d) (size := 3) (fun _ => rfl) Tryd.underlying22 dkFile (by decide) (fun fuel cs x h => dk_fileE fuel cs x h) q1
  rw [fCells_flat] at h5
  simp at e0 e1
  subst e0 e1
  refine ⟨room, A, c, L, congrArg Value.agg (Array.toList_inj.1 hcs), ⟨h2, h3, h4, h5, fun f hf2 => ?_⟩, _, _, congrArg Prod.fst hx, h6⟩
  rcases h6 with rfl | ⟨_, _, _, _, h7⟩
  · cases hf2
  · obtain ⟨_, _, h8⟩ := h7 f hf2
    exact h8.1
theorem dk_weightsAll (P : Program) (e : TypeId) : ∀ l : List (DataW H), DataW.weightsAll P e l = l.flatMap (DataW.weights P e)
  | [] => rfl
  | d :: r => by rw [List.flatMap_cons, ← dk_weightsAll P e r]; rfl
/-- How much it can be. -/
theorem fit_disk {ts : List TypeId} {ds : List (DataW H)} (h : (DataW.weightsEach Tryd.prog ts ds).all (· ≤ reachBytes) = true) {j : Nat} {d0 d1 : DataW H} {L : List Fc} (ht : ts[j]? = some 24) (hd : ds[j]? = some (.agg [d0, d1]))
    (h6 : L = [] ∨ ∃ elems spare, d1 = .slice elems spare ∧ elems.length = L.length ∧ ∀ f ∈ L, ∃ x ∈ elems, FileG w f x) : Fit L := by
  rcases h6 with rfl | ⟨elems, spare, rfl, hl, h7⟩
  · exact ⟨by simp, fun _ h => by cases h⟩
  · have top : ∀ k, k ∈ DataW.weights Tryd.prog 22 (.slice elems spare) → k ≤ reachBytes := fun k hk => by
      have hmid : k ∈ DataW.weights Tryd.prog 24 (.agg [d0, .slice elems spare]) := by
        unfold DataW.weights
        rw [Tryd.underlying24]
        exact DataW.weights_mem_each (j := 1) rfl rfl _ hk
      simpa using List.all_eq_true.1 h _ (DataW.weights_mem_each ht hd _ hmid)
    refine ⟨?_, fun f hf => ?_⟩
    · have h1 := top ((elems.length + spare.length) * Tryd.prog.bytesOf 50) (by unfold DataW.weights; rw [Tryd.underlying22]; exact List.mem_cons_self ..)
      rw [dkBytesF] at h1
      simp only [reachBytes] at h1
      omega
    · obtain ⟨x, hx, -, q0, q1, q2, rfl, z⟩ := h7 f hf
      rcases z with z | ⟨el, sp, rfl, z⟩
      · omega
      · have h1 := top ((el.length + sp.length) * Tryd.prog.bytesOf 5) (by
          unfold DataW.weights
          rw [Tryd.underlying22]
          refine List.mem_cons_of_mem _ (List.mem_append_left _ ?_)
          rw [dk_weightsAll]
          refine List.mem_flatMap.2 ⟨_, hx, ?_⟩
          unfold DataW.weights
          rw [Tryd.underlying50]
          refine DataW.weights_mem_each (j := 1) rfl rfl _ ?_
          unfold DataW.weights
          rw [Tryd.underlying25]
          exact List.mem_cons_self ..)
        rw [dkBytesB] at h1
        simp only [reachBytes] at h1
        omega
end
end Go.Proofs.YtkhggofcbdcliaaDoor
namespace Go.Proofs.YtkhggofcbdcliaaDoor
open Go.ChangeShapes Go.WideShapes Go.RowKit Go.Deep

section
variable {H : Type} {enc : TypeId × Value → H} {P : Program} {w : World}
/-- A slice of bytes. -/
theorem open_bytes {r : Reach} {b0 : Nat} {t e : TypeId} {v : Value} {d : DataW H} {p : List MemPlace}
    (ht : P.underlying t = some (.slice e)) (hi : P.underlying e = some (.int .u8)) (hC : P.cellsOf e = 1)
    (hv : Value.okWide P w r b0 t v) (h : DataW.Trod enc P w 0 (fun _ => true) true t v d p) :
    ∃ (A : Option Addr) (cap : Nat) (l : List Int), v = .slice A l.length cap ∧ OneB w A cap l ∧
      ((d = .nil ∧ l.length = 0 ∧ cap = 0) ∨ ∃ elems spare, d = .slice elems spare ∧ elems.length = l.length ∧ elems.length + spare.length = cap) := by
  have := open_list (0 : Int) (fun n => [Value.int .u8 n]) isB (size := 1) (fun _ => rfl) ht hC (by decide)
    (fun fuel cs x hx => by
      obtain ⟨a, e0, rfl, wa⟩ := DataW.trod_int hi hx
      refine ⟨a, e0, ?_⟩
      have hb : IntKind.u8.min ≤ a ∧ a ≤ IntKind.u8.max := by simpa [Lit.wf] using wa
      have e1 : IntKind.u8.min = 0 := by decide
      have e2 : IntKind.u8.max = 255 := by decide
      rw [e1, e2] at hb
      exact ⟨hb.1, by omega⟩) hv h
  obtain ⟨A, cap, l, h1, h2, h3, h4, h5, h6, h7⟩ := this
  have hfl : ∀ l : List Int, l.flatMap (fun n => [Value.int .u8 n]) = bCells l := fun l => by
    induction l with
    | nil => rfl
    | cons s r ih =>
      rw [List.flatMap_cons, ih]
      rfl
  rw [hfl] at h5
  exact ⟨A, cap, l, h1, ⟨h2, h3, h4, h5, h6⟩, h7⟩
end

end Go.Proofs.YtkhggofcbdcliaaDoor
namespace Go.Proofs.YtkhggofcbdcliaaDoor

theorem bulk_one {H : Type} (d : DataW H) : 1 ≤ Rows.uptoBulk d := by
  cases d with
  | lit l => cases l <;> simp [Rows.uptoBulk]
  | nil => simp [Rows.uptoBulk]
  | ptr d => simp [Rows.uptoBulk]
  | slice elems spare => simp [Rows.uptoBulk]
  | agg parts => simp [Rows.uptoBulk]
  | iface t d => simp [Rows.uptoBulk]
  | map entries => simp [Rows.uptoBulk]
  | held h => simp [Rows.uptoBulk]
theorem bulk_length {H : Type} (l : List (DataW H)) : l.length ≤ Rows.uptoBulkAll l := by
  induction l with
  | nil => simp [Rows.uptoBulkAll]
  | cons x r ih =>
    have := bulk_one x
    simp only [Rows.uptoBulkAll, List.length_cons]
    omega
theorem bulk_slice {H : Type} {d : DataW H} {n cap : Nat} (h : (d = .nil ∧ n = 0 ∧ cap = 0) ∨ ∃ elems spare, d = .slice elems spare ∧ elems.length = n ∧ elems.length + spare.length = cap) : n ≤ Rows.uptoBulk d := by
  rcases h with ⟨_, h, _⟩ | ⟨elems, spare, rfl, h1, _⟩
  · omega
  · have h2 := bulk_length elems
    simp only [Rows.uptoBulk]
    omega
theorem bulk_all {H : Type} {l : List (DataW H)} (h : Rows.uptoSmall H l = true) : Rows.uptoBulkAll l ≤ 1048576 := of_decide_eq_true h
theorem bulk_cons {H : Type} (d : DataW H) (l : List (DataW H)) : Rows.uptoBulkAll (d :: l) = Rows.uptoBulk d + Rows.uptoBulkAll l := by simp only [Rows.uptoBulkAll]

end Go.Proofs.YtkhggofcbdcliaaDoor
