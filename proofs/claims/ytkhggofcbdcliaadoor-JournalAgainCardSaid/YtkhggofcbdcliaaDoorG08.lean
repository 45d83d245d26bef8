/-
  What disk's changed answers, whatever the change does to each file in its turn.
  What disk's shorten does, and the changes: only, and those that Sync, Cut make.
  The changes of one file alone: what Cut's and Append's do.
  What disks become, as plain mathematics. Nothing of the program is imported but the places' contracts.
-/
import Derived.Test.YtkhggofcbdcliaaDoorG07
import Derived.Shelf.Abstract
import Derived.BigRegion
import Derived.WalkSmall
import Derived.Deep.RegionLaw
import Derived.Test.YtkhggofcbdcliaaDoorG05
namespace Go.Proofs.YtkhggofcbdcliaaDoor
open Go.RowKit

/-- What a change leaves behind, called at the file of place i. -/
structure Chgd (n0 N cap g i : Nat) (J : List Fc → World → Prop) (done Lk : List Fc) (f f' : Fc) (W w' : World) : Prop where
  keeps : J (done ++ [f']) w'
  size : W.heap.size ≤ w'.heap.size
  row : w'.ownsRow (n0 + 2) 50 3 (.slice (some ⟨g, 0, none⟩) N cap) N (fCells (Lk.set i f'))
  own : OwnB w' (n0 + 2) 5 f'
  blk : f'.blk = f.blk ∨ ∀ b, f'.blk = some b → W.heap.size ≤ b
  rest : ∀ b, n0 ≤ b → b < W.heap.size → b ≠ g → f.blk ≠ some b → w'.heap[b]? = W.heap[b]?
/-- A change: called at each file in its turn it keeps J, which speaks of the files behind it and of the memory below n0. -/
def Chg (n0 N : Nat) (fs : List Fi) (fn : Nat) (lb : Array Value) (J : List Fc → World → Prop) : Prop :=
  ∀ (done Lk : List Fc) (f : Fc) (g i cap : Nat) (W : World), J done W → done.length = i → fs[i]? = some f.fi → Lk.length = N → Lk[i]? = some f → n0 + 2 ≤ W.heap.size →
    W.ownsRow (n0 + 2) 50 3 (.slice (some ⟨g, 0, none⟩) N cap) N (fCells Lk) → OwnS W (n0 + 2) 5 f → OwnB W (n0 + 2) 5 f →
    Calls Tryd.prog fn (#[.pointer (some ⟨g, i * 3, none⟩)] ++ lb) W fun e w' => e = .returned (.tuple #[]) ∧ ∃ f', Chgd n0 N cap g i J done Lk f f' W w'

/-- A list of files whose first ones have been changed. -/
structure Mid (n0 : Nat) (V : Option Addr) (cv : Nat) (fs : List Fi) (L : List Fc) (J : List Fc → World → Prop) (k : Nat) (done Lk : List Fc) (W : World) : Prop where
  keeps : J done W
  len : done.length = k
  lenL : Lk.length = L.length
  rest : ∀ i, k ≤ i → Lk[i]? = L[i]?
  first : ∀ i, i < k → Lk[i]? = done[i]?
  row : W.ownsRow (n0 + 2) 50 3 (.slice V L.length cv) L.length (fCells Lk)
  own : ∀ f ∈ Lk, OwnB W (n0 + 2) 5 f
  hard : ∀ (i : Nat) (f : Fc), k ≤ i → Lk[i]? = some f → OwnS W (n0 + 2) 5 f
  apart : ∀ (i j : Nat) (x y : Fc) (b : Nat), i < j → Lk[i]? = some x → Lk[j]? = some y → x.blk = some b → y.blk ≠ some b
theorem Mid.next {n0 g cv k : Nat} {fs : List Fi} {L : List Fc} {J : List Fc → World → Prop} {done Lk : List Fc} {W w' : World} {f f' : Fc} (h : Mid n0 (some ⟨g, 0, none⟩) cv fs L J k done Lk W) (hf : Lk[k]? = some f)
    (hc : Chgd n0 L.length cv g k J done Lk f f' W w') : Mid n0 (some ⟨g, 0, none⟩) cv fs L J (k + 1) (done ++ [f']) (Lk.set k f') w' := by
  have hk : k < Lk.length := (List.getElem?_eq_some_iff.1 hf).1
  have ap : ∀ (i : Nat) (x : Fc) (b : Nat), i ≠ k → Lk[i]? = some x → x.blk = some b → f.blk ≠ some b := fun i x b hi hx hb => by
    rcases Nat.lt_or_gt_of_ne hi with h1 | h1
    · exact h.apart i k x f b h1 hx hf hb
    · intro h2
      exact h.apart k i f x b h1 hf hx h2 hb
  have keepB : ∀ (i : Nat) (x : Fc), i ≠ k → Lk[i]? = some x → ∀ b, x.blk = some b → w'.heap[b]? = W.heap[b]? := fun i x hi hx b hb => by
    have hO := h.own x (List.mem_of_getElem? hx)
    have hl := hO.lt b hb
    refine hc.rest b (by omega) hl.2 (fun e => ?_) (ap i x b hi hx hb)
    subst e
    exact hO.off_row h.row (by decide) hb
  refine ⟨hc.keeps, by rw [List.length_append, h.len]; rfl, by rw [List.length_set]; exact h.lenL, fun i hi => ?_, fun i hi => ?_, hc.row, fun x hx => ?_, fun i x hi hx => ?_, fun i j x y b hij hx hy hxb => ?_⟩
  · rw [List.getElem?_set_ne (by omega)]
    exact h.rest i (by omega)
  · by_cases e : i = k
    · subst e
      rw [List.getElem?_set_self hk, ← h.len, List.getElem?_concat_length]
    · rw [List.getElem?_set_ne (fun e2 => e e2.symm), List.getElem?_append_left (by have := h.len; omega)]
      exact h.first i (by omega)
  · obtain ⟨i, hi⟩ := List.getElem?_of_mem hx
    by_cases e : i = k
    · subst e
      rw [List.getElem?_set_self hk] at hi
      cases hi
      exact hc.own
    · rw [List.getElem?_set_ne (fun e2 => e e2.symm)] at hi
      exact (h.own x (List.mem_of_getElem? hi)).stays (keepB i x e hi)
  · rw [List.getElem?_set_ne (by omega)] at hx
    exact (h.hard i x (by omega) hx).stays (keepB i x (by omega) hx)
  · by_cases ei : i = k
    · subst ei
      rw [List.getElem?_set_self hk] at hx
      cases hx
      rw [List.getElem?_set_ne (by omega)] at hy
      rcases hc.blk with h1 | h1
      · rw [h1] at hxb
        exact h.apart i j f y b hij hf hy hxb
      · have h2 := h1 b hxb
        intro h3
        have h4 := ((h.own y (List.mem_of_getElem? hy)).lt b h3).2
        omega
    · rw [List.getElem?_set_ne (fun e2 => ei e2.symm)] at hx
      by_cases ej : j = k
      · subst ej
        rw [List.getElem?_set_self hk] at hy
        cases hy
        rcases hc.blk with h1 | h1
        · rw [h1]
          exact h.apart i j x f b hij hx hf hxb
        · intro h3
          have h2 := h1 b h3
          have h4 := ((h.own x (List.mem_of_getElem? hx)).lt b hxb).2
          omega
      · rw [List.getElem?_set_ne (fun e2 => ej e2.symm)] at hy
        exact h.apart i j x y b hij hx hy hxb

set_option maxRecDepth 100000 in
set_option maxHeartbeats 3200000 in
theorem changed_any (room : Int) (A : Option Addr) (c : Nat) (L : List Fc) (fn : Nat) (lb : Array Value) (eg : ∀ args w, (callFunc fn args).run Tryd.prog w = .ok (.enter fn args) w) (J : List Fc → World → Prop) (w : World) (h : OneD w A c L) (hf : Fit L)
    (hJ : J [] w) (stab : ∀ done W W', J done W → Below w.heap.size W W' → J done W') (hc : Chg w.heap.size L.length (L.map Fc.fi) fn lb J) :
    Calls Tryd.prog 42 #[.agg #[.int .i64 room, .slice A L.length c], .func (.func fn) #[] lb] w fun e w' => ∃ v L', e = .returned (.agg #[.int .i64 room, v]) ∧ OwnD w' w.heap.size 50 5 v L' ∧ L'.length = L.length ∧ J L' w' := by
  have bn := below_new (Below.refl w.heap.size w) (.cells #[.int .i64 room, .slice A L.length c] 24)
  have bn2 := below_new bn (.cells #[.int .i64 0, .slice none 0 0] 24)
  have N := Lib.hid (copied_any room A c L _ (h.later bn2) hf)
  have HJ := Lib.hid (stab _ _ _ hJ bn2)
  have ST := Lib.hid stab
  have HC := Lib.hid hc
  have hlen := hf.n
  clear h hf hJ stab hc
  go_enter Tryd.func42, Tryd.ntmps42
  go_wp2_with fail
  refine N.out.mono ?_
  rintro e w1 ⟨v, L1, rfl, hO, hS, hfi, b1⟩
  have hl1 : L1.length = L.length := by have := congrArg List.length hfi; simpa using this
  obtain ⟨V, cv, rfl, -, hcm, -, -⟩ := own_form hO.row
  have B0 := ((Blk.new w 24 #[.int .i64 room, .slice A L.length c]).alloc (.cells #[.int .i64 0, .slice none 0 0] 24)).later b1
  have B1 := (Blk.new (w.alloc (.cells #[.int .i64 room, .slice A L.length c] 24)) 24 #[.int .i64 0, .slice none 0 0]).later b1
  have B1' : Blk w1 (w.heap.size + 1) 24 #[.int .i64 0, .slice none 0 0] := by simpa using B1
  have hsz0 : ((w.alloc (.cells #[.int .i64 room, .slice A L.length c] 24)).alloc (.cells #[.int .i64 0, .slice none 0 0] 24)).heap.size = w.heap.size + 2 := by simp
  rw [hsz0] at hO hS
  have c0 := B0.cell (i := 0) rfl
  have c1 := B0.cell (i := 1) rfl
  have f0 := B0.free 0
  have f1 := B0.free 1
  unfold maxLen at hcm
  obtain ⟨W2, hW2⟩ : ∃ W2, (w1.setCell ⟨w.heap.size, 0, none⟩ (.int .i64 room)).setCell ⟨w.heap.size, 1, none⟩ (.slice V L1.length cv) = W2 := ⟨_, rfl⟩
  have D0 : Blk W2 w.heap.size 24 #[.int .i64 room, .slice V L1.length cv] := by rw [← hW2]; exact (B0.put 0 _).put 1 _
  have D1 : Blk W2 (w.heap.size + 1) 24 #[.int .i64 0, .slice none 0 0] := by rw [← hW2]; exact (B1'.far (by show w.heap.size + 1 ≠ w.heap.size; omega) _).far (by show w.heap.size + 1 ≠ w.heap.size; omega) _
  have hb2 : Below w.heap.size ((w.alloc (.cells #[.int .i64 room, .slice A L.length c] 24)).alloc (.cells #[.int .i64 0, .slice none 0 0] 24)) W2 := by
    rw [← hW2]
    exact ((b1.mono (by simp; omega)).setCell (p := ⟨w.heap.size, 0, none⟩) (Nat.le_refl _) _).setCell (p := ⟨w.heap.size, 1, none⟩) (Nat.le_refl _) _
  have hJ2 := ST.out _ _ _ HJ.out hb2
  have hO2 : OwnD W2 (w.heap.size + 2) 50 5 (.slice V L1.length cv) L1 := by
    rw [← hW2]
    exact (hO.low (by show w.heap.size < w.heap.size + 2; omega) _).low (by show w.heap.size < w.heap.size + 2; omega) _
  have hS2 : ∀ f ∈ L1, OwnS W2 (w.heap.size + 2) 5 f := fun f hf => by
    rw [← hW2]
    have hne : f.blk ≠ some w.heap.size := fun e => by have := ((hO.each f hf).lt _ e).1; omega
    exact ((hS f hf).far (p := ⟨w.heap.size, 0, none⟩) hne _).far (p := ⟨w.heap.size, 1, none⟩) hne _
  have hmid : Mid w.heap.size V cv (L.map Fc.fi) L1 J 0 [] L1 W2 := ⟨hJ2, rfl, rfl, fun _ _ => rfl, (fun i hi => by omega), hO2.row, hO2.each, (fun i f _ hi => hS2 f (List.mem_of_getElem? hi)), hO2.apart⟩
  have HW2 := Lib.hid hW2
  have HM := Lib.hid hmid
  have HD0 := Lib.hid D0
  have HD1 := Lib.hid D1
  have HFI := Lib.hid hfi
  have HL1 := Lib.hid hl1
  have hLe : L1.length ≤ 9223372036854775807 := by omega
  have hsz2 : w.heap.size + 2 ≤ W2.heap.size := by have := D1.lt; omega
  clear hO hS B0 B1 B1' hW2 D0 D1 hJ2 hO2 hS2 hmid hfi hl1 hb2 b1 bn bn2 hsz0
  go_wp2_with fail
  rw [HW2.out]
  have q0 := HD0.out.cell (i := 1) rfl
  go_wp2_with fail
  go_loopw [11] (fun s11 wr => ∃ (k : Nat) (done Lk : List Fc), k ≤ L1.length ∧ s11 = .int .i64 (k : Int) ∧ Mid w.heap.size V cv (L.map Fc.fi) L1 J k done Lk wr ∧ Blk wr w.heap.size 24 #[.int .i64 room, .slice V L1.length cv] ∧ Blk wr (w.heap.size + 1) 24 #[.int .i64 0, .slice none 0 0]) (fun s11 _ => L1.length - (intOf s11).toNat)
  case atStart => exact ⟨0, [], L1, Nat.zero_le _, rfl, HM.out, HD0.out, HD1.out⟩
  case round =>
    obtain ⟨k, done, Lk, hk, rfl, hM, hD0, hD1⟩ := hrel
    by_cases hlt : k < L1.length
    · obtain ⟨g, cap, hgv⟩ := own_len hM.row (by omega)
      injection hgv with hV h2 h3
      subst hV h3
      obtain ⟨f, hf⟩ : ∃ f, Lk[k]? = some f := ⟨Lk[k]'(by rw [hM.lenL]; exact hlt), List.getElem?_eq_getElem (by rw [hM.lenL]; exact hlt)⟩
      have d01 := hD0.cell (i := 1) rfl
      have hi0 : (0 : Int) ≤ (k : Int) := by omega
      have hi1 : (k : Int) < (L1.length : Int) := by omega
      have hfs : (L.map Fc.fi)[k]? = some f.fi := by
        rw [← HFI.out, List.getElem?_map, ← hM.rest k (Nat.le_refl _), hf]
        rfl
      have hcl := HC.out done Lk f g k cv wr hM.keeps hM.len hfs (by rw [hM.lenL, HL1.out]) hf (by have := hD1.lt; omega) (by rw [← HL1.out]; exact hM.row) (hM.hard k f (Nat.le_refl _) hf) (hM.own f (List.mem_of_getElem? hf))
      rw [← HL1.out] at hcl
      have CL := Lib.hid hcl
      have HG := Lib.hid (own_base_le hM.row)
      have MM := Lib.hid hM
      have HF := Lib.hid hf
      have D0 := Lib.hid hD0
      have D1 := Lib.hid hD1
      clear hM hf hfs hcl hD0 hD1 HL1 q0
      go_wp2_with fail
      go_at_fn fn
      refine CL.out.mono ?_
      rintro e w4 ⟨rfl, f', hch⟩
      have hn1 := MM.out.next HF.out hch
      have e0 : Blk w4 w.heap.size 24 #[.int .i64 room, .slice (some ⟨g, 0, none⟩) L1.length cv] := (hch.rest _ (Nat.le_refl _) D0.out.lt (by have := HG.out.1; omega) (fun e => by have := ((MM.out.own f (List.mem_of_getElem? HF.out)).lt _ e).1; omega)).trans D0.out
      have e1 : Blk w4 (w.heap.size + 1) 24 #[.int .i64 0, .slice none 0 0] := (hch.rest _ (by omega) D1.out.lt (by have := HG.out.1; omega) (fun e => by have := ((MM.out.own f (List.mem_of_getElem? HF.out)).lt _ e).1; omega)).trans D1.out
      have NX := Lib.hid hn1
      have E0 := Lib.hid e0
      have E1 := Lib.hid e1
      clear hn1 e0 e1 hch
      go_wp2_with fail
      go_roundw
      case rel => exact ⟨k + 1, _, _, by omega, by first | rfl | go_num, NX.out, E0.out, E1.out⟩
      case measure => simp [intOf]; omega
    · have hd : decide ((k : Int) < (L1.length : Int)) = false := decide_eq_false (by omega)
      have r0 := hD0.cell (i := 0) rfl
      have r1 := hD0.cell (i := 1) rfl
      have p0 := hD1.cell (i := 0) rfl
      have p1 := hD1.cell (i := 1) rfl
      have s0 := hD1.free 0
      have s1 := hD1.free 1
      have hdl : Lk = done := by
        apply List.ext_getElem?
        intro i
        by_cases e : i < k
        · exact hM.first i e
        · rw [List.getElem?_eq_none (by rw [hM.lenL]; omega), List.getElem?_eq_none (by rw [hM.len]; omega)]
      have hz := (hD1.put 0 (.int .i64 room)).put 1 (.slice V L1.length cv)
      have z0 := hz.cell (i := 0) rfl
      have z1 := hz.cell (i := 1) rfl
      have hOD : OwnD wr (w.heap.size + 2) 50 5 (.slice V L1.length cv) Lk := ⟨by rw [hM.lenL]; exact hM.row, hM.own, hM.apart⟩
      have hOz := ((hOD.low (p := ⟨w.heap.size + 1, 0, none⟩) (by show w.heap.size + 1 < w.heap.size + 2; omega) (.int .i64 room)).low (p := ⟨w.heap.size + 1, 1, none⟩) (by show w.heap.size + 1 < w.heap.size + 2; omega) (.slice V L1.length cv)).lower (base' := w.heap.size) (by omega)
      have hJz := ST.out _ _ _ hM.keeps (((Below.refl w.heap.size wr).setCell (p := ⟨w.heap.size + 1, 0, none⟩) (by show w.heap.size ≤ w.heap.size + 1; omega) (.int .i64 room)).setCell (p := ⟨w.heap.size + 1, 1, none⟩) (by show w.heap.size ≤ w.heap.size + 1; omega) (.slice V L1.length cv))
      rw [← hdl] at hJz
      have FIN := Lib.hid (show ∃ v L', Ending.returned (.agg #[.int .i64 room, .slice V L1.length cv]) = .returned (.agg #[.int .i64 room, v]) ∧ OwnD _ w.heap.size 50 5 v L' ∧ L'.length = L.length ∧ J L' _ from ⟨_, Lk, rfl, hOz, hM.lenL.trans HL1.out, hJz⟩)
      have Z0 := Lib.hid z0
      have Z1 := Lib.hid z1
      clear hM hD0 hD1 hdl hz z0 z1 hOD hOz hJz
      go_wp2
      have z0 := Z0.out
      have z1 := Z1.out
      exact bodyPost_ret (v := .agg #[.int .i64 room, .slice V L1.length cv]) (by simp [results, Tryd.results42, go_sem, z0, z1]) rfl FIN.out
end Go.Proofs.YtkhggofcbdcliaaDoor
namespace Go.Proofs.YtkhggofcbdcliaaDoor
open Go.RowKit

section
variable {W : World} {n0 N cap g i : Nat} {t : TypeId} {Lk : List Fc} {f : Fc}
/-- A file's slice, its sure ones, written anew within the row. -/
theorem row_put1 (hr : W.ownsRow n0 t 3 (.slice (some ⟨g, 0, none⟩) N cap) N (fCells Lk)) (hx : Lk[i]? = some f) (X : Option Addr) (c : Nat) (l : List Int) :
    (W.setCell ⟨g, i * 3 + 1, none⟩ (.slice X l.length c)).ownsRow n0 t 3 (.slice (some ⟨g, 0, none⟩) N cap) N (fCells (Lk.set i { f with X := X, c := c, l := l })) := by
  have h := own_put hr (i * 3 + 1) (.slice X l.length c)
  rw [fCells_set1 f X c l Lk i hx] at h
  exact h
theorem row_put2 (hr : W.ownsRow n0 t 3 (.slice (some ⟨g, 0, none⟩) N cap) N (fCells Lk)) (hx : Lk[i]? = some f) (s : Int) :
    (W.setCell ⟨g, i * 3 + 2, none⟩ (.int .i64 s)).ownsRow n0 t 3 (.slice (some ⟨g, 0, none⟩) N cap) N (fCells (Lk.set i { f with s := s })) := by
  have h := own_put hr (i * 3 + 2) (.int .i64 s)
  rw [fCells_set2 f s Lk i hx] at h
  exact h
theorem row_cells (hr : W.ownsRow n0 t 3 (.slice (some ⟨g, 0, none⟩) N cap) N (fCells Lk)) (hx : Lk[i]? = some f) :
    W.cell? ⟨g, i * 3, none⟩ = some (.int .i64 f.num) ∧ W.cell? ⟨g, i * 3 + 1, none⟩ = some (.slice f.X f.l.length f.c) ∧ W.cell? ⟨g, i * 3 + 2, none⟩ = some (.int .i64 f.s) ∧ W.frozen? ⟨g, i * 3 + 1, none⟩ = false ∧ W.frozen? ⟨g, i * 3 + 2, none⟩ = false := by
  obtain ⟨q0, q1, q2⟩ := fCells_get Lk f i hx
  exact ⟨own_cell_at hr q0, own_cell_at hr q1, own_cell_at hr q2, own_free_at hr _, own_free_at hr _⟩
end
/-- A file cut to its first n bytes. -/
def Fc.cut (f : Fc) (n : Nat) : Fc := { f with l := f.l.take n, c := n, s := min f.s n }
/-- The world behind a cut. -/
def cutW (W : World) (g i n : Nat) (f : Fc) : World := (W.drew.setCell ⟨g, i * 3 + 1, none⟩ (.slice f.X n n)).setCell ⟨g, i * 3 + 2, none⟩ (.int .i64 (min f.s n))

set_option maxRecDepth 100000 in
set_option maxHeartbeats 6400000 in
theorem shorten_any (g i n : Nat) (f : Fc) (W : World) (h1 : W.cell? ⟨g, i * 3 + 1, none⟩ = some (.slice f.X f.l.length f.c)) (h2 : W.cell? ⟨g, i * 3 + 2, none⟩ = some (.int .i64 f.s)) (h3 : W.frozen? ⟨g, i * 3 + 1, none⟩ = false) (h4 : W.frozen? ⟨g, i * 3 + 2, none⟩ = false)
    (hn : n ≤ f.l.length) (hl : f.l.length ≤ f.c) (hc : f.c ≤ 9223372036854775807) (hX : f.X = none → f.c = 0) :
    Calls Tryd.prog 44 #[.pointer (some ⟨g, i * 3, none⟩), .int .i64 (n : Int)] W fun e w' => e = .returned (.tuple #[]) ∧ w' = cutW W g i n f := by
  obtain ⟨num, X, c, l, s⟩ := f
  dsimp only at h1 h2 hn hl hc hX
  unfold cutW
  dsimp only
  obtain ⟨W1, hW1⟩ : ∃ W1, W.drew = W1 := ⟨_, rfl⟩
  have e1 : W1.cell? ⟨g, i * 3 + 1, none⟩ = some (.slice X l.length c) := by rw [← hW1]; exact h1
  have e2 : W1.cell? ⟨g, i * 3 + 2, none⟩ = some (.int .i64 s) := by rw [← hW1]; exact h2
  have e3 : W1.frozen? ⟨g, i * 3 + 1, none⟩ = false := by rw [← hW1]; exact h3
  have e4 : W1.frozen? ⟨g, i * 3 + 2, none⟩ = false := by rw [← hW1]; exact h4
  have i0 : (0 : Int) ≤ (n : Int) := by omega
  have i1 : (n : Int) ≤ (l.length : Int) := by omega
  have i2 : (n : Int) ≤ (c : Int) := by omega
  cases X with
  | none =>
    obtain rfl : c = 0 := hX rfl
    obtain rfl : n = 0 := by omega
    clear hX hW1 e1 e2 e3 e4
    go_enter Tryd.func44, Tryd.ntmps44
    go_region
    go_wp2
    go_end0
    exact ⟨rfl, rfl⟩
  | some a =>
    clear hX hW1 e1 e2 e3 e4
    go_enter Tryd.func44, Tryd.ntmps44
    go_region
    go_wp2
    go_end0
    exact ⟨rfl, rfl⟩

/-- What is told of the files that have been changed, where each becomes what G says; all memory below n0 is as it was. -/
def JB (n0 : Nat) (w : World) (fs : List Fi) (G : Fi → Fi) (done : List Fc) (W : World) : Prop := Below n0 w W ∧ done.map Fc.fi = (fs.take done.length).map G
theorem JB.stab {n0 : Nat} {w : World} {fs : List Fi} {G : Fi → Fi} (done : List Fc) (W W' : World) (h : JB n0 w fs G done W) (hb : Below n0 W W') : JB n0 w fs G done W' := ⟨h.1.trans hb, h.2⟩
theorem JB.snoc {n0 i : Nat} {w W w' : World} {fs : List Fi} {G : Fi → Fi} {done : List Fc} {f f' : Fc} (h : JB n0 w fs G done W) (hb : Below n0 W w') (hi : done.length = i) (hf : fs[i]? = some f.fi) (hG : f'.fi = G f.fi) : JB n0 w fs G (done ++ [f']) w' := by
  refine ⟨h.1.trans hb, ?_⟩
  subst hi
  obtain ⟨h1, h2⟩ := List.getElem?_eq_some_iff.1 hf
  rw [List.map_append, h.2, List.length_append, List.length_singleton, List.take_succ_eq_append_getElem h1, List.map_append, h2]
  simp [hG]
theorem JB.start (n0 : Nat) (w : World) (fs : List Fi) (G : Fi → Fi) : JB n0 w fs G [] w := ⟨Below.refl _ _, rfl⟩
theorem JB.done {n0 : Nat} {w W : World} {fs : List Fi} {G : Fi → Fi} {done : List Fc} (h : JB n0 w fs G done W) (hl : done.length = fs.length) : done.map Fc.fi = fs.map G := by
  rw [h.2, hl, List.take_length]

section
variable {n0 N cap g i : Nat} {J : List Fc → World → Prop} {done Lk : List Fc} {f : Fc} {W w' : World}
/-- A file that stays as it is. -/
theorem chgd_same (k : Nat) (hJ : J (done ++ [f]) (W.drewN k)) (hr : W.ownsRow (n0 + 2) 50 3 (.slice (some ⟨g, 0, none⟩) N cap) N (fCells Lk)) (hx : Lk[i]? = some f) (ho : OwnB W (n0 + 2) 5 f) : Chgd n0 N cap g i J done Lk f f W (W.drewN k) := by
  refine ⟨hJ, Nat.le_refl _, ?_, ho.stays (fun _ _ => rfl), .inl rfl, fun b _ _ _ _ => rfl⟩
  have : Lk.set i f = Lk := by
    apply List.ext_getElem?
    intro j
    by_cases e : i = j
    · subst e
      rw [List.getElem?_set_self (List.getElem?_eq_some_iff.1 hx).1, hx]
    · rw [List.getElem?_set_ne e]
  rw [this]
  exact hr
/-- A file that is cut. -/
theorem chgd_cut (n : Nat) (hn : n ≤ f.l.length) (hJ : J (done ++ [f.cut n]) (cutW W g i n f)) (hr : W.ownsRow (n0 + 2) 50 3 (.slice (some ⟨g, 0, none⟩) N cap) N (fCells Lk)) (hx : Lk[i]? = some f) (ho : OwnB W (n0 + 2) 5 f) : Chgd n0 N cap g i J done Lk f (f.cut n) W (cutW W g i n f) := by
  have hi := (List.getElem?_eq_some_iff.1 hx).1
  have hne := ho.off_row hr (by decide)
  refine ⟨hJ, by simp [cutW], ?_, ?_, .inl rfl, fun b _ _ hb _ => ?_⟩
  · have hr' : W.drew.ownsRow (n0 + 2) 50 3 (.slice (some ⟨g, 0, none⟩) N cap) N (fCells Lk) := hr
    have r1 := row_put1 hr' hx f.X n (f.l.take n)
    rw [show (f.l.take n).length = n from by rw [List.length_take]; omega] at r1
    have r2 := row_put2 r1 (f := { f with X := f.X, c := n, l := f.l.take n }) (i := i) (List.getElem?_set_self hi) (min f.s n)
    rw [List.set_set] at r2
    exact r2
  · have h1 : OwnB W.drew (n0 + 2) 5 f := ho.stays (fun _ _ => rfl)
    exact (((h1.cut n n hn (Nat.le_refl _) (Nat.le_trans hn ho.le)).num f.num (min f.s n)).far (p := ⟨g, i * 3 + 1, none⟩) hne _).far (p := ⟨g, i * 3 + 2, none⟩) hne _
  · exact (Below.heap_setCell _ _ _ _ hb).trans (Below.heap_setCell _ _ _ _ hb)
end
theorem cutW_below {n0 g i n : Nat} {f : Fc} {W : World} (hg : n0 ≤ g) : Below n0 W (cutW W g i n f) := (((Below.refl n0 W).drew).setCell (p := ⟨g, i * 3 + 1, none⟩) hg _).setCell (p := ⟨g, i * 3 + 2, none⟩) hg _

theorem sync1_any (g i : Nat) (f : Fc) (W : World) (h1 : W.cell? ⟨g, i * 3 + 1, none⟩ = some (.slice f.X f.l.length f.c)) (h2 : W.cell? ⟨g, i * 3 + 2, none⟩ = some (.int .i64 f.s)) (h4 : W.frozen? ⟨g, i * 3 + 2, none⟩ = false) :
    Calls Tryd.prog 57 #[.pointer (some ⟨g, i * 3, none⟩)] W fun e w' => e = .returned (.tuple #[]) ∧ w' = W.setCell ⟨g, i * 3 + 2, none⟩ (.int .i64 (f.l.length : Int)) := by
  obtain ⟨num, X, c, l, s⟩ := f
  dsimp only at h1 h2
  go_enter Tryd.func57, Tryd.ntmps57
  go_wp2
  go_end0
  exact ⟨rfl, rfl⟩
namespace Dk
def syn1 (f : Fi) : Fi := (f.1, f.2.1, (f.2.1.length : Int))
def syn (fs : List Fi) : List Fi := fs.map syn1
def cut1 (num : Int) (n : Nat) (f : Fi) : Fi := if f.1 = num then (f.1, f.2.1.take n, min f.2.2 n) else f
def app1 (num : Int) (b : List Int) (f : Fi) : Fi := if f.1 = num then (f.1, f.2.1 ++ b, f.2.2) else f
end Dk
theorem syncChg (n0 N : Nat) (w : World) (fs : List Fi) : Chg n0 N fs 57 #[] (JB n0 w fs Dk.syn1) := by
  intro done Lk f g i cap W hJ hi hf hN hx hsz hr hs ho
  obtain ⟨-, q1, q2, -, q4⟩ := row_cells hr hx
  have hg := own_base_le hr
  have hne : f.blk ≠ some g := ho.off_row hr (by decide)
  refine (sync1_any g i f W q1 q2 q4).mono ?_
  rintro e w' ⟨rfl, rfl⟩
  refine ⟨rfl, { f with s := (f.l.length : Int) }, ?_⟩
  exact ⟨hJ.snoc ((Below.refl _ _).setCell (p := ⟨g, i * 3 + 2, none⟩) (by show n0 ≤ g; omega) _) hi hf rfl, by simp, row_put2 hr hx _, (ho.num f.num (f.l.length : Int)).far (p := ⟨g, i * 3 + 2, none⟩) hne _, .inl rfl, fun b _ _ hb _ => Below.heap_setCell _ _ _ _ hb⟩

set_option maxHeartbeats 1600000 in
theorem only_no (g i : Nat) (num number : Int) (pn pc : Nat) (W : World) (h0 : W.cell? ⟨g, i * 3, none⟩ = some (.int .i64 num)) (h1 : W.cell? ⟨pn, 0, none⟩ = some (.int .i64 number)) (hne : num ≠ number) :
    Calls Tryd.prog 63 (#[.pointer (some ⟨g, i * 3, none⟩)] ++ #[.pointer (some ⟨pn, 0, none⟩), .pointer (some ⟨pc, 0, none⟩)]) W fun e w' => e = .returned (.tuple #[]) ∧ ∃ k, w' = W.drewN k := by
  have d : (num == number) = false := beq_eq_false_iff_ne.2 hne
  show Calls Tryd.prog 63 #[.pointer (some ⟨g, i * 3, none⟩), .pointer (some ⟨pn, 0, none⟩), .pointer (some ⟨pc, 0, none⟩)] W _
  clear hne
  go_enter Tryd.func63, Tryd.ntmps63
  go_wp2_with fail
  go_quiet (fail)
  go_wp2
  go_end0
  exact ⟨rfl, _, rfl⟩
set_option maxHeartbeats 1600000 in
theorem only_yes (g i : Nat) (number : Int) (pn pc fn : Nat) (lb : Array Value) (eg : ∀ args w, (callFunc fn args).run Tryd.prog w = .ok (.enter fn args) w) (W : World) (Q : Ending → World → Prop) (h0 : W.cell? ⟨g, i * 3, none⟩ = some (.int .i64 number)) (h1 : W.cell? ⟨pn, 0, none⟩ = some (.int .i64 number))
    (h2 : W.cell? ⟨pc, 0, none⟩ = some (.func (.func fn) #[] lb)) (hQ : ∀ k, Calls Tryd.prog fn (#[.pointer (some ⟨g, i * 3, none⟩)] ++ lb) (W.drewN k) fun e w' => e = .returned (.tuple #[]) ∧ Q (.returned (.tuple #[])) w') :
    Calls Tryd.prog 63 (#[.pointer (some ⟨g, i * 3, none⟩)] ++ #[.pointer (some ⟨pn, 0, none⟩), .pointer (some ⟨pc, 0, none⟩)]) W Q := by
  show Calls Tryd.prog 63 #[.pointer (some ⟨g, i * 3, none⟩), .pointer (some ⟨pn, 0, none⟩), .pointer (some ⟨pc, 0, none⟩)] W _
  have HQ := Lib.hid hQ
  clear hQ
  go_enter Tryd.func63, Tryd.ntmps63
  go_wp2_with fail
  go_quiet (fail)
  have h2' : (W.drewN nq).cell? ⟨pc, 0, none⟩ = some (.func (.func fn) #[] lb) := h2
  go_wp2_with fail
  go_at_fn fn
  refine (HQ.out nq).mono ?_
  rintro e w4 ⟨rfl, hq⟩
  have H := Lib.hid hq
  clear hq
  go_wp2
  go_end0
  exact H.out
end Go.Proofs.YtkhggofcbdcliaaDoor
namespace Go.Proofs.YtkhggofcbdcliaaDoor
open Go.RowKit

theorem wp_append_any {P : Program} (w : World) {o : Oper} {a : Act} {K : Act → World → Prop} {Q : Exit → Act → World → Prop} (s x : Operand) (t : TypeId)
    (ho : o.op = .call { callee := .builtin .append, args := #[s, x], argTypes := #[t, t] })
    (base : Nat) (e : TypeId) (i : TypeInfo) (z : Value) (size bytes : Nat) (ht : P.underlying t = some (.slice e)) (hi : P.info? e = some i) (hz : i.zero = some z)
    (hsize : i.size = size) (hby : i.bytes = bytes) (hzs : z.cells.size = size) (hsz : 0 < size)
    (v : Value) (n : Nat) (xs : List Value) (hs : a.eval s = v) (hown : w.ownsRow base e size v n xs)
    (A : Option Addr) (m c : Nat) (hA : A = none → m = 0 ∧ c = 0) (news : List Value) (hx : a.eval x = .slice A m c) (hl : news.length = m * size) (hr : Lies w A news) (h1 : ∀ u ∈ news, u.oneCell' = true)
    (h63 : n + m ≤ maxLen) (hbytes : (n + m) * bytes ≤ 140737488355328) (hbase : base ≤ w.heap.size)
    (h : ∀ A' c' w', w'.ownsRow base e size (.slice A' (n + m) c') (n + m) (xs ++ news) → w.grownBy w' v.ownBlock → (Value.ownBlock (.slice A' (n + m) c') = v.ownBlock ∨ Value.ownBlock (.slice A' (n + m) c') = some w.heap.size) → K (a.put o.dst (.slice A' (n + m) c')) w') :
    Oper.wp P o a w K Q := by
  obtain ⟨v', w', hrun, h2, h3, h4⟩ := run_append_lies (P := P) w base t o.type e i z size bytes ht hi hz hsize hby hzs hsz v n xs hown A m c hA news hl hr h1 h63 hbytes hbase
  obtain ⟨A', c', rfl, -, -, -, -⟩ := own_form h2
  unfold Oper.wp execOp
  simp only [ho, resolve, invoke, builtin, Sem.run_bind, Sem.run_pure, Result.andThen_ok, List.map_toArray, List.map_cons, List.map_nil, hs, hx, hrun]
  exact h A' c' w' h2 h3 h4
/-- The same at a step of a region that draws its order. -/
theorem step_append_any {P : Program} (w : World) {ops : Array Oper} {o : Oper} {a : Act} {K : Act → World → Prop} {Q : Exit → Act → World → Prop} {E : Prop} (hgd : o.guard = none) (s x : Operand) (t : TypeId)
    (ho : o.op = .call { callee := .builtin .append, args := #[s, x], argTypes := #[t, t] })
    (base : Nat) (e : TypeId) (i : TypeInfo) (z : Value) (size bytes : Nat) (ht : P.underlying t = some (.slice e)) (hi : P.info? e = some i) (hz : i.zero = some z)
    (hsize : i.size = size) (hby : i.bytes = bytes) (hzs : z.cells.size = size) (hsz : 0 < size)
    (v : Value) (n : Nat) (xs : List Value) (hs : a.eval s = v) (hown : w.ownsRow base e size v n xs)
    (A : Option Addr) (m c : Nat) (hA : A = none → m = 0 ∧ c = 0) (news : List Value) (hx : a.eval x = .slice A m c) (hl : news.length = m * size) (hr : Lies w A news) (h1 : ∀ u ∈ news, u.oneCell' = true)
    (h63 : n + m ≤ maxLen) (hbytes : (n + m) * bytes ≤ 140737488355328) (hbase : base ≤ w.heap.size)
    (h : ∀ A' c' w', w'.ownsRow base e size (.slice A' (n + m) c') (n + m) (xs ++ news) → w.grownBy w' v.ownBlock → (Value.ownBlock (.slice A' (n + m) c') = v.ownBlock ∨ Value.ownBlock (.slice A' (n + m) c') = some w.heap.size) → K (a.put o.dst (.slice A' (n + m) c')) w') :
    if Region.wanted o (yielded ops a.tmps) = true then Oper.wp P o a w K Q else E := by
  have hw : Region.wanted o (yielded ops a.tmps) = true := by simp [Region.wanted, hgd]
  rw [if_pos hw]
  exact wp_append_any w s x t ho base e i z size bytes ht hi hz hsize hby hzs hsz v n xs hs hown A m c hA news hx hl hr h1 h63 hbytes hbase h

/-- What Append's change does to the file of the number. -/
def AppP (n0 N cap g i : Nat) (b : List Int) (Lk : List Fc) (f : Fc) (W w' : World) : Prop :=
  ∃ f', f'.fi = (f.num, f.l ++ b, f.s) ∧ Below n0 W w' ∧ W.heap.size ≤ w'.heap.size ∧ w'.ownsRow (n0 + 2) 50 3 (.slice (some ⟨g, 0, none⟩) N cap) N (fCells (Lk.set i f')) ∧ OwnB w' (n0 + 2) 5 f' ∧ (f'.blk = f.blk ∨ ∀ b, f'.blk = some b → W.heap.size ≤ b) ∧ (∀ b, n0 ≤ b → b < W.heap.size → b ≠ g → f.blk ≠ some b → w'.heap[b]? = W.heap[b]?)

set_option maxRecDepth 100000 in
set_option maxHeartbeats 3200000 in
theorem app1_any (n0 N cap g m pb : Nat) (B : Option Addr) (cb : Nat) (b : List Int) (Lk : List Fc) (f : Fc) (W : World) (h0 : W.cell? ⟨pb, 0, none⟩ = some (.slice B b.length cb)) (hb : OneB W B cb b) (hsz : n0 + 2 ≤ W.heap.size)
    (hr : W.ownsRow (n0 + 2) 50 3 (.slice (some ⟨g, 0, none⟩) N cap) N (fCells Lk)) (hx : Lk[m]? = some f) (hs : OwnS W (n0 + 2) 5 f) (ho : OwnB W (n0 + 2) 5 f) (hl : f.l.length + b.length ≤ 140737488355328) :
    Calls Tryd.prog 50 #[.pointer (some ⟨g, m * 3, none⟩), .pointer (some ⟨pb, 0, none⟩)] W fun e w' => e = .returned (.tuple #[]) ∧ AppP n0 N cap g m b Lk f W w' := by
  obtain ⟨i0, hI, hz0, hz1, hz2⟩ := info_parts infoBy
  obtain ⟨q0, q1, q2, q3, q4⟩ := row_cells hr hx
  have hg := own_base_le hr
  have hne : f.blk ≠ some g := ho.off_row hr (by decide)
  have HB := Lib.hid hb
  have HR := Lib.hid hr
  have HX := Lib.hid hx
  have HS := Lib.hid hs
  have HO := Lib.hid ho
  have HN := Lib.hid hne
  have Q1 := Lib.hid q1
  have K0 := Lib.hid h0
  have Q3 := Lib.hid q3
  clear hb hr hx hs ho hne q1 q3 h0 q0 q2 q4
  go_enter Tryd.func50, Tryd.ntmps50
  go_wp2_with fail
  have hs : W.drew.ownsRow (n0 + 2) 5 1 (.slice f.X f.l.length f.c) f.l.length (bCells f.l) := HS.out
  have hlb : Lies W.drew B (bCells b) := HB.out.lies.drew
  have q1 : W.drew.cell? ⟨g, m * 3 + 1, none⟩ = some (.slice f.X f.l.length f.c) := Q1.out
  have k0 : W.drew.cell? ⟨pb, 0, none⟩ = some (.slice B b.length cb) := K0.out
  have FINS := Lib.hid (fun (X2 : Option Addr) (c2 : Nat) (w2 : World) (ho2 : w2.ownsRow (n0 + 2) 5 1 (.slice X2 (f.l.length + b.length) c2) (f.l.length + b.length) (bCells f.l ++ bCells b)) (hg2 : W.drew.grownBy w2 (Value.ownBlock (.slice f.X f.l.length f.c))) (hblk : Value.ownBlock (.slice X2 (f.l.length + b.length) c2) = Value.ownBlock (.slice f.X f.l.length f.c) ∨ Value.ownBlock (.slice X2 (f.l.length + b.length) c2) = some W.heap.size) =>
    (show w2.cell? ⟨g, m * 3 + 1, none⟩ = some (.slice f.X f.l.length f.c) ∧ w2.frozen? ⟨g, m * 3 + 1, none⟩ = false ∧ AppP n0 N cap g m b Lk f W (w2.setCell ⟨g, m * 3 + 1, none⟩ (.slice X2 (f.l.length + b.length) c2)) from by
      rw [sl_blk f] at hg2 hblk
      have hgb : w2.heap[g]? = W.heap[g]? := hg2.block g hg.2 (fun e => HN.out e.symm)
      refine ⟨(World.cell?_of_block (w := W) (a := ⟨g, m * 3 + 1, none⟩) hgb).trans Q1.out, (World.frozen?_of_block (w := W) (a := ⟨g, m * 3 + 1, none⟩) hgb).trans Q3.out, ?_⟩
      rw [← bCells_append, ← List.length_append] at ho2
      rw [← List.length_append] at hblk ⊢
      have hb2 : Below n0 W w2 := (Below.drew (Below.refl n0 W)).grown hg2 (by show n0 ≤ W.heap.size; omega) (fun k hk => by have := (HO.out.lt k hk).1; omega)
      have r2 : w2.ownsRow (n0 + 2) 50 3 (.slice (some ⟨g, 0, none⟩) N cap) N (fCells Lk) := own_stays HR.out (fun k hk => by
        have : g = k := by injection hk
        subst this
        exact hgb)
      have ob := OwnB.of_own (f := { f with X := X2, c := c2, l := f.l ++ b }) ho2 (fun x hx => (List.mem_append.1 hx).elim (HO.out.byte x) (HB.out.byte x))
      have hblk2 : ({ f with X := X2, c := c2, l := f.l ++ b } : Fc).blk = f.blk ∨ ({ f with X := X2, c := c2, l := f.l ++ b } : Fc).blk = some W.heap.size := by
        have := sl_blk { f with X := X2, c := c2, l := f.l ++ b }
        dsimp only at this
        rw [← this]
        exact hblk
      refine ⟨{ f with X := X2, c := c2, l := f.l ++ b }, rfl, hb2.setCell (by show n0 ≤ g; omega) _, by simpa using hg2.size, row_put1 r2 HX.out X2 c2 (f.l ++ b), ob.far (p := ⟨g, m * 3 + 1, none⟩) (ob.off_row r2 (by decide)) _, hblk2.imp id (fun h k hk => by rw [h] at hk; injection hk with hk; omega), fun k h1 h2 h3 h4 => ?_⟩
      exact (Below.heap_setCell _ _ _ _ h3).trans (hg2.block k h2 (fun e => h4 e.symm))))
  go_region_law (refine step_append_any _ rfl _ _ 25 rfl (n0 + 2) 5 i0 (.int .u8 0) 1 1 Tryd.underlying25 hI hz0 hz1 hz2 rfl (by decide) _ f.l.length (bCells f.l) rfl hs B b.length cb HB.out.noA (bCells b) rfl (by rw [bCells_length, Nat.mul_one]) hlb (bCells_one b) (by unfold maxLen; omega) (by omega) hsz ?_; intro X2 c2 w2 ho2 hg2 hblk; have FIN := Lib.hid (FINS.out X2 c2 w2 ho2 hg2 hblk).2.2; have c1 := (FINS.out X2 c2 w2 ho2 hg2 hblk).1; have c3 := (FINS.out X2 c2 w2 ho2 hg2 hblk).2.1; clear ho2 hg2 hblk)
  all_goals
    go_wp2
    go_end0
    exact ⟨rfl, FIN.out⟩

theorem appChg (n0 N : Nat) (w : World) (fs : List Fi) (number : Int) (B : Option Addr) (cb : Nat) (b : List Int) (pn pc pb : Nat) (h0 : w.cell? ⟨pn, 0, none⟩ = some (.int .i64 number)) (h1 : w.cell? ⟨pc, 0, none⟩ = some (.func (.func 50) #[] #[.pointer (some ⟨pb, 0, none⟩)])) (h2 : w.cell? ⟨pb, 0, none⟩ = some (.slice B b.length cb))
    (hB : OneB w B cb b) (hw : n0 = w.heap.size) (l0 : pn < n0) (l1 : pc < n0) (l2 : pb < n0) (hn : ∀ f ∈ fs, f.1 = number → f.2.1.length + b.length ≤ 140737488355328) :
    Chg n0 N fs 63 #[.pointer (some ⟨pn, 0, none⟩), .pointer (some ⟨pc, 0, none⟩)] (JB n0 w fs (Dk.app1 number b)) := by
  intro done Lk f g i cap W hJ hi hf hN hx hsz hr hs ho
  obtain ⟨q0, q1, q2, q3, q4⟩ := row_cells hr hx
  have hg := own_base_le hr
  have k0 : W.cell? ⟨pn, 0, none⟩ = some (.int .i64 number) := (hJ.1.cell (p := ⟨pn, 0, none⟩) l0).trans h0
  have k1 : W.cell? ⟨pc, 0, none⟩ = _ := (hJ.1.cell (p := ⟨pc, 0, none⟩) l1).trans h1
  have k2 : W.cell? ⟨pb, 0, none⟩ = _ := (hJ.1.cell (p := ⟨pb, 0, none⟩) l2).trans h2
  have hBW : OneB W B cb b := hB.later (by have := hJ.1; rw [hw] at this; exact this)
  by_cases hne : f.num = number
  · have hnf : f.l.length + b.length ≤ 140737488355328 := hn f.fi (List.mem_of_getElem? hf) hne
    rw [hne] at q0
    refine only_yes g i number pn pc _ _ (fun _ _ => rfl) W _ q0 k0 k1 (fun k => ?_)
    refine (app1_any n0 N cap g i pb B cb b Lk f (W.drewN k) k2 (hBW.later (below_drewN (Below.refl _ _) k)) hsz hr hx (OwnS.stays hs (fun _ _ => rfl)) (ho.stays (fun _ _ => rfl)) hnf).mono ?_
    rintro e w' ⟨rfl, f', p1, p2, p3, p4, p5, p6, p7⟩
    refine ⟨rfl, rfl, f', hJ.snoc ((below_drewN (Below.refl n0 W) k).trans p2) hi hf ?_, p3, p4, p5, p6, p7⟩
    rw [p1]
    unfold Dk.app1
    rw [if_pos (show f.fi.1 = number from hne)]
    rfl
  · refine (only_no g i f.num number pn pc W q0 k0 hne).mono ?_
    rintro e w' ⟨rfl, k, rfl⟩
    refine ⟨rfl, f, chgd_same k (hJ.snoc (below_drewN (Below.refl n0 W) k) hi hf ?_) hr hx ho⟩
    unfold Dk.app1
    rw [if_neg (show ¬ f.fi.1 = number from hne)]
end Go.Proofs.YtkhggofcbdcliaaDoor
namespace Go.Proofs.YtkhggofcbdcliaaDoor
open Go.RowKit

namespace Dk
def fnd (n : Int) (fs : List Fi) : Option Fi := fs.find? (fun f => decide (f.1 = n))
theorem low_of (n : Int) : ∀ L : List Fc, (L.map Fc.fi).Pairwise (fun a b => a.1 < b.1) → ∃ at_ th, Low L n at_ th
  | [], _ => ⟨0, false, Nat.le_refl _, (fun u x hu => by omega), (fun u x _ hx => by simp at hx), (fun h => by cases h), fun _ u x _ hx => by simp at hx⟩
  | f :: r, hp => by
    rw [List.map_cons, List.pairwise_cons] at hp
    obtain ⟨hf, hr⟩ := hp
    have hall : ∀ (u : Nat) (x : Fc), r[u]? = some x → f.num < x.num := fun u x hx => hf x.fi (List.mem_map.2 ⟨x, List.mem_of_getElem? hx, rfl⟩)
    by_cases h : f.num < n
    · obtain ⟨at_, th, h1, h2, h3, h4, h5⟩ := low_of n r hr
      refine ⟨at_ + 1, th, by simp; exact h1, fun u x hu hx => ?_, fun u x hu hx => ?_, fun ht => ?_, fun ht u x hu hx => ?_⟩
      · cases u with
        | zero => simp at hx; subst hx; exact h
        | succ u => exact h2 u x (by omega) (by simpa using hx)
      · cases u with
        | zero => omega
        | succ u => exact h3 u x (by omega) (by simpa using hx)
      · obtain ⟨x, hx, hn⟩ := h4 ht
        exact ⟨x, by simpa using hx, hn⟩
      · cases u with
        | zero => omega
        | succ u => exact h5 ht u x (by omega) (by simpa using hx)
    · refine ⟨0, decide (f.num = n), Nat.zero_le _, fun u x hu => by omega, fun u x _ hx => ?_, fun ht => ?_, fun ht u x _ hx => ?_⟩
      · cases u with
        | zero => simp at hx; subst hx; omega
        | succ u =>
          have := hall u x (by simpa using hx)
          omega
      · exact ⟨f, rfl, of_decide_eq_true ht⟩
      · have h0 := of_decide_eq_false ht
        cases u with
        | zero => simp at hx; subst hx; omega
        | succ u =>
          have := hall u x (by simpa using hx)
          omega
theorem fnd_none {n : Int} {L : List Fc} {at_ : Nat} (h : Low L n at_ false) : fnd n (L.map Fc.fi) = none ∧ Plc L n (-1) := by
  have hno : ∀ (t : Nat) (x : Fc), L[t]? = some x → x.num ≠ n := fun t x hx => by
    by_cases e : t < at_
    · have := h.lo t x e hx
      omega
    · have := h.not rfl t x (by omega) hx
      omega
  refine ⟨?_, .inl ⟨rfl, hno⟩⟩
  unfold fnd
  rw [List.find?_eq_none]
  intro f hf
  obtain ⟨x, hx, rfl⟩ := List.mem_map.1 hf
  obtain ⟨t, ht⟩ := List.getElem?_of_mem hx
  show ¬ decide (x.num = n) = true
  rw [decide_eq_true_eq]
  exact hno t x ht
theorem fnd_some {n : Int} {L : List Fc} {at_ : Nat} (h : Low L n at_ true) : ∃ x, L[at_]? = some x ∧ x.num = n ∧ fnd n (L.map Fc.fi) = some x.fi ∧ Plc L n (at_ : Int) := by
  obtain ⟨x, hx, hn⟩ := h.here rfl
  have hno : ∀ (u : Nat) (y : Fc), u < at_ → L[u]? = some y → y.num ≠ n := fun u y hu hy => by
    have := h.lo u y hu hy
    omega
  refine ⟨x, hx, hn, ?_, .inr ⟨at_, x, rfl, hx, hn, hno⟩⟩
  unfold fnd
  rw [List.find?_eq_some_iff_getElem]
  obtain ⟨h1, h2⟩ := List.getElem?_eq_some_iff.1 hx
  refine ⟨decide_eq_true (show x.fi.1 = n from hn), at_, by rw [List.length_map]; exact h1, by rw [List.getElem_map, h2], fun j hj => ?_⟩
  have := hno j L[j] hj (List.getElem?_eq_getElem (by omega))
  simpa [Fc.fi] using this
/-- The three ways. -/
theorem ways {room : Int} (n : Int) {L : List Fc} (h : fmd room (L.map Fc.fi) = true) : (∃ at_, Low L n at_ false ∧ fnd n (L.map Fc.fi) = none ∧ Plc L n (-1)) ∨ ∃ at_ x, Low L n at_ true ∧ L[at_]? = some x ∧ x.num = n ∧ fnd n (L.map Fc.fi) = some x.fi ∧ Plc L n (at_ : Int) := by
  obtain ⟨at_, th, hl⟩ := low_of n L (fmd_facts h).up
  cases th with
  | false =>
    obtain ⟨h1, h2⟩ := fnd_none hl
    exact .inl ⟨at_, hl, h1, h2⟩
  | true =>
    obtain ⟨x, h1, h2, h3, h4⟩ := fnd_some hl
    exact .inr ⟨at_, x, hl, h1, h2, h3, h4⟩
theorem len_le {room : Int} {L : List Fc} (h : fmd room (L.map Fc.fi) = true) : L.length ≤ 1048577 := by
  have := (fmd_facts h).len
  simpa using this
theorem fit {room : Int} {L : List Fc} (h : fmd room (L.map Fc.fi) = true) : Fit L := by
  have hF := fmd_facts h
  have hl := len_le h
  refine ⟨by omega, fun f hf => ?_⟩
  have := used_mem (List.mem_map.2 ⟨f, hf, rfl⟩ : f.fi ∈ L.map Fc.fi)
  have h1 := hF.use
  have h2 := hF.r1
  have h3 : ((f.fi).2.1.length : Int) = (f.l.length : Int) := rfl
  omega

/-- What each call answers: the room, the files, the error's number. -/
abbrev Ans3 := Int × List Fi × Int
def getR (room : Int) (fs : List Fi) (n : Int) : List Int × Int := if fmd room fs = true then (match fnd n fs with | none => ([], 16) | some f => (f.2.1, 0)) else ([], 1)
def cutR (room : Int) (fs : List Fi) (n k : Int) : Ans3 := if fmd room fs = true then (match fnd n fs with | none => (0, [], 16) | some f => if win k (f.2.1.length : Int) = true then (room, fs.map (cut1 n k.toNat), 0) else (0, [], 1)) else (0, [], 1)
def remR (room : Int) (fs : List Fi) (n : Int) : Ans3 := if fmd room fs = true then (match fnd n fs with | none => (0, [], 16) | some _ => (room, fs.filter (fun f => !decide (f.1 = n)), 0)) else (0, [], 1)
def synR (room : Int) (fs : List Fi) : Ans3 := if fmd room fs = true then (room, fs.map syn1, 0) else (0, [], 1)
/-- The files, with one of that number. -/
def ins (fs : List Fi) (n : Int) : List Fi := match fnd n fs with | none => fs.filter (fun f => decide (f.1 < n)) ++ (n, [], 0) :: fs.filter (fun f => decide (n < f.1)) | some _ => fs
def appR (room : Int) (fs : List Fi) (n : Int) (b : List Int) : Ans3 := if fmd room fs = true ∧ win n 1048576 = true then (if (b.length : Int) > room - used fs then (0, [], 7) else (room, (ins fs n).map (app1 n b), 0)) else (0, [], 1)
/-- The files behind a crash, and the place of the last one of which a byte was kept that was not sure. -/
def crs : Nat → List Fi → List Fi
  | _, [] => []
  | keep, f :: r => (f.1, f.2.1.take (f.2.2.toNat + min keep (f.2.1.length - f.2.2.toNat)), ((f.2.2.toNat + min keep (f.2.1.length - f.2.2.toNat) : Nat) : Int)) :: crs (keep - min keep (f.2.1.length - f.2.2.toNat)) r
def kpt : Nat → List Fi → Nat
  | keep, [] => keep
  | keep, f :: r => kpt (keep - min keep (f.2.1.length - f.2.2.toNat)) r
def lst : Nat → Nat → Option Nat → List Fi → Option Nat
  | _, _, o, [] => o
  | i, keep, o, f :: r => lst (i + 1) (keep - min keep (f.2.1.length - f.2.2.toNat)) (if 0 < min keep (f.2.1.length - f.2.2.toNat) then some i else o) r
end Dk

/-- A disk and an error are answered, in memory of the call's own. -/
def GivesDE (r : Dk.Ans3) (w : World) (e : Ending) (w' : World) : Prop :=
  ∃ v L, e = .returned (.tuple #[.agg #[.int .i64 r.1, v], .int .i64 r.2.2]) ∧ OwnD w' w.heap.size 50 5 v L ∧ L.map Fc.fi = r.2.1 ∧ Below w.heap.size w w'
theorem GivesDE.err {w w' : World} (k : Int) (hb : Below w.heap.size w w') : GivesDE (0, [], k) w (.returned (.tuple #[.agg #[.int .i64 0, .slice none 0 0], .int .i64 k])) w' := ⟨_, [], rfl, OwnD.nil _ _ _ _, rfl, hb⟩
end Go.Proofs.YtkhggofcbdcliaaDoor
