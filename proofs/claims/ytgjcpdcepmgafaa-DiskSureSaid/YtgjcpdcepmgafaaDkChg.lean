/-
  What disk's changed answers, whatever the change does to each file in its turn.
-/
import Derived.Test.YtgjcpdcepmgafaaDkCopy
import Derived.Shelf.Abstract
namespace Go.Proofs.Ytgjcpdcepmgafaa
open Go.RowKit

/-- What a change leaves behind, called at the file of place i. -/
structure Chgd (n0 N cap g i : Nat) (J : List Fc → World → Prop) (done Lk : List Fc) (f f' : Fc) (W w' : World) : Prop where
  keeps : J (done ++ [f']) w'
  size : W.heap.size ≤ w'.heap.size
  row : w'.ownsRow (n0 + 2) 43 3 (.slice (some ⟨g, 0, none⟩) N cap) N (fCells (Lk.set i f'))
  own : OwnB w' (n0 + 2) 5 f'
  blk : f'.blk = f.blk ∨ ∀ b, f'.blk = some b → W.heap.size ≤ b
  rest : ∀ b, n0 ≤ b → b < W.heap.size → b ≠ g → f.blk ≠ some b → w'.heap[b]? = W.heap[b]?
/-- A change: called at each file in its turn it keeps J, which speaks of the files behind it and of the memory below n0. -/
def Chg (n0 N : Nat) (fs : List Fi) (fn : Nat) (lb : Array Value) (J : List Fc → World → Prop) : Prop :=
  ∀ (done Lk : List Fc) (f : Fc) (g i cap : Nat) (W : World), J done W → done.length = i → fs[i]? = some f.fi → Lk.length = N → Lk[i]? = some f → n0 + 2 ≤ W.heap.size →
    W.ownsRow (n0 + 2) 43 3 (.slice (some ⟨g, 0, none⟩) N cap) N (fCells Lk) → OwnS W (n0 + 2) 5 f → OwnB W (n0 + 2) 5 f →
    Calls Try.prog fn (#[.pointer (some ⟨g, i * 3, none⟩)] ++ lb) W fun e w' => e = .returned (.tuple #[]) ∧ ∃ f', Chgd n0 N cap g i J done Lk f f' W w'

/-- A list of files whose first ones have been changed. -/
structure Mid (n0 : Nat) (V : Option Addr) (cv : Nat) (fs : List Fi) (L : List Fc) (J : List Fc → World → Prop) (k : Nat) (done Lk : List Fc) (W : World) : Prop where
  keeps : J done W
  len : done.length = k
  lenL : Lk.length = L.length
  rest : ∀ i, k ≤ i → Lk[i]? = L[i]?
  first : ∀ i, i < k → Lk[i]? = done[i]?
  row : W.ownsRow (n0 + 2) 43 3 (.slice V L.length cv) L.length (fCells Lk)
  own : ∀ f ∈ Lk, OwnB W (n0 + 2) 5 f
  hard : ∀ (i : Nat) (f : Fc), k ≤ i → Lk[i]? = some f → OwnS W (n0 + 2) 5 f
  apart : ∀ (i j : Nat) (x y : Fc) (b : Nat), i < j → Lk[i]? = some x → Lk[j]? = some y → x.blk = some b → y.blk ≠ some b
theorem Mid.next {n0 g cv k : Nat} {fs : List Fi} {L : List Fc} {J : List Fc → World → Prop} {done Lk : List Fc} {W w' : World} {f f' : Fc} (h : Mid n0 (some ⟨g, 0, none⟩) cv fs L J k done Lk W) (hf : Lk[k]? = some f)
    (hc : Chgd n0 L.length cv g k J done Lk f f' W w') : Mid n0 (some ⟨g, 0, none⟩) cv fs L J (k + 1) (done ++ [f']) (Lk.set k f') w' := by
  have hk : k < Lk.length := (List.getElem?_eq_some_iff.1 hf).1
  have ap : ∀ (i : Nat) (x : Fc) (b : Nat), i ≠ k → Lk[i]? = some x → x.blk = some b → f.blk ≠ some b := fun i x b hi hx hb => by
    rcases Nat.lt_or_gt_of_ne hi with h1 | h1
    · exact h.apart i k x f b h1 hx hf hb
    · intro h2
      exact h.apart k i f x b h1 hf hx h2 hb
  have keepB : ∀ (i : Nat) (x : Fc), i ≠ k → Lk[i]? = some x → ∀ b, x.blk = some b → w'.heap[b]? = W.heap[b]? := fun i x hi hx b hb => by
    have hO := h.own x (List.mem_of_getElem? hx)
    have hl := hO.lt b hb
    refine hc.rest b (by omega) hl.2 (fun e => ?_) (ap i x b hi hx hb)
    subst e
    exact hO.off_row h.row (by decide) hb
  refine ⟨hc.keeps, by rw [List.length_append, h.len]; rfl, by rw [List.length_set]; exact h.lenL, fun i hi => ?_, fun i hi => ?_, hc.row, fun x hx => ?_, fun i x hi hx => ?_, fun i j x y b hij hx hy hxb => ?_⟩
  · rw [List.getElem?_set_ne (by omega)]
    exact h.rest i (by omega)
  · by_cases e : i = k
    · subst e
      rw [List.getElem?_set_self hk, ← h.len, List.getElem?_concat_length]
    · rw [List.getElem?_set_ne (fun e2 => e e2.symm), List.getElem?_append_left (by have := h.len; omega)]
      exact h.first i (by omega)
  · obtain ⟨i, hi⟩ := List.getElem?_of_mem hx
    by_cases e : i = k
    · subst e
      rw [List.getElem?_set_self hk] at hi
      cases hi
      exact hc.own
    · rw [List.getElem?_set_ne (fun e2 => e e2.symm)] at hi
      exact (h.own x (List.mem_of_getElem? hi)).stays (keepB i x e hi)
  · rw [List.getElem?_set_ne (by omega)] at hx
    exact (h.hard i x (by omega) hx).stays (keepB i x (by omega) hx)
  · by_cases ei : i = k
    · subst ei
      rw [List.getElem?_set_self hk] at hx
      cases hx
      rw [List.getElem?_set_ne (by omega)] at hy
      rcases hc.blk with h1 | h1
      · rw [h1] at hxb
        exact h.apart i j f y b hij hf hy hxb
      · have h2 := h1 b hxb
        intro h3
        have h4 := ((h.own y (List.mem_of_getElem? hy)).lt b h3).2
        omega
    · rw [List.getElem?_set_ne (fun e2 => ei e2.symm)] at hx
      by_cases ej : j = k
      · subst ej
        rw [List.getElem?_set_self hk] at hy
        cases hy
        rcases hc.blk with h1 | h1
        · rw [h1]
          exact h.apart i j x f b hij hx hf hxb
        · intro h3
          have h2 := h1 b h3
          have h4 := ((h.own x (List.mem_of_getElem? hx)).lt b hxb).2
          omega
      · rw [List.getElem?_set_ne (fun e2 => ej e2.symm)] at hy
        exact h.apart i j x y b hij hx hy hxb

set_option maxRecDepth 100000 in
set_option maxHeartbeats 3200000 in
theorem changed_any (room : Int) (A : Option Addr) (c : Nat) (L : List Fc) (fn : Nat) (lb : Array Value) (eg : ∀ args w, (callFunc fn args).run Try.prog w = .ok (.enter fn args) w) (J : List Fc → World → Prop) (w : World) (h : OneD w A c L) (hf : Fit L)
    (hJ : J [] w) (stab : ∀ done W W', J done W → Below w.heap.size W W' → J done W') (hc : Chg w.heap.size L.length (L.map Fc.fi) fn lb J) :
    Calls Try.prog 30 #[.agg #[.int .i64 room, .slice A L.length c], .func (.func fn) #[] lb] w fun e w' => ∃ v L', e = .returned (.agg #[.int .i64 room, v]) ∧ OwnD w' w.heap.size 43 5 v L' ∧ L'.length = L.length ∧ J L' w' := by
  have bn := below_new (Below.refl w.heap.size w) (.cells #[.int .i64 room, .slice A L.length c] 24)
  have bn2 := below_new bn (.cells #[.int .i64 0, .slice none 0 0] 24)
  have N := Lib.hid (copied_any room A c L _ (h.later bn2) hf)
  have HJ := Lib.hid (stab _ _ _ hJ bn2)
  have ST := Lib.hid stab
  have HC := Lib.hid hc
  have hlen := hf.n
  clear h hf hJ stab hc
  go_enter Try.func30, Try.ntmps30
  go_wp2_with fail
  refine N.out.mono ?_
  rintro e w1 ⟨v, L1, rfl, hO, hS, hfi, b1⟩
  have hl1 : L1.length = L.length := by have := congrArg List.length hfi; simpa using this
  obtain ⟨V, cv, rfl, -, hcm, -, -⟩ := own_form hO.row
  have B0 := ((Blk.new w 24 #[.int .i64 room, .slice A L.length c]).alloc (.cells #[.int .i64 0, .slice none 0 0] 24)).later b1
  have B1 := (Blk.new (w.alloc (.cells #[.int .i64 room, .slice A L.length c] 24)) 24 #[.int .i64 0, .slice none 0 0]).later b1
  have B1' : Blk w1 (w.heap.size + 1) 24 #[.int .i64 0, .slice none 0 0] := by simpa using B1
  have hsz0 : ((w.alloc (.cells #[.int .i64 room, .slice A L.length c] 24)).alloc (.cells #[.int .i64 0, .slice none 0 0] 24)).heap.size = w.heap.size + 2 := by simp
  rw [hsz0] at hO hS
  have c0 := B0.cell (i := 0) rfl
  have c1 := B0.cell (i := 1) rfl
  have f0 := B0.free 0
  have f1 := B0.free 1
  unfold maxLen at hcm
  obtain ⟨W2, hW2⟩ : ∃ W2, (w1.setCell ⟨w.heap.size, 0, none⟩ (.int .i64 room)).setCell ⟨w.heap.size, 1, none⟩ (.slice V L1.length cv) = W2 := ⟨_, rfl⟩
  have D0 : Blk W2 w.heap.size 24 #[.int .i64 room, .slice V L1.length cv] := by rw [← hW2]; exact (B0.put 0 _).put 1 _
  have D1 : Blk W2 (w.heap.size + 1) 24 #[.int .i64 0, .slice none 0 0] := by rw [← hW2]; exact (B1'.far (by show w.heap.size + 1 ≠ w.heap.size; omega) _).far (by show w.heap.size + 1 ≠ w.heap.size; omega) _
  have hb2 : Below w.heap.size ((w.alloc (.cells #[.int .i64 room, .slice A L.length c] 24)).alloc (.cells #[.int .i64 0, .slice none 0 0] 24)) W2 := by
    rw [← hW2]
    exact ((b1.mono (by simp; omega)).setCell (p := ⟨w.heap.size, 0, none⟩) (Nat.le_refl _) _).setCell (p := ⟨w.heap.size, 1, none⟩) (Nat.le_refl _) _
  have hJ2 := ST.out _ _ _ HJ.out hb2
  have hO2 : OwnD W2 (w.heap.size + 2) 43 5 (.slice V L1.length cv) L1 := by
    rw [← hW2]
    exact (hO.low (by show w.heap.size < w.heap.size + 2; omega) _).low (by show w.heap.size < w.heap.size + 2; omega) _
  have hS2 : ∀ f ∈ L1, OwnS W2 (w.heap.size + 2) 5 f := fun f hf => by
    rw [← hW2]
    have hne : f.blk ≠ some w.heap.size := fun e => by have := ((hO.each f hf).lt _ e).1; omega
    exact ((hS f hf).far (p := ⟨w.heap.size, 0, none⟩) hne _).far (p := ⟨w.heap.size, 1, none⟩) hne _
  have hmid : Mid w.heap.size V cv (L.map Fc.fi) L1 J 0 [] L1 W2 := ⟨hJ2, rfl, rfl, fun _ _ => rfl, (fun i hi => by omega), hO2.row, hO2.each, (fun i f _ hi => hS2 f (List.mem_of_getElem? hi)), hO2.apart⟩
  have HW2 := Lib.hid hW2
  have HM := Lib.hid hmid
  have HD0 := Lib.hid D0
  have HD1 := Lib.hid D1
  have HFI := Lib.hid hfi
  have HL1 := Lib.hid hl1
  have hLe : L1.length ≤ 9223372036854775807 := by omega
  have hsz2 : w.heap.size + 2 ≤ W2.heap.size := by have := D1.lt; omega
  clear hO hS B0 B1 B1' hW2 D0 D1 hJ2 hO2 hS2 hmid hfi hl1 hb2 b1 bn bn2 hsz0
  go_wp2_with fail
  rw [HW2.out]
  have q0 := HD0.out.cell (i := 1) rfl
  go_wp2_with fail
  go_loopw [11] (fun s11 wr => ∃ (k : Nat) (done Lk : List Fc), k ≤ L1.length ∧ s11 = .int .i64 (k : Int) ∧ Mid w.heap.size V cv (L.map Fc.fi) L1 J k done Lk wr ∧ Blk wr w.heap.size 24 #[.int .i64 room, .slice V L1.length cv] ∧ Blk wr (w.heap.size + 1) 24 #[.int .i64 0, .slice none 0 0]) (fun s11 _ => L1.length - (intOf s11).toNat)
  case atStart => exact ⟨0, [], L1, Nat.zero_le _, rfl, HM.out, HD0.out, HD1.out⟩
  case round =>
    obtain ⟨k, done, Lk, hk, rfl, hM, hD0, hD1⟩ := hrel
    by_cases hlt : k < L1.length
    · obtain ⟨g, cap, hgv⟩ := own_len hM.row (by omega)
      injection hgv with hV h2 h3
      subst hV h3
      obtain ⟨f, hf⟩ : ∃ f, Lk[k]? = some f := ⟨Lk[k]'(by rw [hM.lenL]; exact hlt), List.getElem?_eq_getElem (by rw [hM.lenL]; exact hlt)⟩
      have d01 := hD0.cell (i := 1) rfl
      have hi0 : (0 : Int) ≤ (k : Int) := by omega
      have hi1 : (k : Int) < (L1.length : Int) := by omega
      have hfs : (L.map Fc.fi)[k]? = some f.fi := by
        rw [← HFI.out, List.getElem?_map, ← hM.rest k (Nat.le_refl _), hf]
        rfl
      have hcl := HC.out done Lk f g k cv wr hM.keeps hM.len hfs (by rw [hM.lenL, HL1.out]) hf (by have := hD1.lt; omega) (by rw [← HL1.out]; exact hM.row) (hM.hard k f (Nat.le_refl _) hf) (hM.own f (List.mem_of_getElem? hf))
      rw [← HL1.out] at hcl
      have CL := Lib.hid hcl
      have HG := Lib.hid (own_base_le hM.row)
      have MM := Lib.hid hM
      have HF := Lib.hid hf
      have D0 := Lib.hid hD0
      have D1 := Lib.hid hD1
      clear hM hf hfs hcl hD0 hD1 HL1 q0
      go_wp2_with fail
      go_at_fn fn
      refine CL.out.mono ?_
      rintro e w4 ⟨rfl, f', hch⟩
      have hn1 := MM.out.next HF.out hch
      have e0 : Blk w4 w.heap.size 24 #[.int .i64 room, .slice (some ⟨g, 0, none⟩) L1.length cv] := (hch.rest _ (Nat.le_refl _) D0.out.lt (by have := HG.out.1; omega) (fun e => by have := ((MM.out.own f (List.mem_of_getElem? HF.out)).lt _ e).1; omega)).trans D0.out
      have e1 : Blk w4 (w.heap.size + 1) 24 #[.int .i64 0, .slice none 0 0] := (hch.rest _ (by omega) D1.out.lt (by have := HG.out.1; omega) (fun e => by have := ((MM.out.own f (List.mem_of_getElem? HF.out)).lt _ e).1; omega)).trans D1.out
      have NX := Lib.hid hn1
      have E0 := Lib.hid e0
      have E1 := Lib.hid e1
      clear hn1 e0 e1 hch
      go_wp2_with fail
      go_roundw
      case rel => exact ⟨k + 1, _, _, by omega, by first | rfl | go_num, NX.out, E0.out, E1.out⟩
      case measure => simp [intOf]; omega
    · have hd : decide ((k : Int) < (L1.length : Int)) = false := decide_eq_false (by omega)
      have r0 := hD0.cell (i := 0) rfl
      have r1 := hD0.cell (i := 1) rfl
      have p0 := hD1.cell (i := 0) rfl
      have p1 := hD1.cell (i := 1) rfl
      have s0 := hD1.free 0
      have s1 := hD1.free 1
      have hdl : Lk = done := by
        apply List.ext_getElem?
        intro i
        by_cases e : i < k
        · exact hM.first i e
        · rw [List.getElem?_eq_none (by rw [hM.lenL]; omega), List.getElem?_eq_none (by rw [hM.len]; omega)]
      have hz := (hD1.put 0 (.int .i64 room)).put 1 (.slice V L1.length cv)
      have z0 := hz.cell (i := 0) rfl
      have z1 := hz.cell (i := 1) rfl
      have hOD : OwnD wr (w.heap.size + 2) 43 5 (.slice V L1.length cv) Lk := ⟨by rw [hM.lenL]; exact hM.row, hM.own, hM.apart⟩
      have hOz := ((hOD.low (p := ⟨w.heap.size + 1, 0, none⟩) (by show w.heap.size + 1 < w.heap.size + 2; omega) (.int .i64 room)).low (p := ⟨w.heap.size + 1, 1, none⟩) (by show w.heap.size + 1 < w.heap.size + 2; omega) (.slice V L1.length cv)).lower (base' := w.heap.size) (by omega)
      have hJz := ST.out _ _ _ hM.keeps (((Below.refl w.heap.size wr).setCell (p := ⟨w.heap.size + 1, 0, none⟩) (by show w.heap.size ≤ w.heap.size + 1; omega) (.int .i64 room)).setCell (p := ⟨w.heap.size + 1, 1, none⟩) (by show w.heap.size ≤ w.heap.size + 1; omega) (.slice V L1.length cv))
      rw [← hdl] at hJz
      have FIN := Lib.hid (show ∃ v L', Ending.returned (.agg #[.int .i64 room, .slice V L1.length cv]) = .returned (.agg #[.int .i64 room, v]) ∧ OwnD _ w.heap.size 43 5 v L' ∧ L'.length = L.length ∧ J L' _ from ⟨_, Lk, rfl, hOz, hM.lenL.trans HL1.out, hJz⟩)
      have Z0 := Lib.hid z0
      have Z1 := Lib.hid z1
      clear hM hD0 hD1 hdl hz z0 z1 hOD hOz hJz
      go_wp2
      have z0 := Z0.out
      have z1 := Z1.out
      exact bodyPost_ret (v := .agg #[.int .i64 room, .slice V L1.length cv]) (by simp [results, Try.results30, go_sem, z0, z1]) rfl FIN.out
end Go.Proofs.Ytgjcpdcepmgafaa
