/-
  What disk's Crash answers.
-/
import Derived.Test.YtgjcpdcepmgafaaDkCrs
import Derived.Test.YtgjcpdcepmgafaaDkDevC
import Derived.Test.YtgjcpdcepmgafaaDkRefB
import Derived.Laws.BitsLemmas
namespace Go.Proofs.Ytgjcpdcepmgafaa
open Go.RowKit

theorem crashChg (h0 n0 N kb lb keep : Nat) (w : World) (fs : List Fi) (hk0 : h0 ≤ kb) (hk1 : kb < n0) (hl0 : h0 ≤ lb) (hl1 : lb < n0) (hkl : kb ≠ lb) (hkn : keep ≤ 9223372036854775807) (hs : ∀ f ∈ fs, 0 ≤ f.2.2 ∧ f.2.2 ≤ (f.2.1.length : Int)) :
    Chg n0 N fs 42 #[.pointer (some ⟨kb, 0, none⟩), .pointer (some ⟨lb, 0, none⟩)] (JC h0 n0 kb lb keep w fs) := by
  intro done Lk f g i cap W hJ hi hf hN hx hsz hr hs2 ho
  have hg := own_base_le hr
  obtain ⟨P, hP1, hP2⟩ := hJ.lbox
  have hkb := hJ.kbox
  rw [hi] at hkb hP2
  have hsf := hs f.fi (List.mem_of_getElem? hf)
  have hs0 : f.s = ((f.s.toNat : Nat) : Int) := by have : 0 ≤ f.s := hsf.1; omega
  have hs1 : f.s.toNat ≤ f.l.length := by have h1 : f.s ≤ (f.l.length : Int) := hsf.2; have : 0 ≤ f.s := hsf.1; omega
  have hka : ∀ j, Dk.kAt keep fs j ≤ keep := fun j => by
    induction j with
    | zero => exact Nat.le_refl _
    | succ j ih =>
      rw [Dk.kAt]
      split
      · omega
      · exact ih
  have hlow : ∀ b, f.blk = some b → n0 + 2 ≤ b := fun b hb => (ho.lt b hb).1
  refine (crash1_any n0 N cap g i kb lb (Dk.kAt keep fs i) f.s.toNat P Lk f W hs0 hs1 hkb hP1 hkl (by omega) (by omega) (fun h => by have := hlow _ h; omega) (fun h => by have := hlow _ h; omega) hr hx ho (Nat.le_trans (hka i) hkn)).mono ?_
  rintro e w' ⟨rfl, f', hc⟩
  refine ⟨rfl, f', ⟨?_, hc.size, hc.row, hc.own, .inl hc.blk, fun b h1 _ h3 _ => hc.rest b h3 (by omega) (by omega)⟩⟩
  have hlen : (done ++ [f']).length = i + 1 := by rw [List.length_append, hi]; rfl
  refine ⟨hJ.low.trans ⟨hc.same.1, hc.same.2.1, hc.same.2.2, hc.size, fun k hk => hc.rest k (by omega) (by omega) (by omega)⟩, fun k h1 h2 h3 h4 => (hc.rest k (by omega) h3 h4).trans (hJ.mid k h1 h2 h3 h4), ?_, ?_, ?_⟩
  · rw [hlen, Dk.kAt_step hf]
    exact hc.kbox
  · obtain ⟨P', h1, h2⟩ := hc.lbox
    refine ⟨P', h1, ?_⟩
    rw [hlen, Dk.lstTo_step hf]
    rcases h2 with ⟨h3, h4⟩ | ⟨h3, b, h4, h5, h6⟩
    · rw [if_neg (by omega), h4]
      exact hP2.snoc f'
    · rw [if_pos h3]
      exact ⟨f', b, by rw [← hi, List.getElem?_concat_length], h4, h5, h6⟩
  · rw [hlen, List.map_append, hJ.fi, hi, Dk.crsTo_step hf]
    show _ ++ [f'.fi] = _
    rw [hc.fi]
namespace Dk
theorem crsTo_len (keep : Nat) (fs : List Fi) : ∀ i, i ≤ fs.length → (crsTo keep fs i).length = i
  | 0, _ => rfl
  | i + 1, h => by
    rw [crsTo_step (List.getElem?_eq_getElem (show i < fs.length by omega)), List.length_append, crsTo_len keep fs i (by omega)]
    rfl
/-- A byte that is turned. -/
def trn (x t : Int) : Int := bits .xor .u8 x t
theorem trn_byte {x t : Int} (hx : isB x) (ht : 0 ≤ t ∧ t ≤ 255) : isB (trn x t) := by
  unfold isB at *
  obtain ⟨a, rfl⟩ : ∃ a : Nat, x = (a : Int) := ⟨x.toNat, by omega⟩
  obtain ⟨b, rfl⟩ : ∃ b : Nat, t = (b : Int) := ⟨t.toNat, by omega⟩
  unfold trn bits
  first
    | (simp only [IntKind.wrap_u8]; omega)
    | (split <;> simp only [IntKind.wrap_u8] <;> omega)
/-- Its last byte is turned. -/
def turnF (t : Int) (f : Fi) : Fi := (f.1, f.2.1.set (f.2.1.length - 1) (trn (f.2.1.getD (f.2.1.length - 1) 0) t), f.2.2)
def atF (G : Fi → Fi) : Option Nat → List Fi → List Fi
  | none, l => l
  | some j, l => match l[j]? with
    | some f => l.set j (G f)
    | none => l
theorem atF_some {G : Fi → Fi} {j : Nat} {l : List Fi} {f : Fi} (h : l[j]? = some f) : atF G (some j) l = l.set j (G f) := by
  show (match l[j]? with | some f => l.set j (G f) | none => l) = _
  rw [h]
def crsR (room : Int) (fs : List Fi) (keep turn : Int) : Ans3 := if fmd room fs = true ∧ 0 ≤ keep ∧ win turn 255 = true then (room, atF (turnF turn) (lstTo keep.toNat fs fs.length) (crsTo keep.toNat fs fs.length), 0) else (0, [], 1)
end Dk
theorem fCells_same : ∀ (L : List Fc) (i : Nat) (x : Fc) (l : List Int), L[i]? = some x → l.length = x.l.length → fCells (L.set i { x with l := l }) = fCells L
  | [], i, x, l, h, _ => by simp at h
  | y :: r, 0, x, l, h, hl => by
    simp at h
    subst h
    simp [fCells, hl]
  | y :: r, i + 1, x, l, h, hl => by
    have := fCells_same r i x l (by simpa using h) hl
    simp [fCells, this]

set_option maxRecDepth 100000 in
set_option maxHeartbeats 3200000 in
theorem dcrash_any (room keep turn : Int) (A : Option Addr) (c : Nat) (L : List Fc) (w : World) (h : OneD w A c L) (hkm : keep ≤ 9223372036854775807) :
    Calls Try.prog 24 #[.agg #[.int .i64 room, .slice A L.length c], .int .i64 keep, .int .i64 turn] w (GivesDE (Dk.crsR room (L.map Fc.fi) keep turn) w) := by
  have bn := below_new (below_new (below_new (Below.refl w.heap.size w) (.cells #[.int .i64 room, .slice A L.length c] 24)) (.cells #[.int .i64 keep] 3)) (.cells #[.int .i64 0, .slice none 0 0] 24)
  have N := Lib.hid (dformed_any room A c L _ (h.later bn))
  have B0 := Lib.hid (((Blk.new w 24 #[.int .i64 room, .slice A L.length c]).alloc (.cells #[.int .i64 keep] 3)).alloc (.cells #[.int .i64 0, .slice none 0 0] 24))
  have B1 := Lib.hid (show Blk _ (w.heap.size + 1) 3 #[.int .i64 keep] from by simpa using (Blk.new (w.alloc (.cells #[.int .i64 room, .slice A L.length c] 24)) 3 #[.int .i64 keep]).alloc (.cells #[.int .i64 0, .slice none 0 0] 24))
  have B2 := Lib.hid (show Blk _ (w.heap.size + 1 + 1) 24 #[.int .i64 0, .slice none 0 0] from by simpa using Blk.new ((w.alloc (.cells #[.int .i64 room, .slice A L.length c] 24)).alloc (.cells #[.int .i64 keep] 3)) 24 #[.int .i64 0, .slice none 0 0])
  have HD := Lib.hid h
  have W3 := Lib.hid (fun w => within_any turn 255 w)
  clear h
  cases hq : Dk.fmd room (L.map Fc.fi) with
  | false =>
    have hR : Dk.crsR room (L.map Fc.fi) keep turn = (0, [], 1) := by unfold Dk.crsR; rw [if_neg (fun h => by rw [hq] at h; exact absurd h.1 Bool.false_ne_true)]
    rw [hR]
    rw [hq] at N
    clear hq hR HD B0 B1
    go_enter Try.func24, Try.ntmps24
    go_wp2_with fail
    refine N.out.mono ?_
    rintro e w1 ⟨rfl, b1⟩
    have z' := B2.out.later b1
    have y0 := z'.cell (i := 0) rfl
    have y1 := z'.cell (i := 1) rfl
    have s0 := z'.free 0
    have s1 := z'.free 1
    have hz := (z'.put 0 (.int .i64 0)).put 1 (.slice none 0 0)
    have z0 := Lib.hid (hz.cell (i := 0) rfl)
    have z1 := Lib.hid (hz.cell (i := 1) rfl)
    have hbz := ((below_on bn b1).setCell (p := ⟨w.heap.size + 1 + 1, 0, none⟩) (by show w.heap.size ≤ w.heap.size + 1 + 1; omega) (.int .i64 0)).setCell (p := ⟨w.heap.size + 1 + 1, 1, none⟩) (by show w.heap.size ≤ w.heap.size + 1 + 1; omega) (.slice none 0 0)
    have FIN := Lib.hid (GivesDE.err 1 hbz)
    clear z' hz hbz 
    go_wp2
    have z0 := z0.out
    have z1 := z1.out
    exact bodyPost_ret (v := .tuple #[.agg #[.int .i64 0, .slice none 0 0], .int .i64 1]) (by simp [results, Try.results24, go_sem, z0, z1]) rfl FIN.out
  | true =>
  rw [hq] at N
  by_cases hk : keep < 0
  · have hR : Dk.crsR room (L.map Fc.fi) keep turn = (0, [], 1) := by unfold Dk.crsR; rw [if_neg (fun h => by omega)]
    rw [hR]
    have dk0 : decide (keep < 0) = true := decide_eq_true hk
    clear hq hR HD B0 hk
    go_enter Try.func24, Try.ntmps24
    go_wp2_with fail
    refine N.out.mono ?_
    rintro e w1 ⟨rfl, b1⟩
    have k0 := (B1.out.later b1).cell (i := 0) rfl
    have z' := B2.out.later b1
    have y0 := z'.cell (i := 0) rfl
    have y1 := z'.cell (i := 1) rfl
    have s0 := z'.free 0
    have s1 := z'.free 1
    have hz := (z'.put 0 (.int .i64 0)).put 1 (.slice none 0 0)
    have z0 := Lib.hid (hz.cell (i := 0) rfl)
    have z1 := Lib.hid (hz.cell (i := 1) rfl)
    have hbz := ((below_on bn b1).setCell (p := ⟨w.heap.size + 1 + 1, 0, none⟩) (by show w.heap.size ≤ w.heap.size + 1 + 1; omega) (.int .i64 0)).setCell (p := ⟨w.heap.size + 1 + 1, 1, none⟩) (by show w.heap.size ≤ w.heap.size + 1 + 1; omega) (.slice none 0 0)
    have FIN := Lib.hid (GivesDE.err 1 hbz)
    clear z' hz hbz 
    go_wp2
    have z0 := z0.out
    have z1 := z1.out
    exact bodyPost_ret (v := .tuple #[.agg #[.int .i64 0, .slice none 0 0], .int .i64 1]) (by simp [results, Try.results24, go_sem, z0, z1]) rfl FIN.out
  have dk0 : decide (keep < 0) = false := decide_eq_false hk
  cases hw : Dk.win turn 255 with
  | false =>
    have hR : Dk.crsR room (L.map Fc.fi) keep turn = (0, [], 1) := by unfold Dk.crsR; rw [if_neg (fun h => by rw [hw] at h; exact absurd h.2.2 Bool.false_ne_true)]
    rw [hR]
    rw [hw] at W3
    clear hq hR HD B0 hk hw
    go_enter Try.func24, Try.ntmps24
    go_wp2_with fail
    refine N.out.mono ?_
    rintro e w1 ⟨rfl, b1⟩
    have k0 := (B1.out.later b1).cell (i := 0) rfl
    go_wp2_with fail
    refine (W3.out _).mono ?_
    rintro e w' ⟨rfl, hw'⟩
    have hw2 := hw'.symm
    subst hw2
    clear hw'
    have z' := B2.out.later b1
    have y0 := z'.cell (i := 0) rfl
    have y1 := z'.cell (i := 1) rfl
    have s0 := z'.free 0
    have s1 := z'.free 1
    have hz := (z'.put 0 (.int .i64 0)).put 1 (.slice none 0 0)
    have z0 := Lib.hid (hz.cell (i := 0) rfl)
    have z1 := Lib.hid (hz.cell (i := 1) rfl)
    have hbz := ((below_on bn b1).setCell (p := ⟨w.heap.size + 1 + 1, 0, none⟩) (by show w.heap.size ≤ w.heap.size + 1 + 1; omega) (.int .i64 0)).setCell (p := ⟨w.heap.size + 1 + 1, 1, none⟩) (by show w.heap.size ≤ w.heap.size + 1 + 1; omega) (.slice none 0 0)
    have FIN := Lib.hid (GivesDE.err 1 hbz)
    clear z' hz hbz 
    go_wp2
    have z0 := z0.out
    have z1 := z1.out
    exact bodyPost_ret (v := .tuple #[.agg #[.int .i64 0, .slice none 0 0], .int .i64 1]) (by simp [results, Try.results24, go_sem, z0, z1]) rfl FIN.out
  | true =>
  have hR : Dk.crsR room (L.map Fc.fi) keep turn = (room, Dk.atF (Dk.turnF turn) (Dk.lstTo keep.toNat (L.map Fc.fi) (L.map Fc.fi).length) (Dk.crsTo keep.toNat (L.map Fc.fi) (L.map Fc.fi).length), 0) := by unfold Dk.crsR; rw [if_pos ⟨hq, by omega, hw⟩]
  rw [hR, List.length_map]
  obtain ⟨t0, t1⟩ := Dk.win_yes hw
  obtain ⟨tn, rfl⟩ : ∃ tn : Nat, turn = (tn : Int) := ⟨turn.toNat, by omega⟩
  obtain ⟨kn, rfl⟩ : ∃ kn : Nat, keep = (kn : Int) := ⟨keep.toNat, by omega⟩
  rw [Int.toNat_natCast]
  have hkn : kn ≤ 9223372036854775807 := by omega
  have HFT := Lib.hid (Dk.fit hq)
  have HFM := Lib.hid (Dk.fmd_facts hq)
  rw [hw] at W3
  obtain ⟨o, hoo⟩ : ∃ o, Dk.lstTo kn (L.map Fc.fi) L.length = o := ⟨_, rfl⟩
  rw [hoo]
  have HOO := Lib.hid hoo
  clear hq hw hR hk hoo
  go_enter Try.func24, Try.ntmps24
  go_wp2_with fail
  refine N.out.mono ?_
  rintro e w1 ⟨rfl, b1⟩
  have k0 := (B1.out.later b1).cell (i := 0) rfl
  go_wp2_with fail
  refine (W3.out _).mono ?_
  rintro e w' ⟨rfl, hw'⟩
  have hw2 := hw'.symm
  subst hw2
  clear hw'
  have bb := below_on bn b1
  obtain ⟨W2, hW2⟩ : ∃ W2, w1.alloc (.cells #[.pointer none] 64) = W2 := ⟨_, rfl⟩
  have hb2 : Below w1.heap.size w1 W2 := by rw [← hW2]; exact below_new (Below.refl _ _) _
  have hL2 : Blk W2 w1.heap.size 64 #[.pointer none] := by rw [← hW2]; exact Blk.new _ _ _
  have hs2 : W2.heap.size = w1.heap.size + 1 := by rw [← hW2]; simp
  have d0 := ((B0.out.later b1).later hb2).cell (i := 0) rfl
  have d1 := ((B0.out.later b1).later hb2).cell (i := 1) rfl
  have E1 := (B1.out.later b1).later hb2
  have hlt1 := (B2.out.later b1).lt
  have hk1 := (B1.out.later b1).lt
  have NC := Lib.hid (changed_any room A c L 42 #[.pointer (some ⟨w.heap.size + 1, 0, none⟩), .pointer (some ⟨w1.heap.size, 0, none⟩)] (fun _ _ => rfl) (JC w.heap.size W2.heap.size (w.heap.size + 1) w1.heap.size kn W2 (L.map Fc.fi)) W2 (HD.out.later (below_on bb hb2)) HFT.out
    ⟨Below.refl _ _, fun _ _ _ _ _ => rfl, E1, ⟨none, hL2, rfl⟩, rfl⟩ (fun d W W' => JC.stab (by omega) (by omega) (by omega) d W W')
    (crashChg w.heap.size W2.heap.size L.length (w.heap.size + 1) w1.heap.size kn W2 (L.map Fc.fi) (by omega) (by omega) (by omega) (by omega) (by omega) hkn (fun f hf => ⟨(HFM.out.num f hf).2.2.1, (HFM.out.num f hf).2.2.2⟩)))
  have E2 := Lib.hid ((B2.out.later b1).later hb2)
  have HBB := Lib.hid (below_on bb hb2)
  have HS2 := Lib.hid hs2
  clear k0
  go_wp2_with fail
  refine NC.out.mono ?_
  rintro e w3 ⟨v, L2, rfl, hO, hl, hJ⟩
  obtain ⟨V, cv, rfl, -, -, -, -⟩ := own_form hO.row
  obtain ⟨P, hP1, hP2⟩ := hJ.lbox
  have hfi := hJ.fi
  rw [hl] at hP2 hfi
  rw [HOO.out] at hP2
  have b3 : Below w.heap.size w w3 := HBB.out.trans hJ.low
  have z3 : Blk w3 (w.heap.size + 1 + 1) 24 #[.int .i64 0, .slice none 0 0] := (hJ.mid _ (by omega) E2.out.lt (by omega) (by omega)).trans E2.out
  have hz2 : w.heap.size + 1 + 1 < W2.heap.size := E2.out.lt
  have hz3 : W2.heap.size ≤ w3.heap.size := hJ.low.size
  have HLL := Lib.hid hl; have HO := Lib.hid hO; have HFI := Lib.hid hfi; have HB3 := Lib.hid b3; have HZ3 := Lib.hid z3
  clear hl hO hfi hJ b3 z3
  cases o with
  | none =>
    have hPn : P = none := hP2
    subst hPn
    have p0 := (hP1.alloc (.cells #[.int .i64 room, .slice V L2.length cv] 24)).cell (i := 0) rfl
    have a0 := (Blk.new w3 24 #[.int .i64 room, .slice V L2.length cv]).cell (i := 0) rfl
    have a1 := (Blk.new w3 24 #[.int .i64 room, .slice V L2.length cv]).cell (i := 1) rfl
    have O4 := Lib.hid (HO.out.later (below_new (Below.refl w3.heap.size w3) (.cells #[.int .i64 room, .slice V L2.length cv] 24)))
    have B4 := Lib.hid (below_new HB3.out (.cells #[.int .i64 room, .slice V L2.length cv] 24))
    clear hP1 hP2
    have z' := HZ3.out.alloc (.cells #[.int .i64 room, .slice V L2.length cv] 24)
    have y0 := z'.cell (i := 0) rfl
    have y1 := z'.cell (i := 1) rfl
    have s0 := z'.free 0
    have s1 := z'.free 1
    have hz := (z'.put 0 (.int .i64 room)).put 1 (.slice V L2.length cv)
    have z0 := Lib.hid (hz.cell (i := 0) rfl)
    have z1 := Lib.hid (hz.cell (i := 1) rfl)
    have hbz := ((B4.out).setCell (p := ⟨w.heap.size + 1 + 1, 0, none⟩) (by show w.heap.size ≤ w.heap.size + 1 + 1; omega) (.int .i64 room)).setCell (p := ⟨w.heap.size + 1 + 1, 1, none⟩) (by show w.heap.size ≤ w.heap.size + 1 + 1; omega) (.slice V L2.length cv)
    have hO2 := (((O4.out).low (p := ⟨w.heap.size + 1 + 1, 0, none⟩) (by show w.heap.size + 1 + 1 < _; omega) (.int .i64 room)).low (p := ⟨w.heap.size + 1 + 1, 1, none⟩) (by show w.heap.size + 1 + 1 < _; omega) (.slice V L2.length cv)).lower (base' := w.heap.size) (by omega)
    have FIN := Lib.hid (show GivesDE (room, Dk.atF (Dk.turnF (tn : Int)) none (Dk.crsTo kn (L.map Fc.fi) L.length), 0) w (.returned (.tuple #[.agg #[.int .i64 room, .slice V L2.length cv], .int .i64 0])) _ from ⟨_, L2, rfl, hO2, HFI.out, hbz⟩)
    clear z' hz hbz  hO2
    go_wp2
    have z0 := z0.out
    have z1 := z1.out
    exact bodyPost_ret (v := .tuple #[.agg #[.int .i64 room, .slice V L2.length cv], .int .i64 0]) (by simp [results, Try.results24, go_sem, z0, z1]) rfl FIN.out
  | some j =>
    obtain ⟨x, b, hx, hX, hpos, rfl⟩ := hP2
    have hob := HO.out.each x (List.mem_of_getElem? hx)
    obtain ⟨b', cur, hb', hge, hBk, hsz, hcur⟩ := hob.at_ _ hX
    injection hb' with hb'
    subst hb'
    obtain ⟨y, hy⟩ : ∃ y, x.l.getD (x.l.length - 1) 0 = y := ⟨_, rfl⟩
    have hcell : w3.cell? ⟨b, x.l.length - 1, none⟩ = some (.int .u8 y) := by
      refine hBk.cell ?_
      have h1 := bCells_get x.l (x.l.length - 1) (by omega)
      rw [← hcur, List.getElem?_take, hy] at h1
      split at h1
      · simpa using h1
      · cases h1
    have hyb : isB y := by
      rw [← hy, List.getD_eq_getElem?_getD, List.getElem?_eq_getElem (by omega)]
      exact hob.byte _ (List.getElem_mem _)
    obtain ⟨W4, hW4⟩ : ∃ W4, w3.alloc (.cells #[.int .i64 room, .slice V L2.length cv] 24) = W4 := ⟨_, rfl⟩
    have b4 : Below w3.heap.size w3 W4 := by rw [← hW4]; exact below_new (Below.refl _ _) _
    have A4 : Blk W4 w3.heap.size 24 #[.int .i64 room, .slice V L2.length cv] := by rw [← hW4]; exact Blk.new _ _ _
    have O4 := HO.out.later b4
    obtain ⟨g, cap, hgv⟩ := own_len O4.row (by have := (List.getElem?_eq_some_iff.1 hx).1; omega)
    injection hgv with hgv1 hgv2 hgv3
    subst hgv1 hgv3
    have ho4 := O4.each x (List.mem_of_getElem? hx)
    have hng : x.blk ≠ some g := ho4.off_row O4.row (by decide)
    have hxb : x.blk = some b := by unfold Fc.blk; rw [hX]; rfl
    have hbg : g ≠ b := fun e => hng (by rw [hxb, e])
    have hbl := (hob.lt b hxb).2
    have hnw : OwnB (W4.setCell ⟨b, x.l.length - 1, none⟩ (.int .u8 (Dk.trn y (tn : Int)))) W2.heap.size 5 { x with l := x.l.set (x.l.length - 1) (Dk.trn y (tn : Int)) } := ho4.put hX _ _ (Dk.trn_byte hyb ⟨t0, t1⟩)
    have O5 : OwnD (W4.setCell ⟨b, x.l.length - 1, none⟩ (.int .u8 (Dk.trn y (tn : Int)))) W2.heap.size 43 5 (.slice (some ⟨g, 0, none⟩) L2.length cv) (L2.set j { x with l := x.l.set (x.l.length - 1) (Dk.trn y (tn : Int)) }) :=
      O4.upd (by decide) rfl hx (by
        rw [fCells_same L2 j x _ hx (by rw [List.length_set])]
        exact own_stays O4.row (fun k hk => by
          have : g = k := by injection hk
          subst this
          exact Below.heap_setCell _ _ _ _ hbg)) hnw rfl (fun k _ _ h3 => Below.heap_setCell _ _ _ _ (fun e => h3 (by rw [hxb]; exact congrArg some e.symm)))
    have p0 := (show Blk W4 w1.heap.size 64 #[.pointer (some ⟨b, x.l.length - 1, none⟩)] from by rw [← hW4]; exact hP1.alloc _).cell (i := 0) rfl
    have p1 : W4.cell? ⟨b, x.l.length - 1, none⟩ = some (.int .u8 y) := cell_later b4 hcell
    have p2 : W4.frozen? ⟨b, x.l.length - 1, none⟩ = false := (b4.frozen (p := ⟨b, x.l.length - 1, none⟩) hbl).trans (hBk.free _)
    have A5 : Blk (W4.setCell ⟨b, x.l.length - 1, none⟩ (.int .u8 (Dk.trn y (tn : Int)))) w3.heap.size 24 #[.int .i64 room, .slice (some ⟨g, 0, none⟩) L2.length cv] := A4.far (by show w3.heap.size ≠ b; omega) _
    have Z5 : Blk (W4.setCell ⟨b, x.l.length - 1, none⟩ (.int .u8 (Dk.trn y (tn : Int)))) (w.heap.size + 1 + 1) 24 #[.int .i64 0, .slice none 0 0] := (HZ3.out.later b4).far (by show w.heap.size + 1 + 1 ≠ b; omega) _
    have B5 := (below_on HB3.out b4).setCell (p := ⟨b, x.l.length - 1, none⟩) (by show w.heap.size ≤ b; omega) (.int .u8 (Dk.trn y (tn : Int)))
    have a0 := A5.cell (i := 0) rfl
    have a1 := A5.cell (i := 1) rfl
    have hfin : (L2.set j { x with l := x.l.set (x.l.length - 1) (Dk.trn y (tn : Int)) }).map Fc.fi = Dk.atF (Dk.turnF (tn : Int)) (some j) (Dk.crsTo kn (L.map Fc.fi) L.length) := by
      have h1 : (Dk.crsTo kn (L.map Fc.fi) L.length)[j]? = some x.fi := by rw [← HFI.out, List.getElem?_map, hx]; rfl
      rw [Dk.atF_some h1, List.map_set, HFI.out]
      congr 1
      unfold Dk.turnF Fc.fi
      rw [hy]
    have O6 := Lib.hid O5; have Z6 := Lib.hid Z5; have B6 := Lib.hid B5; have HF6 := Lib.hid hfin
    unfold Dk.trn at a0 a1
    clear hP1 hx hX hob hBk hcur hcell hy A4 O4 ho4 hnw O5 A5 Z5 B5 hfin b4 hxb
    obtain ⟨W5, hW5⟩ : ∃ W5, W4.setCell ⟨b, x.l.length - 1, none⟩ (.int .u8 (bits BinOp.xor IntKind.u8 y (tn : Int))) = W5 := ⟨_, rfl⟩
    have O7 := Lib.hid (show OwnD W5 W2.heap.size 43 5 (.slice (some ⟨g, 0, none⟩) L2.length cv) (L2.set j { x with l := x.l.set (x.l.length - 1) (Dk.trn y (tn : Int)) }) from by rw [← hW5]; exact O6.out)
    have Z7 := Lib.hid (show Blk W5 (w.heap.size + 1 + 1) 24 #[.int .i64 0, .slice none 0 0] from by rw [← hW5]; exact Z6.out)
    have B7 := Lib.hid (show Below w.heap.size w W5 from by rw [← hW5]; exact B6.out)
    rw [hW5] at a0 a1
    have z' := Z7.out
    have y0 := z'.cell (i := 0) rfl
    have y1 := z'.cell (i := 1) rfl
    have s0 := z'.free 0
    have s1 := z'.free 1
    have hz := (z'.put 0 (.int .i64 room)).put 1 (.slice (some ⟨g, 0, none⟩) L2.length cv)
    have z0 := Lib.hid (hz.cell (i := 0) rfl)
    have z1 := Lib.hid (hz.cell (i := 1) rfl)
    have hbz := ((B7.out).setCell (p := ⟨w.heap.size + 1 + 1, 0, none⟩) (by show w.heap.size ≤ w.heap.size + 1 + 1; omega) (.int .i64 room)).setCell (p := ⟨w.heap.size + 1 + 1, 1, none⟩) (by show w.heap.size ≤ w.heap.size + 1 + 1; omega) (.slice (some ⟨g, 0, none⟩) L2.length cv)
    have hO2 := (((O7.out).low (p := ⟨w.heap.size + 1 + 1, 0, none⟩) (by show w.heap.size + 1 + 1 < _; omega) (.int .i64 room)).low (p := ⟨w.heap.size + 1 + 1, 1, none⟩) (by show w.heap.size + 1 + 1 < _; omega) (.slice (some ⟨g, 0, none⟩) L2.length cv)).lower (base' := w.heap.size) (by omega)
    have FIN := Lib.hid (show GivesDE (room, Dk.atF (Dk.turnF (tn : Int)) (some j) (Dk.crsTo kn (L.map Fc.fi) L.length), 0) w (.returned (.tuple #[.agg #[.int .i64 room, .slice (some ⟨g, 0, none⟩) L2.length cv], .int .i64 0])) _ from ⟨_, _, rfl, hO2, HF6.out, hbz⟩)
    clear z' hz hbz  hO2
    go_wp2
    have z0 := z0.out
    have z1 := z1.out
    exact bodyPost_ret (v := .tuple #[.agg #[.int .i64 room, .slice (some ⟨g, 0, none⟩) L2.length cv], .int .i64 0]) (by simp [results, Try.results24, go_sem, z0, z1]) rfl FIN.out
end Go.Proofs.Ytgjcpdcepmgafaa
