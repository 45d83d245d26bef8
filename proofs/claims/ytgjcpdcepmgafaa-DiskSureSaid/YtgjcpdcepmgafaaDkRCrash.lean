/-
  What telltaleref08's Crash answers.
-/
import Derived.Test.YtgjcpdcepmgafaaDkCrash
namespace Go.Proofs.Ytgjcpdcepmgafaa
open Go.RowKit

namespace Dk
theorem kAt_le (keep : Nat) (fs : List Fi) : ∀ j, kAt keep fs j ≤ keep
  | 0 => Nat.le_refl _
  | j + 1 => by
    have := kAt_le keep fs j
    rw [kAt]
    split
    · omega
    · exact this
theorem lstTo_lt {keep : Nat} {fs : List Fi} : ∀ {k j : Nat}, lstTo keep fs k = some j → j < k
  | 0, j, h => by cases h
  | k + 1, j, h => by
    rw [lstTo] at h
    split at h
    · split at h
      · injection h with h
        omega
      · have := lstTo_lt h
        omega
    · have := lstTo_lt h
      omega
end Dk
theorem own_row_cells {W : World} {n0 N cap g i : Nat} {t : TypeId} {Lk : List Fc} {f : Fc} (hr : W.ownsRow n0 t 3 (.slice (some ⟨g, 0, none⟩) N cap) Lk.length (fCells Lk)) (hN : Lk.length = N) (hx : Lk[i]? = some f) :
    W.cell? ⟨g, i * 3, none⟩ = some (.int .i64 f.num) ∧ W.cell? ⟨g, i * 3 + 1, none⟩ = some (.slice f.X f.l.length f.c) ∧ W.cell? ⟨g, i * 3 + 2, none⟩ = some (.int .i64 f.s) := by
  subst hN
  obtain ⟨h0, h1, h2, -⟩ := row_cells hr hx
  exact ⟨h0, h1, h2⟩
/-- The number that the reference keeps of the last one's place. -/
def lastI : Option Nat → Int
  | none => -1
  | some j => (j : Int)

set_option maxRecDepth 100000 in
set_option maxHeartbeats 6400000 in
theorem rcrash_any (room keep turn : Int) (A : Option Addr) (c : Nat) (L : List Fc) (w : World) (h : OneD w A c L) (hkm : keep ≤ 9223372036854775807) :
    Calls Try.prog 25 #[.agg #[.int .i64 room, .slice A L.length c], .int .i64 keep, .int .i64 turn] w (GivesDE (Dk.crsR room (L.map Fc.fi) keep turn) w) := by
  have bn := below_new (below_new (Below.refl w.heap.size w) (.cells #[.int .i64 room, .slice A L.length c] 24)) (.cells #[.int .i64 0, .slice none 0 0] 24)
  have N := Lib.hid (rformed_any room A c L _ (h.later bn))
  have B1 := Lib.hid (show Blk _ (w.heap.size + 1) 24 #[.int .i64 0, .slice none 0 0] from by simpa using Blk.new (w.alloc (.cells #[.int .i64 room, .slice A L.length c] 24)) 24 #[.int .i64 0, .slice none 0 0])
  have B0 := Lib.hid ((Blk.new w 24 #[.int .i64 room, .slice A L.length c]).alloc (.cells #[.int .i64 0, .slice none 0 0] 24))
  have HD := Lib.hid h
  clear h
  cases hq : Dk.fmd room (L.map Fc.fi) with
  | false =>
    rw [hq] at N
    have hR : Dk.crsR room (L.map Fc.fi) keep turn = (0, [], 1) := by unfold Dk.crsR; rw [if_neg (fun h => by rw [hq] at h; exact absurd h.1 Bool.false_ne_true)]
    rw [hR]
    clear hR HD B0 hq
    go_enter Try.func25, Try.ntmps25
    go_wp2_with fail
    refine N.out.mono ?_
    rintro e w1 ⟨rfl, b1⟩
    have z' := B1.out.later b1
    have y0 := z'.cell (i := 0) rfl
    have y1 := z'.cell (i := 1) rfl
    have s0 := z'.free 0
    have s1 := z'.free 1
    have hz := (z'.put 0 (.int .i64 0)).put 1 (.slice none 0 0)
    have z0 := Lib.hid (hz.cell (i := 0) rfl)
    have z1 := Lib.hid (hz.cell (i := 1) rfl)
    have hbz := ((below_on bn b1).setCell (p := ⟨w.heap.size + 1, 0, none⟩) (by show w.heap.size ≤ w.heap.size + 1; omega) (.int .i64 0)).setCell (p := ⟨w.heap.size + 1, 1, none⟩) (by show w.heap.size ≤ w.heap.size + 1; omega) (.slice none 0 0)
    have FIN := Lib.hid (GivesDE.err 1 hbz)
    clear z' hz hbz 
    go_wp2
    have z0 := z0.out
    have z1 := z1.out
    exact bodyPost_ret (v := .tuple #[.agg #[.int .i64 0, .slice none 0 0], .int .i64 1]) (by simp [results, Try.results25, go_sem, z0, z1]) rfl FIN.out
  | true =>
  rw [hq] at N
  by_cases hk : keep < 0
  · have dk0 : decide (keep < 0) = true := decide_eq_true hk
    have hR : Dk.crsR room (L.map Fc.fi) keep turn = (0, [], 1) := by unfold Dk.crsR; rw [if_neg (fun h => by omega)]
    rw [hR]
    clear hR HD B0 hq hk
    go_enter Try.func25, Try.ntmps25
    go_wp2_with fail
    refine N.out.mono ?_
    rintro e w1 ⟨rfl, b1⟩
    have z' := B1.out.later b1
    have y0 := z'.cell (i := 0) rfl
    have y1 := z'.cell (i := 1) rfl
    have s0 := z'.free 0
    have s1 := z'.free 1
    have hz := (z'.put 0 (.int .i64 0)).put 1 (.slice none 0 0)
    have z0 := Lib.hid (hz.cell (i := 0) rfl)
    have z1 := Lib.hid (hz.cell (i := 1) rfl)
    have hbz := ((below_on bn b1).setCell (p := ⟨w.heap.size + 1, 0, none⟩) (by show w.heap.size ≤ w.heap.size + 1; omega) (.int .i64 0)).setCell (p := ⟨w.heap.size + 1, 1, none⟩) (by show w.heap.size ≤ w.heap.size + 1; omega) (.slice none 0 0)
    have FIN := Lib.hid (GivesDE.err 1 hbz)
    clear z' hz hbz 
    go_wp2
    have z0 := z0.out
    have z1 := z1.out
    exact bodyPost_ret (v := .tuple #[.agg #[.int .i64 0, .slice none 0 0], .int .i64 1]) (by simp [results, Try.results25, go_sem, z0, z1]) rfl FIN.out
  have dk0 : decide (keep < 0) = false := decide_eq_false hk
  by_cases ht0 : turn < 0
  · have dt0 : decide (turn < 0) = true := decide_eq_true ht0
    have hR : Dk.crsR room (L.map Fc.fi) keep turn = (0, [], 1) := by unfold Dk.crsR; rw [if_neg (fun h => by have := Dk.win_yes h.2.2; omega)]
    rw [hR]
    clear hR HD B0 hq hk ht0
    go_enter Try.func25, Try.ntmps25
    go_wp2_with fail
    refine N.out.mono ?_
    rintro e w1 ⟨rfl, b1⟩
    have z' := B1.out.later b1
    have y0 := z'.cell (i := 0) rfl
    have y1 := z'.cell (i := 1) rfl
    have s0 := z'.free 0
    have s1 := z'.free 1
    have hz := (z'.put 0 (.int .i64 0)).put 1 (.slice none 0 0)
    have z0 := Lib.hid (hz.cell (i := 0) rfl)
    have z1 := Lib.hid (hz.cell (i := 1) rfl)
    have hbz := ((below_on bn b1).setCell (p := ⟨w.heap.size + 1, 0, none⟩) (by show w.heap.size ≤ w.heap.size + 1; omega) (.int .i64 0)).setCell (p := ⟨w.heap.size + 1, 1, none⟩) (by show w.heap.size ≤ w.heap.size + 1; omega) (.slice none 0 0)
    have FIN := Lib.hid (GivesDE.err 1 hbz)
    clear z' hz hbz 
    go_wp2
    have z0 := z0.out
    have z1 := z1.out
    exact bodyPost_ret (v := .tuple #[.agg #[.int .i64 0, .slice none 0 0], .int .i64 1]) (by simp [results, Try.results25, go_sem, z0, z1]) rfl FIN.out
  have dt0 : decide (turn < 0) = false := decide_eq_false ht0
  by_cases ht1 : 255 < turn
  · have dt1 : decide (255 < turn) = true := decide_eq_true ht1
    have hR : Dk.crsR room (L.map Fc.fi) keep turn = (0, [], 1) := by unfold Dk.crsR; rw [if_neg (fun h => by have := Dk.win_yes h.2.2; omega)]
    rw [hR]
    clear hR HD B0 hq hk ht0 ht1
    go_enter Try.func25, Try.ntmps25
    go_wp2_with fail
    refine N.out.mono ?_
    rintro e w1 ⟨rfl, b1⟩
    have z' := B1.out.later b1
    have y0 := z'.cell (i := 0) rfl
    have y1 := z'.cell (i := 1) rfl
    have s0 := z'.free 0
    have s1 := z'.free 1
    have hz := (z'.put 0 (.int .i64 0)).put 1 (.slice none 0 0)
    have z0 := Lib.hid (hz.cell (i := 0) rfl)
    have z1 := Lib.hid (hz.cell (i := 1) rfl)
    have hbz := ((below_on bn b1).setCell (p := ⟨w.heap.size + 1, 0, none⟩) (by show w.heap.size ≤ w.heap.size + 1; omega) (.int .i64 0)).setCell (p := ⟨w.heap.size + 1, 1, none⟩) (by show w.heap.size ≤ w.heap.size + 1; omega) (.slice none 0 0)
    have FIN := Lib.hid (GivesDE.err 1 hbz)
    clear z' hz hbz 
    go_wp2
    have z0 := z0.out
    have z1 := z1.out
    exact bodyPost_ret (v := .tuple #[.agg #[.int .i64 0, .slice none 0 0], .int .i64 1]) (by simp [results, Try.results25, go_sem, z0, z1]) rfl FIN.out
  have dt1 : decide (255 < turn) = false := decide_eq_false ht1
  have hR : Dk.crsR room (L.map Fc.fi) keep turn = (room, Dk.atF (Dk.turnF turn) (Dk.lstTo keep.toNat (L.map Fc.fi) (L.map Fc.fi).length) (Dk.crsTo keep.toNat (L.map Fc.fi) (L.map Fc.fi).length), 0) := by unfold Dk.crsR; rw [if_pos ⟨hq, by omega, decide_eq_true ⟨by omega, by omega⟩⟩]
  rw [hR, List.length_map]
  obtain ⟨tn, rfl⟩ : ∃ tn : Nat, turn = (tn : Int) := ⟨turn.toNat, by omega⟩
  obtain ⟨kn, rfl⟩ : ∃ kn : Nat, keep = (kn : Int) := ⟨keep.toNat, by omega⟩
  rw [Int.toNat_natCast]
  have hkn : kn ≤ 9223372036854775807 := by omega
  have t0 : (0 : Int) ≤ (tn : Int) := by omega
  have t1 : (tn : Int) ≤ 255 := by omega
  have HFT := Lib.hid (Dk.fit hq)
  have HFM := Lib.hid (Dk.fmd_facts hq)
  have hlen := Dk.len_le hq
  obtain ⟨fs, hfs⟩ : ∃ fs, L.map Fc.fi = fs := ⟨_, rfl⟩
  have hfl : fs.length = L.length := by rw [← hfs, List.length_map]
  rw [hfs] at HFM ⊢
  have HFS := Lib.hid hfs
  have HFL := Lib.hid hfl
  obtain ⟨o, hoo⟩ : ∃ o, Dk.lstTo kn fs L.length = o := ⟨_, rfl⟩
  rw [hoo]
  have HOO := Lib.hid hoo
  clear hq hR hk ht0 ht1 hfs hfl hoo
  go_enter Try.func25, Try.ntmps25
  go_wp2_with fail
  refine N.out.mono ?_
  rintro e w1 ⟨rfl, b1⟩
  have bb := below_on bn b1
  have c0 := (B0.out.later b1).cell (i := 0) rfl
  have c1 := (B0.out.later b1).cell (i := 1) rfl
  have N2 := Lib.hid (rcopyD_any room A c L w1 (HD.out.later bb) HFT.out)
  have Z := Lib.hid (B1.out.later b1)
  go_wp2_with fail
  refine N2.out.mono ?_
  rintro e w2 ⟨v, L2, rfl, hO, hfi, b2⟩
  have hl2 : L2.length = L.length := by have := congrArg List.length hfi; simpa using this
  obtain ⟨V, cv, rfl, -, hcm, -, -⟩ := own_form hO.row
  rw [HFS.out] at hfi
  have bb2 := below_on bb b2
  have b3 := below_new bb2 (.cells #[.int .i64 room, .slice V L2.length cv] 24)
  have hs2 := b2.size
  have hzl := (Z.out).lt
  have O3 := Lib.hid (hO.later (below_new (Below.refl w2.heap.size w2) (.cells #[.int .i64 room, .slice V L2.length cv] 24)))
  have Z3 := Lib.hid ((Z.out.later b2).alloc (.cells #[.int .i64 room, .slice V L2.length cv] 24))
  have Y3 := Lib.hid (Blk.new w2 24 #[.int .i64 room, .slice V L2.length cv])
  have HB3 := Lib.hid b3
  have HFI := Lib.hid hfi
  have HL2 := Lib.hid hl2
  have hl2' : L2.length ≤ 1048577 := by omega
  clear hO hfi hl2 b3 bb2 b2
  go_wp2_with fail
  go_loopw [1, 9, 10] (fun s1 s9 s10 wr => ∃ (k : Nat) (M : List Fc), k ≤ L2.length ∧ s10 = .int .i64 (k : Int) ∧ s1 = .int .i64 (Dk.kAt kn fs k : Int) ∧ s9 = .int .i64 (lastI (Dk.lstTo kn fs k)) ∧ OwnD wr w1.heap.size 43 5 (.slice V L2.length cv) M ∧ M.length = L2.length ∧ M.map Fc.fi = Dk.crsTo kn fs k ++ fs.drop k ∧ (∀ j, Dk.lstTo kn fs k = some j → ∃ x, M[j]? = some x ∧ 0 < x.l.length) ∧ Blk wr w2.heap.size 24 #[.int .i64 room, .slice V L2.length cv] ∧ Blk wr (w.heap.size + 1) 24 #[.int .i64 0, .slice none 0 0] ∧ Below w.heap.size w wr) (fun _ _ s10 _ => L2.length - (intOf s10).toNat)
  case atStart => exact ⟨0, L2, Nat.zero_le _, rfl, rfl, rfl, O3.out, rfl, (by rw [HFI.out]; rfl), (fun j hj => by cases hj), Y3.out, Z3.out, HB3.out⟩
  case round =>
    obtain ⟨k, M, hk, rfl, rfl, rfl, hO, hM, hfi, hlast, hY, hZ, hbw⟩ := hrel
    have y1 := hY.cell (i := 1) rfl
    by_cases hlt : k < L2.length
    · obtain ⟨g, cap, hgv⟩ := own_len hO.row (by omega)
      injection hgv with hV h2 h3
      subst hV h3
      clear h2
      obtain ⟨x, hx⟩ : ∃ x, M[k]? = some x := ⟨M[k]'(by omega), List.getElem?_eq_getElem (by omega)⟩
      have hfl := HFL.out
      have hl2 := HL2.out
      have hcl := Dk.crsTo_len kn fs k (by omega)
      have hfx : fs[k]? = some x.fi := by
        have h1 : (M.map Fc.fi)[k]? = some x.fi := by rw [List.getElem?_map, hx]; rfl
        rw [hfi, List.getElem?_append_right (by omega), hcl, Nat.sub_self, List.getElem?_drop, Nat.add_zero] at h1
        exact h1
      have hnum := HFM.out.num x.fi (List.mem_of_getElem? hfx)
      have hx0 : 0 ≤ x.s := hnum.2.2.1
      have hx1 : x.s ≤ (x.l.length : Int) := hnum.2.2.2
      have hob := hO.each x (List.mem_of_getElem? hx)
      have hle := hob.le
      have hxc := hob.cap
      unfold maxLen at hxc
      obtain ⟨sn, hsn⟩ : ∃ sn : Nat, x.s = (sn : Int) := ⟨x.s.toNat, by omega⟩
      have hsl : sn ≤ x.l.length := by omega
      obtain ⟨ka, hka⟩ : ∃ ka, Dk.kAt kn fs k = ka := ⟨_, rfl⟩
      have hkb : ka ≤ kn := by rw [← hka]; exact Dk.kAt_le kn fs k
      obtain ⟨kp, hkp⟩ : ∃ kp, min ka (x.l.length - sn) = kp := ⟨_, rfl⟩
      have hk1 : Dk.kp1 ka x.fi = kp := by
        unfold Dk.kp1
        rw [show x.fi.2.2.toNat = sn from by show x.s.toNat = sn; rw [hsn]; omega]
        exact hkp
      have kq : min (ka : Int) ((x.l.length : Int) - (sn : Int)) = (kp : Int) := by rw [← hkp]; exact Dk.lit_min ka x.l.length sn hsl
      have hkp1 : kp ≤ ka := by omega
      have hkp2 : sn + kp ≤ x.l.length := by omega
      have kd : (ka : Int) - (kp : Int) = ((ka - kp : Nat) : Int) := by omega
      have kaN : Dk.kAt kn fs (k + 1) = ka - kp := by rw [Dk.kAt_step hfx, hka, hk1]
      have lsN : Dk.lstTo kn fs (k + 1) = if 0 < kp then some k else Dk.lstTo kn fs k := by rw [Dk.lstTo_step hfx, hka, hk1]
      have crN : Dk.crsTo kn fs (k + 1) = Dk.crsTo kn fs k ++ [(x.num, x.l.take (sn + kp), ((sn + kp : Nat) : Int))] := by
        rw [Dk.crsTo_step hfx, hka]
        unfold Dk.crs1
        rw [hk1, show x.fi.2.2.toNat = sn from by show x.s.toNat = sn; rw [hsn]; omega]
        rfl
      rw [hka]
      obtain ⟨W1, hW1⟩ : ∃ W1, wr.alloc (.cells #[.int .i64 x.num, .slice x.X x.l.length x.c, .int .i64 (sn : Int)] 43) = W1 := ⟨_, rfl⟩
      have b1' : Below wr.heap.size wr W1 := by rw [← hW1]; exact below_new (Below.refl _ _) _
      have hB1 : Blk W1 wr.heap.size 43 #[.int .i64 x.num, .slice x.X x.l.length x.c, .int .i64 (sn : Int)] := by rw [← hW1]; exact Blk.new _ _ _
      have O1 := hO.later b1'
      have hrow : W1.ownsRow w1.heap.size 43 3 (.slice (some ⟨g, 0, none⟩) M.length cv) M.length (fCells M) := by rw [hM]; have := O1.row; rw [hM] at this; exact this
      obtain ⟨q0, q1, q2, q3, q4⟩ := row_cells hrow hx
      have r0 := own_row_cells hO.row hM hx
      have hrow0 : wr.ownsRow w1.heap.size 43 3 (.slice (some ⟨g, 0, none⟩) M.length cv) M.length (fCells M) := by rw [hM]; have := hO.row; rw [hM] at this; exact this
      have hg := own_base_le hrow0
      have hgw : g ≠ wr.heap.size := by omega
      have Y1 := hY.later b1'
      have y1' := Y1.cell (i := 1) rfl
      have hgY : w2.heap.size ≠ g := fun e => by
        subst e
        rcases hO.row.2 with ⟨h2, _⟩ | ⟨g', cap', cur', h2, _, h3, _⟩
        · cases h2
        · injection h2 with h2
          injection h2 with h2
          injection h2 with h2
          subst h2
          have h1 := hY
          unfold Blk at h1
          rw [h1] at h3
          injection h3 with h3
          injection h3 with _ h3
          exact absurd h3 (by decide)
      have hOd : OwnD W1.drew w1.heap.size 43 5 (.slice (some ⟨g, 0, none⟩) M.length cv) M := by rw [hM]; exact O1.later (Below.refl _ _).drew
      have p1 := hOd.put1 (by decide) hx (sn + kp) hkp2
      obtain ⟨W4, hW4⟩ : ∃ W4, (W1.setCell ⟨g, k * 3 + 1, none⟩ (.slice x.X (sn + kp) x.c)).drew = W4 := ⟨_, rfl⟩
      replace p1 : OwnD W4 w1.heap.size 43 5 (.slice (some ⟨g, 0, none⟩) M.length cv) (M.set k { x with l := x.l.take (sn + kp) }) := by rw [← hW4]; exact p1
      have hml : (M.set k { x with l := x.l.take (sn + kp) }).length = M.length := List.length_set
      have hx4 : (M.set k { x with l := x.l.take (sn + kp) })[k]? = some { x with l := x.l.take (sn + kp) } := List.getElem?_set_self (by omega)
      have p1' : OwnD W4 w1.heap.size 43 5 (.slice (some ⟨g, 0, none⟩) (M.set k { x with l := x.l.take (sn + kp) }).length cv) (M.set k { x with l := x.l.take (sn + kp) }) := by rw [hml]; exact p1
      have p2 := p1'.put2 (by decide) hx4 ((sn : Int) + (kp : Int))
      rw [List.set_set, hml, hM] at p2
      have w4k : ∀ b, b ≠ g → W4.heap[b]? = W1.heap[b]? := fun b hb => by rw [← hW4]; exact Below.heap_setCell W1 ⟨g, k * 3 + 1, none⟩ (.slice x.X (sn + kp) x.c) b hb
      have Y4 : Blk W4 w2.heap.size 24 #[.int .i64 room, .slice (some ⟨g, 0, none⟩) L2.length cv] := (w4k _ hgY).trans Y1
      have X4 : Blk W4 wr.heap.size 43 #[.int .i64 x.num, .slice x.X x.l.length x.c, .int .i64 (sn : Int)] := (w4k _ (fun h => hgw h.symm)).trans hB1
      have y4 := Y4.cell (i := 1) rfl
      have x42 := X4.cell (i := 2) rfl
      obtain ⟨-, -, s2, -, s4⟩ := row_cells p1'.row hx4
      have x11 := hB1.cell (i := 1) rfl
      have x12 := hB1.cell (i := 2) rfl
      have Y5 := Y4.far (p := ⟨g, k * 3 + 2, none⟩) hgY (.int .i64 ((sn : Int) + (kp : Int)))
      have hzg : w.heap.size + 1 ≠ g := by omega
      have Z5 := ((show Blk W4 (w.heap.size + 1) 24 #[.int .i64 0, .slice none 0 0] from (w4k _ hzg).trans (hZ.later b1'))).far (p := ⟨g, k * 3 + 2, none⟩) hzg (.int .i64 ((sn : Int) + (kp : Int)))
      have bb4 : Below w.heap.size w W4 := by rw [← hW4]; exact ((below_on hbw b1').setCell (p := ⟨g, k * 3 + 1, none⟩) (by have := bb.size; show w.heap.size ≤ g; omega) _).drew
      have B5 := bb4.setCell (p := ⟨g, k * 3 + 2, none⟩) (by have := bb.size; show w.heap.size ≤ g; omega) (.int .i64 ((sn : Int) + (kp : Int)))
      have HF2 := Lib.hid (show (M.set k { x with l := x.l.take (sn + kp), s := (sn : Int) + (kp : Int) }).map Fc.fi = Dk.crsTo kn fs (k + 1) ++ fs.drop (k + 1) from by
        rw [List.map_set, hfi, List.set_append, if_neg (by omega), hcl, Nat.sub_self, crN, List.append_assoc]
        have hkf : k < fs.length := by omega
        rw [List.drop_eq_getElem_cons hkf, List.set_cons_zero]
        show _ = Dk.crsTo kn fs k ++ (_ :: fs.drop (k + 1))
        unfold Fc.fi
        rw [Int.natCast_add])
      have HLAST := Lib.hid (show ∀ j, Dk.lstTo kn fs (k + 1) = some j → ∃ y, (M.set k { x with l := x.l.take (sn + kp), s := (sn : Int) + (kp : Int) })[j]? = some y ∧ 0 < y.l.length from fun j hj => by
        rw [lsN] at hj
        split at hj
        · injection hj with hj
          subst hj
          exact ⟨_, List.getElem?_set_self (by omega), by show 0 < (x.l.take (sn + kp)).length; rw [List.length_take]; omega⟩
        · have hjk := Dk.lstTo_lt hj
          obtain ⟨y, h1, h2⟩ := hlast j hj
          exact ⟨y, by rw [List.getElem?_set_ne (by omega)]; exact h1, h2⟩)
      have P2 := Lib.hid p2; have HY2 := Lib.hid Y5; have HZ2 := Lib.hid Z5; have HB2 := Lib.hid B5; have HM := Lib.hid hM
      have HKA := Lib.hid kaN
      have HS := Lib.hid hsn
      have i0 : (0 : Int) ≤ (k : Int) := by omega
      have i1 : (k : Int) < (L2.length : Int) := by omega
      have j0 : (0 : Int) ≤ (sn : Int) := by omega
      have j1 : (sn : Int) ≤ (x.l.length : Int) := by omega
      have j2 : (0 : Int) ≤ (kp : Int) := by omega
      have j3 : (0 : Int) ≤ (sn : Int) + (kp : Int) := by omega
      have j4 : (sn : Int) + (kp : Int) ≤ (x.c : Int) := by omega
      have j5 : sn + kp ≤ x.c := by omega
      have j6 : ((sn : Int) + (kp : Int)).toNat = sn + kp := by omega
      have j7 : (x.l.length : Int) ≤ 9223372036854775807 := by omega
      have kw : IntKind.i64.wrap ((sn : Int) + (kp : Int)) = (sn : Int) + (kp : Int) := IntWalk.i64_in _ (by omega)
      obtain ⟨r00, r01, r02⟩ := r0
      rw [hsn] at r02
      by_cases hz : 0 < kp
      · have dz : decide ((0 : Int) < (kp : Int)) = true := decide_eq_true (by omega)
        have HLS := Lib.hid (show Dk.lstTo kn fs (k + 1) = some k from by rw [lsN, if_pos hz])
        clear hka hkp hk1 kaN lsN crN hcl hfx hfi hlast hx hO O1 hrow hOd p1 p1' hx4 hml p2 Y4 X4 Y5 Z5 bb4 B5 hY hZ hM hB1 hob hsn hl2 hfl Y1 w4k b1' hnum
        cases hX : x.X with
        | none =>
          have hXH := Lib.hid hX
          rw [hX] at r01 x11 hW1 hW4
          clear hX
          go_wp2_with fail
          go_region
          all_goals
            go_wp2_with fail
            go_roundw
            case rel => exact ⟨k + 1, _, by omega, by first | rfl | go_num, by rw [HKA.out], by rw [HLS.out]; rfl, P2.out, by rw [List.length_set]; exact HM.out, HF2.out, HLAST.out, HY2.out, HZ2.out, HB2.out⟩
            case measure => simp [intOf]; omega
        | some a =>
          have hXH := Lib.hid hX
          rw [hX] at r01 x11 hW1 hW4
          clear hX
          go_wp2_with fail
          go_region
          all_goals
            go_wp2_with fail
            go_roundw
            case rel => exact ⟨k + 1, _, by omega, by first | rfl | go_num, by rw [HKA.out], by rw [HLS.out]; rfl, P2.out, by rw [List.length_set]; exact HM.out, HF2.out, HLAST.out, HY2.out, HZ2.out, HB2.out⟩
            case measure => simp [intOf]; omega
      · have dz : decide ((0 : Int) < (kp : Int)) = false := decide_eq_false (by omega)
        have HLS := Lib.hid (show Dk.lstTo kn fs (k + 1) = Dk.lstTo kn fs k from by rw [lsN, if_neg hz])
        clear hka hkp hk1 kaN lsN crN hcl hfx hfi hlast hx hO O1 hrow hOd p1 p1' hx4 hml p2 Y4 X4 Y5 Z5 bb4 B5 hY hZ hM hB1 hob hsn hl2 hfl Y1 w4k b1' hnum
        cases hX : x.X with
        | none =>
          have hXH := Lib.hid hX
          rw [hX] at r01 x11 hW1 hW4
          clear hX
          go_wp2_with fail
          go_region
          all_goals
            go_wp2_with fail
            go_roundw
            case rel => exact ⟨k + 1, _, by omega, by first | rfl | go_num, by rw [HKA.out], by rw [HLS.out], P2.out, by rw [List.length_set]; exact HM.out, HF2.out, HLAST.out, HY2.out, HZ2.out, HB2.out⟩
            case measure => simp [intOf]; omega
        | some a =>
          have hXH := Lib.hid hX
          rw [hX] at r01 x11 hW1 hW4
          clear hX
          go_wp2_with fail
          go_region
          all_goals
            go_wp2_with fail
            go_roundw
            case rel => exact ⟨k + 1, _, by omega, by first | rfl | go_num, by rw [HKA.out], by rw [HLS.out], P2.out, by rw [List.length_set]; exact HM.out, HF2.out, HLAST.out, HY2.out, HZ2.out, HB2.out⟩
            case measure => simp [intOf]; omega
    · obtain rfl : k = L2.length := by omega
      have hoo2 : Dk.lstTo kn fs L2.length = o := by rw [HL2.out]; exact HOO.out
      have hfi' : M.map Fc.fi = Dk.crsTo kn fs L.length := by rw [hfi, List.drop_eq_nil_of_le (by rw [HFL.out, HL2.out]; exact Nat.le_refl _), List.append_nil, HL2.out]
      rw [hoo2] at hlast ⊢
      clear hoo2 hfi hk
      have a0 := hY.cell (i := 0) rfl
      cases o with
      | none =>
        have e0 : lastI none = -1 := rfl
        rw [e0]
        have HF := Lib.hid hfi'; have HO := Lib.hid hO; have HZ := Lib.hid hZ
        clear hfi' hO hZ hY hlast hM e0
        have z' := HZ.out
        have y0 := z'.cell (i := 0) rfl
        have y1' := z'.cell (i := 1) rfl
        have s0 := z'.free 0
        have s1 := z'.free 1
        have hz := (z'.put 0 (.int .i64 room)).put 1 (.slice V L2.length cv)
        have z0 := Lib.hid (hz.cell (i := 0) rfl)
        have z1 := Lib.hid (hz.cell (i := 1) rfl)
        have hbz := ((hbw).setCell (p := ⟨w.heap.size + 1, 0, none⟩) (by show w.heap.size ≤ w.heap.size + 1; omega) (.int .i64 room)).setCell (p := ⟨w.heap.size + 1, 1, none⟩) (by show w.heap.size ≤ w.heap.size + 1; omega) (.slice V L2.length cv)
        have hO2 := (((HO.out).low (p := ⟨w.heap.size + 1, 0, none⟩) (by show w.heap.size + 1 < _; omega) (.int .i64 room)).low (p := ⟨w.heap.size + 1, 1, none⟩) (by show w.heap.size + 1 < _; omega) (.slice V L2.length cv)).lower (base' := w.heap.size) (by omega)
        have FIN := Lib.hid (show GivesDE (room, Dk.atF (Dk.turnF (tn : Int)) (none) (Dk.crsTo kn fs L.length), 0) w (.returned (.tuple #[.agg #[.int .i64 room, .slice V L2.length cv], .int .i64 0])) _ from ⟨_, M, rfl, hO2, HF.out, hbz⟩)
        clear z' hz hbz hO2
        go_wp2
        have z0 := z0.out
        have z1 := z1.out
        exact bodyPost_ret (v := .tuple #[.agg #[.int .i64 room, .slice V L2.length cv], .int .i64 0]) (by simp [results, Try.results25, go_sem, z0, z1]) rfl FIN.out
      | some j =>
        obtain ⟨x, hx, hpos⟩ := hlast j rfl
        have hjM : j < M.length := (List.getElem?_eq_some_iff.1 hx).1
        obtain ⟨g, cap, hgv⟩ := own_len hO.row (by omega)
        injection hgv with hV h2 h3
        subst hV h3
        clear h2
        have e0 : lastI (some j) = (j : Int) := rfl
        rw [e0]
        have hob := hO.each x (List.mem_of_getElem? hx)
        have hxc := hob.cap
        have hle := hob.le
        unfold maxLen at hxc
        cases hX : x.X with
        | none => exact absurd (hob.noA hX).1 (by omega)
        | some a =>
        obtain ⟨b, cur, rfl, hge, hBk, hsz, hcur⟩ := hob.at_ _ hX
        obtain ⟨y, hy⟩ : ∃ y, x.l.getD (x.l.length - 1) 0 = y := ⟨_, rfl⟩
        have hcell : wr.cell? ⟨b, x.l.length - 1, none⟩ = some (.int .u8 y) := by
          refine hBk.cell ?_
          have h1 := bCells_get x.l (x.l.length - 1) (by omega)
          rw [← hcur, List.getElem?_take, hy] at h1
          split at h1
          · simpa using h1
          · cases h1
        have hyb : isB y := by
          rw [← hy, List.getD_eq_getElem?_getD, List.getElem?_eq_getElem (by omega)]
          exact hob.byte _ (List.getElem_mem _)
        have r0 := own_row_cells hO.row hM hx
        rw [hX] at r0
        obtain ⟨-, r01, -⟩ := r0
        have hrow2 : wr.ownsRow w1.heap.size 43 3 (.slice (some ⟨g, 0, none⟩) L2.length cv) L2.length (fCells M) := by have := hO.row; rw [hM] at this; exact this
        have hng : x.blk ≠ some g := hob.off_row hrow2 (by decide)
        have hxb : x.blk = some b := by unfold Fc.blk; rw [hX]; rfl
        have hbg : g ≠ b := fun e => hng (by rw [hxb, e])
        have hfr := hBk.free (x.l.length - 1)
        have hnw : OwnB (wr.setCell ⟨b, x.l.length - 1, none⟩ (.int .u8 (Dk.trn y (tn : Int)))) w1.heap.size 5 { x with l := x.l.set (x.l.length - 1) (Dk.trn y (tn : Int)) } := hob.put hX _ _ (Dk.trn_byte hyb ⟨t0, t1⟩)
        have O5 : OwnD (wr.setCell ⟨b, x.l.length - 1, none⟩ (.int .u8 (Dk.trn y (tn : Int)))) w1.heap.size 43 5 (.slice (some ⟨g, 0, none⟩) L2.length cv) (M.set j { x with l := x.l.set (x.l.length - 1) (Dk.trn y (tn : Int)) }) :=
          hO.upd (by decide) hM hx (by
            rw [fCells_same M j x _ hx (by rw [List.length_set])]
            have h5 := own_stays hO.row (w' := wr.setCell ⟨b, x.l.length - 1, none⟩ (.int .u8 (Dk.trn y (tn : Int)))) (fun k hk => by
              have : g = k := by injection hk
              subst this
              exact Below.heap_setCell _ _ _ _ hbg)
            rw [hM] at h5
            exact h5) hnw rfl (fun k _ _ h3 => Below.heap_setCell _ _ _ _ (fun e => h3 (by rw [hxb]; exact congrArg some e.symm)))
        have hYb : w2.heap.size ≠ b := fun e => by
          subst e
          have h1 : some _ = some _ := (show wr.heap[w2.heap.size]? = some _ from hY).symm.trans (show wr.heap[w2.heap.size]? = some _ from hBk)
          injection h1 with h1
          injection h1 with _ h1
          exact absurd h1 (by decide)
        have A5 : Blk (wr.setCell ⟨b, x.l.length - 1, none⟩ (.int .u8 (Dk.trn y (tn : Int)))) w2.heap.size 24 #[.int .i64 room, .slice (some ⟨g, 0, none⟩) L2.length cv] := hY.far hYb _
        have Z5 : Blk (wr.setCell ⟨b, x.l.length - 1, none⟩ (.int .u8 (Dk.trn y (tn : Int)))) (w.heap.size + 1) 24 #[.int .i64 0, .slice none 0 0] := hZ.far (by show w.heap.size + 1 ≠ b; omega) _
        have B5 := hbw.setCell (p := ⟨b, x.l.length - 1, none⟩) (by have := bb.size; show w.heap.size ≤ b; omega) (.int .u8 (Dk.trn y (tn : Int)))
        have c0 := A5.cell (i := 0) rfl
        have c1 := A5.cell (i := 1) rfl
        have hfin : (M.set j { x with l := x.l.set (x.l.length - 1) (Dk.trn y (tn : Int)) }).map Fc.fi = Dk.atF (Dk.turnF (tn : Int)) (some j) (Dk.crsTo kn fs L.length) := by
          have h1 : (Dk.crsTo kn fs L.length)[j]? = some x.fi := by rw [← hfi', List.getElem?_map, hx]; rfl
          rw [Dk.atF_some h1, List.map_set, hfi']
          congr 1
          unfold Dk.turnF Fc.fi
          rw [hy]
        have O6 := Lib.hid O5; have Z6 := Lib.hid Z5; have B6 := Lib.hid B5; have HF6 := Lib.hid hfin
        obtain ⟨e, he⟩ : ∃ e, x.l.length - 1 = e := ⟨_, rfl⟩
        have HE := Lib.hid he
        have j1 : (x.l.length : Int) - 1 = (e : Int) := by omega
        have j2 : (0 : Int) ≤ (e : Int) := by omega
        have j3 : (e : Int) < (x.l.length : Int) := by omega
        have i0 : (0 : Int) ≤ (j : Int) := by omega
        have i1 : (j : Int) < (L2.length : Int) := by omega
        have kw : IntKind.u8.wrap (tn : Int) = (tn : Int) := by simp only [IntKind.wrap_u8]; omega
        have j4 : (x.l.length : Int) ≤ 9223372036854775807 := by omega
        unfold Dk.trn at c0 c1
        rw [he] at hcell hfr c0 c1
        clear hrow2 O5 Z5 A5 B5 hfin hx hX hob hBk hcur hy hyb hO hM hY hZ hnw hng hxb hlast hfi' e0 he hjM
        obtain ⟨W5, hW5⟩ : ∃ W5, wr.setCell ⟨b, e, none⟩ (.int .u8 (bits BinOp.xor IntKind.u8 y (tn : Int))) = W5 := ⟨_, rfl⟩
        have O7 := Lib.hid (show OwnD W5 w1.heap.size 43 5 (.slice (some ⟨g, 0, none⟩) L2.length cv) (M.set j { x with l := x.l.set (x.l.length - 1) (Dk.trn y (tn : Int)) }) from by rw [← hW5, ← HE.out]; exact O6.out)
        have Z7 := Lib.hid (show Blk W5 (w.heap.size + 1) 24 #[.int .i64 0, .slice none 0 0] from by rw [← hW5, ← HE.out]; exact Z6.out)
        have B7 := Lib.hid (show Below w.heap.size w W5 from by rw [← hW5, ← HE.out]; exact B6.out)
        rw [hW5] at c0 c1
        have z' := Z7.out
        have y0 := z'.cell (i := 0) rfl
        have y1' := z'.cell (i := 1) rfl
        have s0 := z'.free 0
        have s1 := z'.free 1
        have hz := (z'.put 0 (.int .i64 room)).put 1 (.slice (some ⟨g, 0, none⟩) L2.length cv)
        have z0 := Lib.hid (hz.cell (i := 0) rfl)
        have z1 := Lib.hid (hz.cell (i := 1) rfl)
        have hbz := ((B7.out).setCell (p := ⟨w.heap.size + 1, 0, none⟩) (by show w.heap.size ≤ w.heap.size + 1; omega) (.int .i64 room)).setCell (p := ⟨w.heap.size + 1, 1, none⟩) (by show w.heap.size ≤ w.heap.size + 1; omega) (.slice (some ⟨g, 0, none⟩) L2.length cv)
        have hO2 := (((O7.out).low (p := ⟨w.heap.size + 1, 0, none⟩) (by show w.heap.size + 1 < _; omega) (.int .i64 room)).low (p := ⟨w.heap.size + 1, 1, none⟩) (by show w.heap.size + 1 < _; omega) (.slice (some ⟨g, 0, none⟩) L2.length cv)).lower (base' := w.heap.size) (by omega)
        have FIN := Lib.hid (show GivesDE (room, Dk.atF (Dk.turnF (tn : Int)) (some j) (Dk.crsTo kn fs L.length), 0) w (.returned (.tuple #[.agg #[.int .i64 room, .slice (some ⟨g, 0, none⟩) L2.length cv], .int .i64 0])) _ from ⟨_, _, rfl, hO2, HF6.out, hbz⟩)
        clear z' hz hbz hO2
        go_wp2
        have z0 := z0.out
        have z1 := z1.out
        exact bodyPost_ret (v := .tuple #[.agg #[.int .i64 room, .slice (some ⟨g, 0, none⟩) L2.length cv], .int .i64 0]) (by simp [results, Try.results25, go_sem, z0, z1]) rfl FIN.out
end Go.Proofs.Ytgjcpdcepmgafaa
