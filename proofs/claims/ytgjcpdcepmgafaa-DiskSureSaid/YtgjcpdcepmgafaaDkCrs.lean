/-
  What becomes of a disk's files in a crash, as plain mathematics, and the change that disk's Crash makes of each.
-/
import Derived.Test.YtgjcpdcepmgafaaDkDevE
namespace Go.Proofs.Ytgjcpdcepmgafaa
open Go.RowKit

namespace Dk
/-- How many of a file's bytes are kept that were not sure. -/
def kp1 (k : Nat) (f : Fi) : Nat := min k (f.2.1.length - f.2.2.toNat)
def crs1 (k : Nat) (f : Fi) : Fi := (f.1, f.2.1.take (f.2.2.toNat + kp1 k f), ((f.2.2.toNat + kp1 k f : Nat) : Int))
/-- How many may still be kept from the file of place i on. -/
def kAt (keep : Nat) (fs : List Fi) : Nat → Nat
  | 0 => keep
  | i + 1 => match fs[i]? with
    | some f => kAt keep fs i - kp1 (kAt keep fs i) f
    | none => kAt keep fs i
def crsTo (keep : Nat) (fs : List Fi) : Nat → List Fi
  | 0 => []
  | i + 1 => match fs[i]? with
    | some f => crsTo keep fs i ++ [crs1 (kAt keep fs i) f]
    | none => crsTo keep fs i
/-- The place of the last file of which a byte was kept that was not sure. -/
def lstTo (keep : Nat) (fs : List Fi) : Nat → Option Nat
  | 0 => none
  | i + 1 => match fs[i]? with
    | some f => if 0 < kp1 (kAt keep fs i) f then some i else lstTo keep fs i
    | none => lstTo keep fs i
theorem kAt_step {keep i : Nat} {fs : List Fi} {f : Fi} (h : fs[i]? = some f) : kAt keep fs (i + 1) = kAt keep fs i - kp1 (kAt keep fs i) f := by rw [kAt, h]
theorem crsTo_step {keep i : Nat} {fs : List Fi} {f : Fi} (h : fs[i]? = some f) : crsTo keep fs (i + 1) = crsTo keep fs i ++ [crs1 (kAt keep fs i) f] := by rw [crsTo, h]
theorem lstTo_step {keep i : Nat} {fs : List Fi} {f : Fi} (h : fs[i]? = some f) : lstTo keep fs (i + 1) = if 0 < kp1 (kAt keep fs i) f then some i else lstTo keep fs i := by rw [lstTo, h]
end Dk

/-- Where the last byte lies that was kept and was not sure. -/
def LastP (done : List Fc) : Option Nat → Option Addr → Prop
  | none, P => P = none
  | some j, P => ∃ x b, done[j]? = some x ∧ x.X = some ⟨b, 0, none⟩ ∧ 0 < x.l.length ∧ P = some ⟨b, x.l.length - 1, none⟩
/-- What is told of the files that have been through a crash: the bytes that may still be kept lie at kb, the last kept one's place at lb. -/
structure JC (h0 n0 kb lb keep : Nat) (w : World) (fs : List Fi) (done : List Fc) (W : World) : Prop where
  low : Below h0 w W
  mid : ∀ k, h0 ≤ k → k < n0 → k ≠ kb → k ≠ lb → W.heap[k]? = w.heap[k]?
  kbox : Blk W kb 3 #[.int .i64 (Dk.kAt keep fs done.length : Int)]
  lbox : ∃ P, Blk W lb 64 #[.pointer P] ∧ LastP done (Dk.lstTo keep fs done.length) P
  fi : done.map Fc.fi = Dk.crsTo keep fs done.length
theorem LastP.snoc {done : List Fc} {o : Option Nat} {P : Option Addr} (f : Fc) (h : LastP done o P) : LastP (done ++ [f]) o P := by
  cases o with
  | none => exact h
  | some j =>
    obtain ⟨x, b, h1, h2, h3, h4⟩ := h
    exact ⟨x, b, by rw [List.getElem?_append_left (List.getElem?_eq_some_iff.1 h1).1]; exact h1, h2, h3, h4⟩
theorem JC.stab {h0 n0 kb lb keep : Nat} {w : World} {fs : List Fi} (hk : kb < n0) (hl : lb < n0) (h0n : h0 ≤ n0) (done : List Fc) (W W' : World) (h : JC h0 n0 kb lb keep w fs done W) (hb : Below n0 W W') : JC h0 n0 kb lb keep w fs done W' :=
  ⟨h.low.trans (hb.mono h0n), fun k a b c d => (hb.block k b).trans (h.mid k a b c d), (hb.block kb hk).trans h.kbox, (let ⟨P, h1, h2⟩ := h.lbox; ⟨P, (hb.block lb hl).trans h1, h2⟩), h.fi⟩

theorem Dk.lit_min (kn ln sn : Nat) (h : sn ≤ ln) : min (kn : Int) ((ln : Int) - (sn : Int)) = ((min kn (ln - sn) : Nat) : Int) := by omega

/-- What the change of a crash leaves behind. -/
structure CrP (n0 N cap g i kb lb kn : Nat) (P : Option Addr) (Lk : List Fc) (f f' : Fc) (W w' : World) : Prop where
  fi : f'.fi = Dk.crs1 kn f.fi
  kbox : Blk w' kb 3 #[.int .i64 ((kn - Dk.kp1 kn f.fi : Nat) : Int)]
  lbox : ∃ P', Blk w' lb 64 #[.pointer P'] ∧ ((Dk.kp1 kn f.fi = 0 ∧ P' = P) ∨ (0 < Dk.kp1 kn f.fi ∧ ∃ b, f'.X = some ⟨b, 0, none⟩ ∧ 0 < f'.l.length ∧ P' = some ⟨b, f'.l.length - 1, none⟩))
  size : W.heap.size ≤ w'.heap.size
  row : w'.ownsRow (n0 + 2) 43 3 (.slice (some ⟨g, 0, none⟩) N cap) N (fCells (Lk.set i f'))
  own : OwnB w' (n0 + 2) 5 f'
  blk : f'.blk = f.blk
  rest : ∀ b, b ≠ g → b ≠ kb → b ≠ lb → w'.heap[b]? = W.heap[b]?
  same : w'.os = W.os ∧ w'.tape = W.tape ∧ w'.output = W.output

set_option maxRecDepth 100000 in
set_option maxHeartbeats 6400000 in
theorem crash1_any (n0 N cap g i kb lb : Nat) (kn sn : Nat) (P : Option Addr) (Lk : List Fc) (f : Fc) (W : World) (hs : f.s = (sn : Int)) (hsl : sn ≤ f.l.length) (hK : Blk W kb 3 #[.int .i64 (kn : Int)]) (hL : Blk W lb 64 #[.pointer P]) (hkl : kb ≠ lb) (hgk : g ≠ kb) (hgl : g ≠ lb) (hfk : f.blk ≠ some kb) (hfl : f.blk ≠ some lb)
    (hr : W.ownsRow (n0 + 2) 43 3 (.slice (some ⟨g, 0, none⟩) N cap) N (fCells Lk)) (hx : Lk[i]? = some f) (ho : OwnB W (n0 + 2) 5 f) (hkn : kn ≤ 9223372036854775807) :
    Calls Try.prog 42 #[.pointer (some ⟨g, i * 3, none⟩), .pointer (some ⟨kb, 0, none⟩), .pointer (some ⟨lb, 0, none⟩)] W fun e w' => e = .returned (.tuple #[]) ∧ ∃ f', CrP n0 N cap g i kb lb kn P Lk f f' W w' := by
  obtain ⟨-, q1, q2, q3, q4⟩ := row_cells hr hx
  have hle := ho.le
  have hcap := ho.cap
  unfold maxLen at hcap
  obtain ⟨kp, hkp⟩ : ∃ kp, min kn (f.l.length - sn) = kp := ⟨_, rfl⟩
  have hkq : Dk.kp1 kn f.fi = kp := by
    unfold Dk.kp1
    rw [show f.fi.2.2.toNat = sn from by show f.s.toNat = sn; rw [hs]; omega]
    exact hkp
  have kq : min (kn : Int) ((f.l.length : Int) - (sn : Int)) = (kp : Int) := by rw [← hkp]; exact Dk.lit_min kn f.l.length sn hsl
  have hkp1 : kp ≤ kn := by omega
  have hkp2 : sn + kp ≤ f.l.length := by omega
  have kd : (kn : Int) - (kp : Int) = ((kn - kp : Nat) : Int) := by omega
  have kf := hK.free 0
  have k0 := hK.cell (i := 0) rfl
  rw [hs] at q2
  have HKQ := Lib.hid hkq
  have HS := Lib.hid hs
  have HR := Lib.hid hr; have HX := Lib.hid hx; have HO := Lib.hid ho; have HK := Lib.hid hK; have HL := Lib.hid hL
  have Q3 := Lib.hid q3; have Q4 := Lib.hid q4; have Q1 := Lib.hid q1; have Q2 := Lib.hid q2
  have hj1 : (sn : Int) ≤ (f.l.length : Int) := by omega
  have hj0 : (0 : Int) ≤ (sn : Int) := by omega
  have hj2 : (0 : Int) ≤ (kn : Int) := by omega
  have hj3 : (0 : Int) ≤ (kp : Int) := by omega
  have hj4 : (sn : Int) + (kp : Int) ≤ 9223372036854775807 := by omega
  clear hkp hkq hs hr hx ho hK hL q3 q4
  go_enter Try.func42, Try.ntmps42
  go_wp2_with fail
  go_quiet (fail)
  have k0' : (W.drewN nq).cell? ⟨kb, 0, none⟩ = some (.int .i64 (kn : Int)) := k0
  have kf' : (W.drewN nq).frozen? ⟨kb, 0, none⟩ = false := kf
  obtain ⟨W1, hW1⟩ : ∃ W1, (W.drewN nq).setCell ⟨kb, 0, none⟩ (.int .i64 ((kn - kp : Nat) : Int)) = W1 := ⟨_, rfl⟩
  have p1 : W1.cell? ⟨g, i * 3 + 1, none⟩ = some (.slice f.X f.l.length f.c) := by rw [← hW1]; exact (World.cell?_of_block (w := W) (Below.heap_setCell (W.drewN nq) _ _ g hgk)).trans Q1.out
  have p2 : W1.cell? ⟨g, i * 3 + 2, none⟩ = some (.int .i64 (sn : Int)) := by rw [← hW1]; exact (World.cell?_of_block (w := W) (Below.heap_setCell (W.drewN nq) _ _ g hgk)).trans Q2.out
  have p3 : W1.frozen? ⟨g, i * 3 + 1, none⟩ = false := by rw [← hW1]; exact (World.frozen?_of_block (w := W) (Below.heap_setCell (W.drewN nq) _ _ g hgk)).trans Q3.out
  have p4 : W1.frozen? ⟨g, i * 3 + 2, none⟩ = false := by rw [← hW1]; exact (World.frozen?_of_block (w := W) (Below.heap_setCell (W.drewN nq) _ _ g hgk)).trans Q4.out
  have ns := shorten_any g i (sn + kp) f W1 p1 (by rw [HS.out]; exact p2) p3 p4 hkp2 hle hcap (fun h => (HO.out.noA h).2)
  rw [Int.natCast_add] at ns
  have NS := Lib.hid ns
  have HW1 := Lib.hid hW1
  clear ns
  go_wp2_with fail
  refine NS.out.mono ?_
  rintro e w' ⟨rfl, hw'⟩
  -- behind the cut
  have e1 : w'.cell? ⟨g, i * 3 + 1, none⟩ = some (.slice f.X (sn + kp) (sn + kp)) := by
    rw [hw']
    unfold cutW
    rw [World.cell?_setCell_other _ _ _ _ (fun h => by injection h with _ h; omega)]
    exact World.cell?_setCell_same' _ _ _ (by rw [show W1.drew.cell? ⟨g, i * 3 + 1, none⟩ = _ from p1]; rfl)
  have e2 : ∃ v, w'.cell? ⟨g, i * 3 + 2, none⟩ = some v := ⟨_, by
    rw [hw']
    unfold cutW
    exact World.cell?_setCell_same' _ _ _ (by rw [World.cell?_setCell_other _ _ _ _ (fun h => by injection h with _ h; omega), show W1.drew.cell? ⟨g, i * 3 + 2, none⟩ = _ from p2]; rfl)⟩
  have e4 : w'.frozen? ⟨g, i * 3 + 2, none⟩ = false := by rw [hw']; unfold cutW; rw [World.frozen?_setCell, World.frozen?_setCell]; exact p4
  have hfar : ∀ b, b ≠ g → b ≠ kb → w'.heap[b]? = W.heap[b]? := fun b h1 h2 => by
    rw [hw', ← HW1.out]
    exact (Below.heap_setCell _ _ _ _ h1).trans ((Below.heap_setCell _ _ _ _ h1).trans (Below.heap_setCell (W.drewN nq) _ _ _ h2))
  obtain ⟨e2v, e2⟩ := e2
  have HW' := Lib.hid hw'
  have HFAR := Lib.hid hfar
  have lf := (show Blk w' lb 64 #[.pointer P] from (hfar lb (fun h => hgl h.symm) (fun h => hkl h.symm)).trans HL.out)
  have HLF := Lib.hid lf
  have l0 := lf.cell (i := 0) rfl
  have lfz := lf.free 0
  clear hw' hfar p1 p2 p3 p4 q1 q2 hW1 NS lf
  have hm1 : (f.l.take (sn + kp)).length = sn + kp := by rw [List.length_take]; omega
  have CORE := Lib.hid (fun (W5 : World) (hW5 : W5 = w'.setCell ⟨g, i * 3 + 2, none⟩ (.int .i64 ((sn : Int) + (kp : Int)))) =>
    (show Blk W5 kb 3 #[.int .i64 ((kn - kp : Nat) : Int)] ∧ Blk W5 lb 64 #[.pointer P] ∧ Below 0 W W5 ∧ W5.ownsRow (n0 + 2) 43 3 (.slice (some ⟨g, 0, none⟩) N cap) N (fCells (Lk.set i { f with l := f.l.take (sn + kp), c := sn + kp, s := ((sn + kp : Nat) : Int) })) ∧
        OwnB W5 (n0 + 2) 5 { f with l := f.l.take (sn + kp), c := sn + kp, s := ((sn + kp : Nat) : Int) } ∧ (∀ b, b ≠ g → b ≠ kb → b ≠ lb → W5.heap[b]? = W.heap[b]?) from by
      have hi := (List.getElem?_eq_some_iff.1 HX.out).1
      have hnb : f.blk ≠ some g := HO.out.off_row HR.out (by decide)
      have hr1 : W1.ownsRow (n0 + 2) 43 3 (.slice (some ⟨g, 0, none⟩) N cap) N (fCells Lk) := own_stays HR.out (fun k hk => by
        have : g = k := by injection hk
        subst this
        rw [← HW1.out]
        exact Below.heap_setCell (W.drewN nq) _ _ _ hgk)
      have ho1 : OwnB W1 (n0 + 2) 5 f := HO.out.stays (fun k hk => by
        rw [← HW1.out]
        exact Below.heap_setCell (W.drewN nq) _ _ _ (fun e => hfk (by rw [hk]; exact congrArg some e)))
      have hc := chgd_cut (n0 := n0) (N := N) (cap := cap) (g := g) (i := i) (J := fun _ _ => True) (done := []) (W := W1) (sn + kp) hkp2 trivial hr1 HX.out ho1
      have hfx : (Lk.set i (f.cut (sn + kp)))[i]? = some (f.cut (sn + kp)) := List.getElem?_set_self hi
      have hr2 : w'.ownsRow (n0 + 2) 43 3 (.slice (some ⟨g, 0, none⟩) N cap) N (fCells (Lk.set i (f.cut (sn + kp)))) := by rw [HW'.out]; exact hc.row
      have ho2 : OwnB w' (n0 + 2) 5 (f.cut (sn + kp)) := by rw [HW'.out]; exact hc.own
      have hr3 := row_put2 hr2 hfx ((sn + kp : Nat) : Int)
      rw [List.set_set] at hr3
      have hk5 : ∀ b, b ≠ g → W5.heap[b]? = w'.heap[b]? := fun b hb => by rw [hW5]; exact Below.heap_setCell _ _ _ _ hb
      have hkk : Blk w' kb 3 #[.int .i64 ((kn - kp : Nat) : Int)] := by
        have h1 : Blk W1 kb 3 #[.int .i64 ((kn - kp : Nat) : Int)] := by rw [← HW1.out]; exact (HK.out.drewN nq).put 0 _
        refine Eq.trans ?_ h1
        rw [HW'.out]
        exact (Below.heap_setCell _ _ _ _ (fun h => hgk h.symm)).trans (Below.heap_setCell _ _ _ _ (fun h => hgk h.symm))
      refine ⟨(hk5 kb (fun h => hgk h.symm)).trans hkk, (hk5 lb (fun h => hgl h.symm)).trans HLF.out, ?_, ?_, ?_, fun b h1 h2 _ => (hk5 b h1).trans (HFAR.out b h1 h2)⟩
      · rw [hW5, HW'.out, ← HW1.out]
        exact ((cutW_below (g := g) (n0 := 0) (Nat.zero_le _)) |> fun h => (((below_drewN (Below.refl 0 W) nq).setCell (p := ⟨kb, 0, none⟩) (Nat.zero_le _) _).trans h)).setCell (p := ⟨g, i * 3 + 2, none⟩) (Nat.zero_le _) _
      · rw [hW5]; exact hr3
      · rw [hW5]; exact ((ho2.num f.num ((sn + kp : Nat) : Int)).far (p := ⟨g, i * 3 + 2, none⟩) (by show f.blk ≠ some g; exact hnb) _)))
  have FI := Lib.hid (show ({ f with l := f.l.take (sn + kp), c := sn + kp, s := ((sn + kp : Nat) : Int) } : Fc).fi = Dk.crs1 kn f.fi from by
    unfold Dk.crs1
    rw [HKQ.out, show f.fi.2.2.toNat = sn from by show f.s.toNat = sn; rw [HS.out]; omega]
    rfl)
  by_cases hz : 0 < kp
  · have dz : decide ((0 : Int) < (kp : Int)) = true := decide_eq_true (by omega)
    obtain ⟨b, hb⟩ : ∃ b, f.X = some ⟨b, 0, none⟩ := by
      cases hXX : f.X with
      | none => have := (HO.out.noA hXX).1; omega
      | some a =>
        obtain ⟨b, cur, rfl, -⟩ := HO.out.at_ a hXX
        exact ⟨b, rfl⟩
    obtain ⟨W5, hW5⟩ : ∃ W5, w'.setCell ⟨g, i * 3 + 2, none⟩ (.int .i64 ((sn : Int) + (kp : Int))) = W5 := ⟨_, rfl⟩
    obtain ⟨u1, u2, u3, u4, u5, u6⟩ := CORE.out W5 hW5.symm
    have c1 := (row_cells u4 (List.getElem?_set_self (List.getElem?_eq_some_iff.1 HX.out).1)).2.1
    dsimp only at c1
    rw [hm1, hb] at c1
    have c1' : W5.drew.cell? ⟨g, i * 3 + 1, none⟩ = some (.slice (some ⟨b, 0, none⟩) (sn + kp) (sn + kp)) := c1
    have x0 : W5.drew.cell? ⟨lb, 0, none⟩ = _ := u2.cell (i := 0) rfl
    have xf : W5.drew.frozen? ⟨lb, 0, none⟩ = false := u2.free 0
    have hp1 : (1 : Int) ≤ (sn : Int) + (kp : Int) := by omega
    have hp2 : (0 : Int) ≤ (sn : Int) + (kp : Int) - 1 := by omega
    have hp3 : (sn : Int) + (kp : Int) - 1 < (sn : Int) + (kp : Int) := by omega
    have hp4 : IntKind.i64.wrap ((sn : Int) + (kp : Int) - 1) = (sn : Int) + (kp : Int) - 1 := IntWalk.i64_in _ (by omega)
    have hp5 : ((sn : Int) + (kp : Int) - 1).toNat = sn + kp - 1 := by omega
    have U1 := Lib.hid u1; have U2 := Lib.hid u2; have U3 := Lib.hid u3; have U4 := Lib.hid u4; have U5 := Lib.hid u5; have U6 := Lib.hid u6
    have HB := Lib.hid hb
    clear u1 u2 u3 u4 u5 u6 c1 hm1 hb
    have FIN := Lib.hid (show CrP n0 N cap g i kb lb kn P Lk f { f with l := f.l.take (sn + kp), c := sn + kp, s := ((sn + kp : Nat) : Int) } W (W5.setCell ⟨lb, 0, none⟩ (.pointer (some ⟨b, sn + kp - 1, none⟩))).drew from
      ⟨FI.out, by rw [HKQ.out]; exact Blk.drew (U1.out.far (p := ⟨lb, 0, none⟩) hkl _), ⟨some ⟨b, sn + kp - 1, none⟩, Blk.drew (U2.out.put 0 _), .inr ⟨by rw [HKQ.out]; exact hz, b, HB.out, by show 0 < (f.l.take (sn + kp)).length; rw [List.length_take]; omega, by
        show some (⟨b, sn + kp - 1, none⟩ : Addr) = some ⟨b, (f.l.take (sn + kp)).length - 1, none⟩
        rw [List.length_take, Nat.min_eq_left hkp2]⟩⟩, by simpa using U3.out.size,
        own_stays U4.out (fun k hk => by
          have : g = k := by injection hk
          subst this
          exact Below.heap_setCell W5 _ _ g hgl), (U5.out.far (p := ⟨lb, 0, none⟩) hfl _).stays (fun _ _ => rfl), rfl, (fun b' h1 h2 h3 => (Below.heap_setCell W5 _ _ b' h3).trans (U6.out b' h1 h2 h3)), U3.out.os, U3.out.tape, U3.out.output⟩)
    go_wp2_with fail
    go_region
    all_goals
      go_end0
      exact ⟨rfl, _, FIN.out⟩
  · have dz : decide ((0 : Int) < (kp : Int)) = false := decide_eq_false (by omega)
    have hkz := Lib.hid (show kp = 0 by omega)
    clear hm1
    go_wp2_with fail
    obtain ⟨u1, u2, u3, u4, u5, u6⟩ := CORE.out _ rfl
    have FIN := Lib.hid (show CrP n0 N cap g i kb lb kn P Lk f { f with l := f.l.take (sn + kp), c := sn + kp, s := ((sn + kp : Nat) : Int) } W _ from
      ⟨FI.out, by rw [HKQ.out]; exact u1, ⟨P, u2, .inl ⟨by rw [HKQ.out]; exact hkz.out, rfl⟩⟩, u3.size, u4, u5, rfl, u6, u3.os, u3.tape, u3.output⟩)
    go_end0
    exact ⟨rfl, _, FIN.out⟩
end Go.Proofs.Ytgjcpdcepmgafaa
