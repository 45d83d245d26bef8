/-
  What wire's readVector, readSet and readNote answer.
  What telltaleref06's empty and SameBody answer.
  Lists of notes in memory; what telltaleref04's All answers.
  What wire's readList answers, for notes.
-/
import Derived.Test.YtbbmngabbbehcaaG15
import Derived.Test.YtbbmngabbbehcaaG14
import Derived.Lib.QuietBelow
namespace Go.Proofs.Ytbbmngabbbehcaa
open Go.RowKit

/-- A note whose four lists lie in memory of the call's own. -/
structure NoteOwn (w : World) (base : Nat) (S E B V : Option Addr) (cs ce cb cv : Nat) (n : Note) : Prop where
  s : w.ownsRow base 61 2 (.slice S n.s.length cs) n.s.length (stCells n.s)
  e : w.ownsRow base 61 2 (.slice E n.e.length ce) n.e.length (stCells n.e)
  b : w.ownsRow base 95 2 (.slice B n.b.length cb) n.b.length (stCells n.b)
  v : w.ownsRow base 101 4 (.slice V n.ws.length cv) n.ws.length (Nt.wrCells n.ws)
section
variable {w w1 : World} {base : Nat} {S E B V : Option Addr} {cs ce cb cv : Nat} {n : Note}
theorem NoteOwn.only {g : Nat} (h : NoteOwn w base S E B V cs ce cb cv n) (ho : Only g w w1) (hg : g < base) : NoteOwn w1 base S E B V cs ce cb cv n := ⟨ho.own h.s hg, ho.own h.e hg, ho.own h.b hg, ho.own h.v hg⟩
theorem NoteOwn.set (h : NoteOwn w base S E B V cs ce cb cv n) {k : Nat} (hk : k < base) (i : Nat) (u : Value) : NoteOwn (w.setCell ⟨k, i, none⟩ u) base S E B V cs ce cb cv n := ⟨own_set h.s hk i u, own_set h.e hk i u, own_set h.b hk i u, own_set h.v hk i u⟩
theorem NoteOwn.down {base' : Nat} (h : NoteOwn w base S E B V cs ce cb cv n) (hb : base' ≤ base) : NoteOwn w base' S E B V cs ce cb cv n := ⟨own_base h.s hb, own_base h.e hb, own_base h.b hb, own_base h.v hb⟩
theorem NoteOwn.later (h : NoteOwn w base S E B V cs ce cb cv n) (hb : Below w.heap.size w w1) : NoteOwn w1 base S E B V cs ce cb cv n := ⟨own_later h.s hb, own_later h.e hb, own_later h.b hb, own_later h.v hb⟩
theorem oneL_own {t : TypeId} {l : List (Int × Int)} {A : Option Addr} {c : Nat} (h : w.ownsRow base t 2 (.slice A l.length c) l.length (stCells l)) : OneL w A c l := by
  obtain ⟨A', c', hv, ho⟩ := OneL.of_own h
  cases hv
  exact ho
theorem oneW_own {t : TypeId} {l : List Wr} {A : Option Addr} {c : Nat} (h : w.ownsRow base t 4 (.slice A l.length c) l.length (Nt.wrCells l)) : OneW w A c l := by
  obtain ⟨A', c', hv, ho⟩ := OneW.of_own h
  cases hv
  exact ho
theorem NoteOwn.at (h : NoteOwn w base S E B V cs ce cb cv n) : NoteAt w S E B V cs ce cb cv n := ⟨oneL_own h.s, oneL_own h.e, oneL_own h.b, oneW_own h.v⟩
end
namespace Wi
/-- A note's bytes, read, formed or not. -/
def pnotr (l : List Int) (a : Nat) : Option (Note × Nat) := (plistm 64 (pst l) l a).bind fun s => (plistm 64 (pst l) l s.2).bind fun e => (plistm 128 (ptwo l) l e.2).bind fun b => (plistm 256 (pwr l) l b.2).map fun v => ((⟨s.1, e.1, b.1, v.1⟩ : Note), v.2)
theorem pnotr_nxt {l : List Int} {s0 : Option Nat} {s e b : List (Int × Int)} {ws : List Wr} (hs : Got (plistm 64 (pst l) l) s0 s) (he : Got (plistm 64 (pst l) l) (nxt (plistm 64 (pst l) l) s0) e) (hb : Got (plistm 128 (ptwo l) l) (nxt (plistm 64 (pst l) l) (nxt (plistm 64 (pst l) l) s0)) b)
    (hw : Got (plistm 256 (pwr l) l) (nxt (plistm 128 (ptwo l) l) (nxt (plistm 64 (pst l) l) (nxt (plistm 64 (pst l) l) s0))) ws) :
    nxt (pnotr l) s0 = nxt (plistm 256 (pwr l) l) (nxt (plistm 128 (ptwo l) l) (nxt (plistm 64 (pst l) l) (nxt (plistm 64 (pst l) l) s0))) ∧ Got (pnotr l) s0 ⟨s, e, b, ws⟩ := by
  have g3 := got_map (p := plistm 256 (pwr l) l) (f := fun v => (⟨s, e, b, v⟩ : Note)) hw
  have g2 := got_bind (p := plistm 128 (ptwo l) l) (x := b) (q := fun b' a => (plistm 256 (pwr l) l a).map fun v => ((⟨s, e, b', v.1⟩ : Note), v.2)) hb g3
  have g1 := got_bind (p := plistm 64 (pst l) l) (x := e) (q := fun e' a => (plistm 128 (ptwo l) l a).bind fun b => (plistm 256 (pwr l) l b.2).map fun v => ((⟨s, e', b.1, v.1⟩ : Note), v.2)) he g2
  have g0 := got_bind (p := plistm 64 (pst l) l) (x := s) (q := fun s' a => (plistm 64 (pst l) l a).bind fun e => (plistm 128 (ptwo l) l e.2).bind fun b => (plistm 256 (pwr l) l b.2).map fun v => ((⟨s', e.1, b.1, v.1⟩ : Note), v.2)) hs g1
  refine ⟨?_, g0⟩
  exact (nxt_bind (p := plistm 64 (pst l) l) (x := s) (q := fun s' a => (plistm 64 (pst l) l a).bind fun e => (plistm 128 (ptwo l) l e.2).bind fun b => (plistm 256 (pwr l) l b.2).map fun v => ((⟨s', e.1, b.1, v.1⟩ : Note), v.2)) hs).trans
    ((nxt_bind (p := plistm 64 (pst l) l) (x := e) (q := fun e' a => (plistm 128 (ptwo l) l a).bind fun b => (plistm 256 (pwr l) l b.2).map fun v => ((⟨s, e', b.1, v.1⟩ : Note), v.2)) he).trans
      ((nxt_bind (p := plistm 128 (ptwo l) l) (x := b) (q := fun b' a => (plistm 256 (pwr l) l a).map fun v => ((⟨s, e, b', v.1⟩ : Note), v.2)) hb).trans nxt_map))
end Wi
/-- What a note that was read is: its numbers can be laid again, and it has no more than there may be. -/
structure NoteSm (n : Note) : Prop where
  fit : Wi.fitN n
  s : n.s.length ≤ 64
  e : n.e.length ≤ 64
  b : n.b.length ≤ 128
  v : n.ws.length ≤ 256
/-- A note was read. -/
def DNot (g : Nat) (l : List Int) (s : Option Nat) (w : World) (en : Ending) (w' : World) : Prop :=
  ∃ S E B V cs ce cb cv n, en = .returned (.agg (noteCells S E B V cs ce cb cv n)) ∧ NoteSm n ∧ NoteOwn w' w.heap.size S E B V cs ce cb cv n ∧ DRd w' g l (Wi.nxt (Wi.pnotr l) s) ∧ Only g w w' ∧ Wi.Got (Wi.pnotr l) s n
theorem infoNt4 : (Try.prog.info? 51).map (·.size) = some 4 := by kernel_rfl

set_option maxHeartbeats 1600000 in
theorem drvec_any (g : Nat) (l : List Int) (s : Option Nat) (w : World) (h : DRd w g l s) :
    Calls Try.prog 53 #[.pointer (some ⟨g, 0, none⟩)] w (DLst 61 2 stCells (fun s : Int × Int => Wi.fit s.1 ∧ Wi.fit s.2) (Wi.plistm 64 (Wi.pst l) l) 64 g l s w) := by
  have CN := Lib.hid (drlst_any 64 g (by decide) l s w h)
  clear h
  go_enter Try.func53, Try.ntmps53
  go_wp2_with fail
  refine CN.out.mono ?_
  rintro e w1 ⟨v, x, rfl, h1, h2, h3, h4, h5, h6⟩
  have H := Lib.hid (show DLst 61 2 stCells (fun s : Int × Int => Wi.fit s.1 ∧ Wi.fit s.2) (Wi.plistm 64 (Wi.pst l) l) 64 g l s w (.returned v) w1 from ⟨v, x, rfl, h1, h2, h3, h4, h5, h6⟩)
  clear h1 h2 h3 h4 h5 h6 CN
  go_wp2
  go_ret
  exact H.out

set_option maxHeartbeats 1600000 in
theorem drset_any (g : Nat) (l : List Int) (s : Option Nat) (w : World) (h : DRd w g l s) :
    Calls Try.prog 60 #[.pointer (some ⟨g, 0, none⟩)] w (DLst 95 2 stCells (fun s : Int × Int => Wi.fit s.1 ∧ Wi.fit s.2) (Wi.plistm 128 (Wi.ptwo l) l) 128 g l s w) := by
  have CN := Lib.hid (drlsp_any 128 g (by decide) l s w h)
  clear h
  go_enter Try.func60, Try.ntmps60
  go_wp2_with fail
  refine CN.out.mono ?_
  rintro e w1 ⟨v, x, rfl, h1, h2, h3, h4, h5, h6⟩
  have H := Lib.hid (show DLst 95 2 stCells (fun s : Int × Int => Wi.fit s.1 ∧ Wi.fit s.2) (Wi.plistm 128 (Wi.ptwo l) l) 128 g l s w (.returned v) w1 from ⟨v, x, rfl, h1, h2, h3, h4, h5, h6⟩)
  clear h1 h2 h3 h4 h5 h6 CN
  go_wp2
  go_ret
  exact H.out

set_option maxRecDepth 100000 in
set_option maxHeartbeats 6400000 in
theorem drnote_any (g : Nat) (l : List Int) (s : Option Nat) (w : World) (h : DRd w g l s) :
    Calls Try.prog 68 #[.pointer (some ⟨g, 0, none⟩)] w (DNot g l s w) := by
  have hgl := h.lt
  obtain ⟨n0, hn0⟩ : ∃ n0, w.heap.size = n0 := ⟨_, rfl⟩
  obtain ⟨W, hW⟩ : ∃ W, (w.alloc (.cells #[.slice none 0 0, .slice none 0 0, .slice none 0 0, .slice none 0 0] 51)).alloc (.cells #[.slice none 0 0, .slice none 0 0, .slice none 0 0, .slice none 0 0] 51) = W := ⟨_, rfl⟩
  have hb0 : Below w.heap.size w W := by rw [← hW]; exact below_new (below_new (Below.refl _ _) _) _
  have hK2 : Blk W n0 51 #[.slice none 0 0, .slice none 0 0, .slice none 0 0, .slice none 0 0] := by rw [← hW, ← hn0]; exact (Blk.new w _ _).alloc _
  have hK3 : Blk W (n0 + 1) 51 #[.slice none 0 0, .slice none 0 0, .slice none 0 0, .slice none 0 0] := by rw [← hW, ← hn0]; simpa using Blk.new (w.alloc (.cells #[.slice none 0 0, .slice none 0 0, .slice none 0 0, .slice none 0 0] 51)) 51 #[.slice none 0 0, .slice none 0 0, .slice none 0 0, .slice none 0 0]
  have hWs : W.heap.size = n0 + 2 := by rw [← hW, ← hn0]; simp
  have HW := Lib.hid hW; have HN := Lib.hid hn0
  have hnw : w.heap.size ≤ n0 := by omega
  have hnw1 : w.heap.size ≤ n0 + 1 := by omega
  have hg0 : g < n0 := by omega
  have hg1 : g < n0 + 1 := by omega
  have hWz : n0 + 2 ≤ W.heap.size := by omega
  have o0 := Only.of_below g hb0
  have d0 := h.later hb0
  clear hW h hn0 hb0 hWs
  go_enter Try.func68, Try.ntmps68
  have CK := Lib.hid (drvec_any g l s W d0)
  have K2 := Lib.hid hK2; have K3 := Lib.hid hK3; have O := Lib.hid o0
  clear hK2 hK3 o0 d0
  go_wp2_with fail
  rw [HW.out]
  try rw [HN.out]
  refine CK.out.mono ?_
  rintro e w1 ⟨v1, x1, rfl, hx1, fx1, hrow, hd, ho, hgot⟩
  obtain ⟨A1, c1, hv, -⟩ := own_form hrow
  subst hv
  have hsz := ho.size
  have k2 := ho.blk K2.out (show n0 ≠ g by omega); have k3 := ho.blk K3.out (show n0 + 1 ≠ g by omega)
  have r1 := own_base hrow (show n0 + 2 ≤ _ by first | exact hWz | omega)
  have HX1 := Lib.hid (And.intro hx1 fx1); have GT1 := Lib.hid hgot
  clear hx1 fx1 hrow hgot
  have dd := hd.set hg1 0 (.slice A1 x1.length c1)
  have oo := (O.out.on ho).setNew hnw1 0 (.slice A1 x1.length c1)
  have R1 := Lib.hid (own_set r1 (show n0 + 1 < n0 + 2 by omega) 0 (.slice A1 x1.length c1))
  have t0 := k3.free 0; have z0 := k3.cell (i := 0) rfl
  have K21 := Lib.hid (k2.far (p := ⟨n0 + 1, 0, none⟩) (show n0 ≠ n0 + 1 by omega) (.slice A1 x1.length c1)); have K31 := Lib.hid (k3.put 0 (.slice A1 x1.length c1)); have O1 := Lib.hid oo
  have CK := Lib.hid (drvec_any g l _ _ dd)
  have hWz1 : n0 + 2 ≤ (w1.setCell ⟨n0 + 1, 0, none⟩ (.slice A1 x1.length c1)).heap.size := by simp; omega
  clear hd ho dd oo k2 k3 hsz r1
  go_wp2_with fail
  refine CK.out.mono ?_
  rintro e w2 ⟨v2, x2, rfl, hx2, fx2, hrow, hd, ho, hgot⟩
  obtain ⟨A2, c2, hv, -⟩ := own_form hrow
  subst hv
  have hsz := ho.size
  have k2 := ho.blk K21.out (show n0 ≠ g by omega); have k3 := ho.blk K31.out (show n0 + 1 ≠ g by omega)
  have r2 := own_base hrow (show n0 + 2 ≤ _ by first | exact hWz | omega)
  have HX2 := Lib.hid (And.intro hx2 fx2); have GT2 := Lib.hid hgot
  clear hx2 fx2 hrow hgot
  have r1 := ho.own R1.out (show g < n0 + 2 by omega)
  have dd := hd.set hg1 1 (.slice A2 x2.length c2)
  have oo := (O1.out.on ho).setNew hnw1 1 (.slice A2 x2.length c2)
  have R1 := Lib.hid (own_set r1 (show n0 + 1 < n0 + 2 by omega) 1 (.slice A2 x2.length c2))
  have R2 := Lib.hid (own_set r2 (show n0 + 1 < n0 + 2 by omega) 1 (.slice A2 x2.length c2))
  have t1 := k3.free 1; have z1 := k3.cell (i := 1) rfl
  have K22 := Lib.hid (k2.far (p := ⟨n0 + 1, 1, none⟩) (show n0 ≠ n0 + 1 by omega) (.slice A2 x2.length c2)); have K32 := Lib.hid (k3.put 1 (.slice A2 x2.length c2)); have O2 := Lib.hid oo
  have CK := Lib.hid (drset_any g l _ _ dd)
  have hWz2 : n0 + 2 ≤ (w2.setCell ⟨n0 + 1, 1, none⟩ (.slice A2 x2.length c2)).heap.size := by simp; omega
  clear hd ho dd oo k2 k3 hsz r1 r2 t0 z0
  go_wp2_with fail
  refine CK.out.mono ?_
  rintro e w3 ⟨v3, x3, rfl, hx3, fx3, hrow, hd, ho, hgot⟩
  obtain ⟨A3, c3, hv, -⟩ := own_form hrow
  subst hv
  have hsz := ho.size
  have k2 := ho.blk K22.out (show n0 ≠ g by omega); have k3 := ho.blk K32.out (show n0 + 1 ≠ g by omega)
  have r3 := own_base hrow (show n0 + 2 ≤ _ by first | exact hWz | omega)
  have HX3 := Lib.hid (And.intro hx3 fx3); have GT3 := Lib.hid hgot
  clear hx3 fx3 hrow hgot
  have r1 := ho.own R1.out (show g < n0 + 2 by omega)
  have r2 := ho.own R2.out (show g < n0 + 2 by omega)
  have dd := hd.set hg1 2 (.slice A3 x3.length c3)
  have oo := (O2.out.on ho).setNew hnw1 2 (.slice A3 x3.length c3)
  have R1 := Lib.hid (own_set r1 (show n0 + 1 < n0 + 2 by omega) 2 (.slice A3 x3.length c3))
  have R2 := Lib.hid (own_set r2 (show n0 + 1 < n0 + 2 by omega) 2 (.slice A3 x3.length c3))
  have R3 := Lib.hid (own_set r3 (show n0 + 1 < n0 + 2 by omega) 2 (.slice A3 x3.length c3))
  have t2 := k3.free 2; have z2 := k3.cell (i := 2) rfl
  have K23 := Lib.hid (k2.far (p := ⟨n0 + 1, 2, none⟩) (show n0 ≠ n0 + 1 by omega) (.slice A3 x3.length c3)); have K33 := Lib.hid (k3.put 2 (.slice A3 x3.length c3)); have O3 := Lib.hid oo
  have CK := Lib.hid (drlwr_any 256 g (by decide) l _ _ dd)
  have hWz3 : n0 + 2 ≤ (w3.setCell ⟨n0 + 1, 2, none⟩ (.slice A3 x3.length c3)).heap.size := by simp; omega
  clear hd ho dd oo k2 k3 hsz r1 r2 r3 t1 z1
  go_wp2_with fail
  refine CK.out.mono ?_
  rintro e w4 ⟨v4, x4, rfl, hx4, fx4, hrow, hd, ho, hgot⟩
  obtain ⟨A4, c4, hv, -⟩ := own_form hrow
  subst hv
  have hsz := ho.size
  have k2 := ho.blk K23.out (show n0 ≠ g by omega); have k3 := ho.blk K33.out (show n0 + 1 ≠ g by omega)
  have r4 := own_base hrow (show n0 + 2 ≤ _ by first | exact hWz | omega)
  have HX4 := Lib.hid (And.intro hx4 fx4); have GT4 := Lib.hid hgot
  clear hx4 fx4 hrow hgot
  have r1 := ho.own R1.out (show g < n0 + 2 by omega)
  have r2 := ho.own R2.out (show g < n0 + 2 by omega)
  have r3 := ho.own R3.out (show g < n0 + 2 by omega)
  obtain ⟨e1, e2⟩ := Wi.pnotr_nxt GT1.out GT2.out GT3.out GT4.out
  have y0 := k3.cell (i := 0) rfl; have y1 := k3.cell (i := 1) rfl; have y2 := k3.cell (i := 2) rfl; have y3 := k3.cell (i := 3) rfl
  have u3 := k3.free 3
  have f0 := k2.free 0; have f1 := k2.free 1; have f2 := k2.free 2; have f3 := k2.free 3
  have m0 := k2.cell (i := 0) rfl; have m1 := k2.cell (i := 1) rfl; have m2 := k2.cell (i := 2) rfl; have m3 := k2.cell (i := 3) rfl
  have v1 := k2.far (p := ⟨n0 + 1, 3, none⟩) (show n0 ≠ n0 + 1 by omega) (.slice A4 x4.length c4)
  have v2 := (((v1.put 0 (.slice A1 x1.length c1)).put 1 (.slice A2 x2.length c2)).put 2 (.slice A3 x3.length c3)).put 3 (.slice A4 x4.length c4)
  have dd := ((((hd.set hg1 3 (.slice A4 x4.length c4)).set hg0 0 (.slice A1 x1.length c1)).set hg0 1 (.slice A2 x2.length c2)).set hg0 2 (.slice A3 x3.length c3)).set hg0 3 (.slice A4 x4.length c4)
  have oo := (((((O3.out.on ho).setNew hnw1 3 (.slice A4 x4.length c4)).setNew hnw 0 (.slice A1 x1.length c1)).setNew hnw 1 (.slice A2 x2.length c2)).setNew hnw 2 (.slice A3 x3.length c3)).setNew hnw 3 (.slice A4 x4.length c4)
  have nn : NoteOwn _ (n0 + 2) A1 A2 A3 A4 c1 c2 c3 c4 (⟨x1, x2, x3, x4⟩ : Note) := ⟨r1, r2, r3, r4⟩
  have nn := (((((nn.set (show n0 + 1 < n0 + 2 by omega) 3 (.slice A4 x4.length c4)).set (show n0 < n0 + 2 by omega) 0 (.slice A1 x1.length c1)).set (show n0 < n0 + 2 by omega) 1 (.slice A2 x2.length c2)).set (show n0 < n0 + 2 by omega) 2 (.slice A3 x3.length c3)).set (show n0 < n0 + 2 by omega) 3 (.slice A4 x4.length c4)).down (show w.heap.size ≤ n0 + 2 by omega)
  have V2 := Lib.hid v2; have DD := Lib.hid dd; have OO := Lib.hid oo; have NN := Lib.hid nn; have E1 := Lib.hid e1; have E2 := Lib.hid e2
  clear k2 k3 v1 v2 dd oo nn r1 r2 r3 r4 hd ho hsz e1 e2 CK t2 z2
  go_wp2
  exact bodyPost_ret (v := .agg (noteCells A1 A2 A3 A4 c1 c2 c3 c4 (⟨x1, x2, x3, x4⟩ : Note))) (results_cell_row rfl _ _ n0 51 (noteCells A1 A2 A3 A4 c1 c2 c3 c4 (⟨x1, x2, x3, x4⟩ : Note)) (0, 0) _ rfl V2.out Try.underlying51 rfl infoNt4) rfl
    ⟨A1, A2, A3, A4, c1, c2, c3, c4, (⟨x1, x2, x3, x4⟩ : Note), rfl, ⟨⟨HX1.out.2, HX2.out.2, HX3.out.2, HX4.out.2⟩, HX1.out.1, HX2.out.1, HX3.out.1, HX4.out.1⟩, NN.out, by rw [E1.out]; exact DD.out, OO.out, E2.out⟩

end Go.Proofs.Ytbbmngabbbehcaa
namespace Go.Proofs.Ytbbmngabbbehcaa
open Go.RowKit

set_option maxHeartbeats 3200000 in
theorem bempty_any (D : Option Addr) (d : Nat) (x : Bd) (w : World) :
    Calls Try.prog 81 #[.agg (bdCells D d x)] w (Says (.bool (Wi.bempty x)) w) := by
  obtain ⟨o, c, n, l⟩ := x
  unfold bdCells
  simp only
  have hR := Lib.hid (show Wi.bempty ⟨o, c, n, l⟩ = (decide (c = 0 ∧ n = 0) && decide (l = [])) from rfl)
  have hl : decide (l = []) = decide ((l.length : Int) = 0) := by
    cases l with
    | nil => rfl
    | cons a r => rw [decide_eq_false (by simp), decide_eq_false (by simp; omega)]
  rw [hl] at hR
  by_cases h1 : c = 0
  · by_cases h2 : n = 0
    · subst h1
      subst h2
      by_cases h3 : (l.length : Int) = 0
      · have d3 : decide ((l.length : Int) = 0) = true := decide_eq_true h3
        have hl0 : l = [] := List.eq_nil_of_length_eq_zero (by omega)
        subst hl0
        clear h3 d3 hl
        go_enter Try.func81, Try.ntmps81
        go_wp2
        go_ret
        exact ⟨by rw [hR.out]; rfl, by repeat (first | exact Below.refl _ _ | exact below_new (Below.refl _ _) _)⟩
      · have d3 : decide ((l.length : Int) = 0) = false := decide_eq_false h3
        clear hl
        go_enter Try.func81, Try.ntmps81
        go_wp2
        go_ret
        exact ⟨by rw [hR.out, d3]; first | rfl | (simp; done) | (simp; intro e; subst e; simp at h3), below_new (Below.refl _ _) _⟩
    · have d1 : decide (c = 0 ∧ n = 0) = false := decide_eq_false (fun h => h2 h.2)
      rw [d1] at hR
      clear d1 hl
      subst h1
      have e2 : (n == 0) = false := beq_eq_false_iff_ne.2 h2
      go_enter Try.func81, Try.ntmps81
      go_wp2
      go_ret
      exact ⟨by rw [hR.out]; first | rfl | simp, below_new (Below.refl _ _) _⟩
  · have d1 : decide (c = 0 ∧ n = 0) = false := decide_eq_false (fun h => h1 h.1)
    rw [d1] at hR
    clear d1 hl
    have e1 : (c == 0) = false := beq_eq_false_iff_ne.2 h1
    go_enter Try.func81, Try.ntmps81
    go_wp2
    go_ret
    exact ⟨by rw [hR.out]; first | rfl | simp, below_new (Below.refl _ _) _⟩

set_option maxHeartbeats 3200000 in
theorem bsamebody_any (D D' : Option Addr) (d d' : Nat) (x y : Bd) (w : World) (hx : OneB w D d x.v) (hy : OneB w D' d' y.v) :
    Calls Try.prog 36 #[.agg (bdCells D d x), .agg (bdCells D' d' y)] w (Says (.bool (Wi.bsame x y)) w) := by
  obtain ⟨o, c, n, l⟩ := x
  obtain ⟨o', c', n', l'⟩ := y
  unfold bdCells
  simp only at hx hy ⊢
  obtain ⟨W, hW⟩ : ∃ W, (w.alloc (.cells #[.int .i64 o, .int .i64 c, .int .i64 n, .slice D l.length d] 63)).alloc (.cells #[.int .i64 o', .int .i64 c', .int .i64 n', .slice D' l'.length d'] 63) = W := ⟨_, rfl⟩
  have b1 := below_new (Below.refl w.heap.size w) (.cells #[.int .i64 o, .int .i64 c, .int .i64 n, .slice D l.length d] 63)
  have hb0 : Below w.heap.size w W := by rw [← hW]; exact below_new b1 _
  have NS := Lib.hid (bsame_any D D' d d' l l' W (hx.later hb0) (hy.later hb0))
  have hR := Lib.hid (show Wi.bsame ⟨o, c, n, l⟩ ⟨o', c', n', l'⟩ = (decide (o = o') && (decide (c = c' ∧ n = n') && decide (l = l'))) from rfl)
  obtain ⟨sm, hsm⟩ : ∃ sm, decide (l = l') = sm := ⟨_, rfl⟩
  rw [hsm] at NS hR
  have HW := Lib.hid hW
  clear hW hsm hx hy b1
  by_cases h0 : o = o'
  · subst h0
    by_cases h1 : c = c'
    · subst h1
      by_cases h2 : n = n'
      · subst h2
        go_enter Try.func36, Try.ntmps36
        go_wp2_with fail
        rw [HW.out]
        refine NS.out.mono ?_
        rintro e w1 ⟨rfl, b1⟩
        go_wp2
        go_ret
        exact ⟨by rw [hR.out]; first | rfl | simp, below_on hb0 b1⟩
      · have d1 : decide (c = c ∧ n = n') = false := decide_eq_false (fun h => h2 h.2)
        rw [d1] at hR
        have e2 : (n == n') = false := beq_eq_false_iff_ne.2 h2
        clear d1
        go_enter Try.func36, Try.ntmps36
        go_wp2_with fail
        rw [HW.out]
        go_wp2
        go_ret
        exact ⟨by rw [hR.out]; first | rfl | simp, hb0⟩
    · have d1 : decide (c = c' ∧ n = n') = false := decide_eq_false (fun h => h1 h.1)
      rw [d1] at hR
      have e1 : (c == c') = false := beq_eq_false_iff_ne.2 h1
      clear d1
      go_enter Try.func36, Try.ntmps36
      go_wp2_with fail
      rw [HW.out]
      go_wp2
      go_ret
      exact ⟨by rw [hR.out]; first | rfl | simp, hb0⟩
  · have d0 : decide (o = o') = false := decide_eq_false h0
    rw [d0] at hR
    have e0 : (o == o') = false := beq_eq_false_iff_ne.2 h0
    clear d0
    go_enter Try.func36, Try.ntmps36
    go_wp2_with fail
    rw [HW.out]
    go_wp2
    go_ret
    exact ⟨by rw [hR.out]; first | rfl | simp, hb0⟩

end Go.Proofs.Ytbbmngabbbehcaa
namespace Go.Proofs.Ytbbmngabbbehcaa
open Go.RowKit

def zeroN : Note := ⟨[], [], [], []⟩
/-- A list of notes by value. -/
structure OneN (w : World) (A : Option Addr) (c : Nat) (l : List Note) : Prop where
  le : l.length ≤ c
  cap : c ≤ maxLen
  noA : A = none → l.length = 0 ∧ c = 0
  lies : l ≠ [] → ∃ b off, A = some ⟨b, off, none⟩ ∧ ∀ k, k < l.length → ∃ S E B V cs ce cb cv,
    w.cell? ⟨b, off + k * 4, none⟩ = some (.slice S (l.getD k zeroN).s.length cs) ∧ w.cell? ⟨b, off + k * 4 + 1, none⟩ = some (.slice E (l.getD k zeroN).e.length ce) ∧
    w.cell? ⟨b, off + k * 4 + 2, none⟩ = some (.slice B (l.getD k zeroN).b.length cb) ∧ w.cell? ⟨b, off + k * 4 + 3, none⟩ = some (.slice V (l.getD k zeroN).ws.length cv) ∧ NoteAt w S E B V cs ce cb cv (l.getD k zeroN)
section
variable {w w' : World} {A : Option Addr} {c : Nat} {l : List Note}
theorem OneN.later (h : OneN w A c l) (hb : Below w.heap.size w w') : OneN w' A c l := by
  refine ⟨h.le, h.cap, h.noA, fun hne => ?_⟩
  obtain ⟨b, off, hA, hc⟩ := h.lies hne
  refine ⟨b, off, hA, fun k hk => ?_⟩
  obtain ⟨S, E, B, V, cs, ce, cb, cv, h0, h1, h2, h3, h4⟩ := hc k hk
  exact ⟨S, E, B, V, cs, ce, cb, cv, cell_later hb h0, cell_later hb h1, cell_later hb h2, cell_later hb h3, h4.later hb⟩
theorem OneN.nil (w : World) : OneN w none 0 [] := ⟨Nat.le_refl _, Nat.zero_le _, fun _ => ⟨rfl, rfl⟩, fun h => absurd rfl h⟩
theorem OneN.len (h : OneN w A c l) : l.length ≤ 9223372036854775807 := by
  have h1 := h.le
  have h2 := h.cap
  unfold maxLen at h2
  omega
end
theorem notes_ext {l r : List Note} (h : l.length = r.length) (hk : ∀ k, k < l.length → l.getD k zeroN = r.getD k zeroN) : l = r := by
  apply List.ext_getElem h
  intro i h1 h2
  have := hk i h1
  rw [List.getD_eq_getElem?_getD, List.getD_eq_getElem?_getD, List.getElem?_eq_getElem h1, List.getElem?_eq_getElem h2] at this
  simpa using this
namespace Wi
/-- The same notes, in the same order? -/
noncomputable def nsame (l r : List Note) : Bool := @decide (l = r) (Classical.propDecidable _)
theorem nsame_yes {l r : List Note} (h : l = r) : nsame l r = true := @decide_eq_true _ (Classical.propDecidable _) h
theorem nsame_no {l r : List Note} (h : ¬ l = r) : nsame l r = false := @decide_eq_false _ (Classical.propDecidable _) h
theorem nsame_iff (l r : List Note) : nsame l r = true ↔ l = r := @decide_eq_true_iff _ (Classical.propDecidable _)
end Wi

set_option maxHeartbeats 3200000 in
theorem nall_any (A B : Option Addr) (c1 c2 : Nat) (l r : List Note) (w : World) (h1 : OneN w A c1 l) (h2 : OneN w B c2 r) :
    Calls Try.prog 84 #[.slice A l.length c1, .slice B r.length c2] w (Says (.bool (Wi.nsame l r)) w) := by
  have hl := h1.len
  have H1 := Lib.hid h1
  have H2 := Lib.hid h2
  clear h1 h2
  by_cases hlen : l.length = r.length
  · have hd0 : ((l.length : Int) != (r.length : Int)) = false := by rw [bne_eq_false_iff_eq]; omega
    have HLEN := Lib.hid hlen
    have hr1 : r.length ≤ l.length := by omega
    have hr2 : l.length ≤ r.length := by omega
    clear hlen
    go_enter Try.func84, Try.ntmps84
    go_wp2_with fail
    go_loopw [5] (fun s5 wr => ∃ k : Nat, k ≤ l.length ∧ s5 = .int .i64 (k : Int) ∧ (∀ j, j < k → l.getD j zeroN = r.getD j zeroN) ∧ Below w.heap.size w wr) (fun s5 _ => l.length - (intOf s5).toNat)
    case atStart => exact ⟨0, Nat.zero_le _, rfl, fun j hj => by omega, Below.refl _ _⟩
    case round =>
      obtain ⟨k, hk, rfl, heq, hbw⟩ := hrel
      have HEQ := Lib.hid heq
      clear heq
      by_cases hlt : k < l.length
      · have hne : l ≠ [] := fun e => by subst e; simp at hlt
        have hne2 : r ≠ [] := fun e => by have := HLEN.out; subst e; simp at this; exact hne this
        obtain ⟨b, off, hA, hcA⟩ := (H1.out.later hbw).lies hne
        obtain ⟨b', off', hB, hcB⟩ := (H2.out.later hbw).lies hne2
        obtain ⟨S, E, B1, V, cs, ce, cb, cv, e0, e1, e2, e3, hN⟩ := hcA k hlt
        obtain ⟨S', E', B1', V', cs', ce', cb', cv', f0, f1, f2, f3, hN'⟩ := hcB k (by omega)
        subst hA hB
        obtain ⟨x, hx⟩ : ∃ x, l.getD k zeroN = x := ⟨_, rfl⟩
        obtain ⟨y, hy⟩ : ∃ y, r.getD k zeroN = y := ⟨_, rfl⟩
        rw [hx] at e0 e1 e2 e3 hN
        rw [hy] at f0 f1 f2 f3 hN'
        have hi0 : (0 : Int) ≤ (k : Int) := by omega
        have hi1 : (k : Int) < (l.length : Int) := by omega
        have hi2 : (k : Int) < (r.length : Int) := by omega
        have k0 := fun d os => cell_regrown (d := d) (os := os) e0
        have k1 := fun d os => cell_regrown (d := d) (os := os) e1
        have k2 := fun d os => cell_regrown (d := d) (os := os) e2
        have k3 := fun d os => cell_regrown (d := d) (os := os) e3
        have j0 := fun d os => cell_regrown (d := d) (os := os) f0
        have j1 := fun d os => cell_regrown (d := d) (os := os) f1
        have j2 := fun d os => cell_regrown (d := d) (os := os) f2
        have j3 := fun d os => cell_regrown (d := d) (os := os) f3
        have CN := Lib.hid (fun d os => Calls.regrown_of (nsame_any S E B1 V S' E' B1' V' cs ce cb cv cs' ce' cb' cv' x y (Sort.grow (redrawn wr d) os) (hN.later (below_regrown wr d os)) (hN'.later (below_regrown wr d os))))
        have HX := Lib.hid hx
        have HY := Lib.hid hy
        obtain ⟨sm, hsm⟩ : ∃ sm, sameN x y = sm := ⟨_, rfl⟩
        rw [hsm] at CN
        have HSM := Lib.hid hsm
        clear hx hy hcA hcB e0 e1 e2 e3 f0 f1 f2 f3 hN hN' hsm hne hne2
        go_wp2_with fail
        refine wp_region_quiet_below (by kernel_rfl) (by kernel_rfl) ?_
        repeat (first | go_big_quiet_step (exact CN.out _ _) | quiet_step (exact CN.out _ _))
        refine wpQuiet_nil ?_
        intro _ hw'
        obtain ⟨⟨dq, osq⟩, hw''⟩ := hw'
        subst hw''
        have bq := below_regrown wr dq osq
        cases sm with
        | true =>
          have hxy : x = y := (sameN_iff x y).1 HSM.out
          have HXY := Lib.hid hxy
          clear hxy
          go_wp2_with fail
          go_roundw
          case rel =>
            refine ⟨k + 1, by omega, by first | rfl | go_num | (congr 1; omega), ?_, below_on hbw bq⟩
            intro j hj
            by_cases e : j = k
            · subst e; rw [HX.out, HY.out, HXY.out]
            · exact HEQ.out j (by omega)
          case measure => simp [intOf]; omega
        | false =>
          have hno : Wi.nsame l r = false := Wi.nsame_no (fun e => by
            have h2 : x = y := by rw [← HX.out, ← HY.out, e]
            have h3 := HSM.out
            rw [(sameN_iff x y).2 h2] at h3
            cases h3)
          have HNO := Lib.hid hno
          clear hno
          go_wp2
          go_ret
          exact ⟨by rw [HNO.out]; rfl, below_on hbw bq⟩
      · have hyes : Wi.nsame l r = true := Wi.nsame_yes (notes_ext HLEN.out (fun j hj => HEQ.out j (by omega)))
        have HY := Lib.hid hyes
        clear hyes
        go_wp2
        go_ret
        exact ⟨by rw [HY.out]; rfl, hbw⟩
  · have hd0 : ((l.length : Int) != (r.length : Int)) = true := by rw [bne_iff_ne]; omega
    have HNO := Lib.hid (Wi.nsame_no (l := l) (r := r) (fun e => hlen (by rw [e])))
    go_enter Try.func84, Try.ntmps84
    go_wp2
    go_ret
    exact ⟨by rw [HNO.out]; rfl, Below.refl _ _⟩

end Go.Proofs.Ytbbmngabbbehcaa
namespace Go.Proofs.Ytbbmngabbbehcaa
open Go.RowKit

theorem infoNtL : (Try.prog.info? 51).map (fun i => (i.zero, i.size, i.bytes)) = some (some (.agg #[.slice none 0 0, .slice none 0 0, .slice none 0 0, .slice none 0 0]), 4, 96) := by kernel_rfl
/-- A note's cells as a list. -/
def ntc (S E B V : Option Addr) (cs ce cb cv : Nat) (n : Note) : List Value := [.slice S n.s.length cs, .slice E n.e.length ce, .slice B n.b.length cb, .slice V n.ws.length cv]
/-- A row of notes, all of it in memory of the call's own. -/
def NotesOwn (w : World) (base : Nat) (v : Value) (l : List Note) : Prop :=
  ∃ xs : List Value, w.ownsRow base 51 4 v l.length xs ∧ xs.length = l.length * 4 ∧ (∀ u ∈ xs, u.oneCell' = true) ∧ ∀ k, k < l.length → ∃ S E B V cs ce cb cv,
    xs[k * 4]? = some (.slice S (l.getD k zeroN).s.length cs) ∧ xs[k * 4 + 1]? = some (.slice E (l.getD k zeroN).e.length ce) ∧ xs[k * 4 + 2]? = some (.slice B (l.getD k zeroN).b.length cb) ∧ xs[k * 4 + 3]? = some (.slice V (l.getD k zeroN).ws.length cv) ∧
    NoteOwn w base S E B V cs ce cb cv (l.getD k zeroN)
section
variable {w w1 : World} {base : Nat} {v : Value} {l : List Note}
theorem NotesOwn.nil (w : World) (base : Nat) : NotesOwn w base (.slice none 0 0) [] := ⟨[], ⟨rfl, .inl ⟨rfl, rfl⟩⟩, rfl, (fun _ h => by cases h), fun k h => absurd h (by simp)⟩
theorem NotesOwn.only {g : Nat} (h : NotesOwn w base v l) (ho : Only g w w1) (hg : g < base) : NotesOwn w1 base v l := by
  obtain ⟨xs, h1, h2, h3, h4⟩ := h
  refine ⟨xs, ho.own h1 hg, h2, h3, fun k hk => ?_⟩
  obtain ⟨S, E, B, V, cs, ce, cb, cv, e0, e1, e2, e3, hn⟩ := h4 k hk
  exact ⟨S, E, B, V, cs, ce, cb, cv, e0, e1, e2, e3, hn.only ho hg⟩
theorem NotesOwn.set (h : NotesOwn w base v l) {j : Nat} (hj : j < base) (i : Nat) (u : Value) : NotesOwn (w.setCell ⟨j, i, none⟩ u) base v l := by
  obtain ⟨xs, h1, h2, h3, h4⟩ := h
  refine ⟨xs, own_set h1 hj i u, h2, h3, fun k hk => ?_⟩
  obtain ⟨S, E, B, V, cs, ce, cb, cv, e0, e1, e2, e3, hn⟩ := h4 k hk
  exact ⟨S, E, B, V, cs, ce, cb, cv, e0, e1, e2, e3, hn.set hj i u⟩
theorem NotesOwn.later (h : NotesOwn w base v l) (hb : Below w.heap.size w w1) : NotesOwn w1 base v l := by
  obtain ⟨xs, h1, h2, h3, h4⟩ := h
  refine ⟨xs, own_later h1 hb, h2, h3, fun k hk => ?_⟩
  obtain ⟨S, E, B, V, cs, ce, cb, cv, e0, e1, e2, e3, hn⟩ := h4 k hk
  exact ⟨S, E, B, V, cs, ce, cb, cv, e0, e1, e2, e3, hn.later hb⟩
theorem NotesOwn.down {base' : Nat} (h : NotesOwn w base v l) (hb : base' ≤ base) : NotesOwn w base' v l := by
  obtain ⟨xs, h1, h2, h3, h4⟩ := h
  refine ⟨xs, own_base h1 hb, h2, h3, fun k hk => ?_⟩
  obtain ⟨S, E, B, V, cs, ce, cb, cv, e0, e1, e2, e3, hn⟩ := h4 k hk
  exact ⟨S, E, B, V, cs, ce, cb, cv, e0, e1, e2, e3, hn.down hb⟩
theorem kept_apart {n size n' size' : Nat} {e e' : TypeId} {v v' : Value} {xs xs' : List Value} {base' : Nat} (h : w.ownsRow base e size v n xs) (h' : w.ownsRow base' e' size' v' n' xs') (hne : e ≠ e') (hg : w.grownBy w1 v'.ownBlock) : w1.ownsRow base e size v n xs :=
  own_stays h (fun k hk => hg.block k (own_lt h k hk) (own_apart h h' hne k hk))
theorem NoteOwn.kept {n' size' : Nat} {v' : Value} {xs' : List Value} {base' : Nat} {S E B V : Option Addr} {cs ce cb cv : Nat} {n : Note} (h : NoteOwn w base S E B V cs ce cb cv n) (h' : w.ownsRow base' 51 size' v' n' xs') (hg : w.grownBy w1 v'.ownBlock) : NoteOwn w1 base S E B V cs ce cb cv n :=
  ⟨kept_apart h.s h' (by decide) hg, kept_apart h.e h' (by decide) hg, kept_apart h.b h' (by decide) hg, kept_apart h.v h' (by decide) hg⟩
/-- One more note. -/
theorem NotesOwn.snoc {xs : List Value} {v4 : Value} {S E B V : Option Addr} {cs ce cb cv : Nat} {y : Note} (h : w.ownsRow base 51 4 v l.length xs) (hl : xs.length = l.length * 4) (h1 : ∀ u ∈ xs, u.oneCell' = true)
    (hk : ∀ k, k < l.length → ∃ S E B V cs ce cb cv, xs[k * 4]? = some (.slice S (l.getD k zeroN).s.length cs) ∧ xs[k * 4 + 1]? = some (.slice E (l.getD k zeroN).e.length ce) ∧ xs[k * 4 + 2]? = some (.slice B (l.getD k zeroN).b.length cb) ∧ xs[k * 4 + 3]? = some (.slice V (l.getD k zeroN).ws.length cv) ∧
      NoteOwn w base S E B V cs ce cb cv (l.getD k zeroN))
    (hy : NoteOwn w base S E B V cs ce cb cv y) (hg : w.grownBy w1 v.ownBlock) (ho : w1.ownsRow base 51 4 v4 (l.length + 1) (xs ++ ntc S E B V cs ce cb cv y)) : NotesOwn w1 base v4 (l ++ [y]) := by
  refine ⟨xs ++ ntc S E B V cs ce cb cv y, by rw [List.length_append]; exact ho, by rw [List.length_append, List.length_append, hl]; simp [ntc]; omega, fun u hu => ?_, fun k hkl => ?_⟩
  · rcases List.mem_append.1 hu with hu | hu
    · exact h1 u hu
    · simp [ntc] at hu
      rcases hu with rfl | rfl | rfl | rfl <;> rfl
  · by_cases hkk : k < l.length
    · obtain ⟨S', E', B', V', cs', ce', cb', cv', e0, e1, e2, e3, hn⟩ := hk k hkk
      have hd : (l ++ [y]).getD k zeroN = l.getD k zeroN := by
        rw [List.getD_eq_getElem?_getD, List.getD_eq_getElem?_getD, List.getElem?_append_left hkk]
      rw [hd]
      refine ⟨S', E', B', V', cs', ce', cb', cv', ?_, ?_, ?_, ?_, hn.kept h hg⟩ <;> rw [List.getElem?_append_left (by omega)] <;> assumption
    · have hke : k = l.length := by simp at hkl; omega
      subst hke
      have hd : (l ++ [y]).getD l.length zeroN = y := by
        rw [List.getD_eq_getElem?_getD, List.getElem?_append_right (Nat.le_refl _)]
        simp
      rw [hd]
      refine ⟨S, E, B, V, cs, ce, cb, cv, ?_, ?_, ?_, ?_, hy.kept h hg⟩ <;> rw [List.getElem?_append_right (by omega), hl]
      · rw [Nat.sub_self]; rfl
      · rw [show l.length * 4 + 1 - l.length * 4 = 1 by omega]; rfl
      · rw [show l.length * 4 + 2 - l.length * 4 = 2 by omega]; rfl
      · rw [show l.length * 4 + 3 - l.length * 4 = 3 by omega]; rfl
theorem NotesOwn.one (h : NotesOwn w base v l) : ∃ A c, v = .slice A l.length c ∧ OneN w A c l := by
  obtain ⟨xs, h1, h2, h3, h4⟩ := h
  obtain ⟨A, c, hv, hle, hcap, hno, hlies⟩ := own_form h1
  refine ⟨A, c, hv, hle, hcap, hno, fun hne => ?_⟩
  have hxs : xs ≠ [] := fun e => by
    rw [e] at h2
    cases l with
    | nil => exact hne rfl
    | cons a r => simp at h2
  obtain ⟨b, off, hA, hc⟩ := hlies hxs
  refine ⟨b, off, hA, fun k hk => ?_⟩
  obtain ⟨S, E, B, V, cs, ce, cb, cv, e0, e1, e2, e3, hn⟩ := h4 k hk
  exact ⟨S, E, B, V, cs, ce, cb, cv, hc _ _ e0, hc _ _ e1, hc _ _ e2, hc _ _ e3, hn.at⟩
end
/-- A list of notes was read. -/
def DNts (g : Nat) (l : List Int) (s : Option Nat) (w : World) (e : Ending) (w' : World) : Prop :=
  ∃ v x, e = .returned v ∧ x.length ≤ 257 ∧ (∀ y ∈ x, NoteSm y) ∧ NotesOwn w' w.heap.size v x ∧ DRd w' g l (Wi.nxt (Wi.plistm 257 (Wi.pnotr l) l) s) ∧ Only g w w' ∧ Wi.Got (Wi.plistm 257 (Wi.pnotr l) l) s x

set_option maxRecDepth 100000 in
set_option maxHeartbeats 3200000 in
theorem drlnt_any (g : Nat) (l : List Int) (s : Option Nat) (w : World) (h : DRd w g l s) :
    Calls Try.prog 114 #[.pointer (some ⟨g, 0, none⟩), .int .i64 257, .func (.func 68) #[] #[]] w (DNts g l s w) := by
  obtain ⟨i0, hi, hz0, hz1, hz2⟩ := info_parts infoNtL
  have hgl := h.lt
  have CN := Lib.hid (drnum_any g l s w h)
  clear h
  go_enter Try.func114, Try.ntmps114
  go_wp2_with fail
  refine CN.out.mono ?_
  rintro e w1 ⟨n, rfl, hn, hd1, ho1, hg1⟩
  have hsz1 := ho1.size
  by_cases hm : n ≤ 257
  · have hdm : decide ((257 : Int) < (n : Int)) = false := decide_eq_false (by omega)
    have hlt0 : ¬ (257 : Int) < (n : Int) := by omega
    have HI := Lib.hid (Wi.invm_start (p := Wi.pnotr l) hg1 hm)
    have HD := Lib.hid hd1; have HO := Lib.hid ho1
    clear hd1 ho1 hg1 CN hn
    go_wp2_with fail
    go_loopw [8, 17] (fun s8 s17 wr => ∃ (k : Nat) (acc : List (Note)) (sk : Option Nat), k ≤ n ∧ s17 = .int .i64 (k : Int) ∧ acc.length = k ∧ (∀ y ∈ acc, (NoteSm) y) ∧ NotesOwn wr w.heap.size s8 acc ∧ DRd wr g l sk ∧ Only g w wr ∧ Wi.Inv (Wi.pnotr l) (s.bind (Wi.plistm 257 (Wi.pnotr l) l)) (n - k) acc sk) (fun _ s17 _ => n - (intOf s17).toNat)
    case atStart => exact ⟨0, [], _, by omega, rfl, rfl, (fun _ h => by cases h), NotesOwn.nil _ _, HD.out, HO.out, HI.out⟩
    case round =>
      obtain ⟨k, acc, sk, hk, rfl, hacc, hfit, hown, hdk, hok, hinv⟩ := hrel
      have hszr := hok.size
      by_cases hkn : k < n
      · have hdt : decide (k < n) = true := decide_eq_true (by omega)
        have CE := Lib.hid (drnote_any g l sk wr hdk)
        have HOWN := Lib.hid hown; have HOK := Lib.hid hok; have HINV := Lib.hid hinv; have HFIT := Lib.hid hfit; have HACC := Lib.hid hacc
        clear hown hok hinv hfit hdk hacc HD HO HI
        go_wp2_with fail
        refine CE.out.mono ?_
        rintro e w3 ⟨S, E, B, V, cs, ce, cb, cv, x, rfl, fx, hnx, hd1, ho1, hg1⟩
        have hown3 := HOWN.out.only ho1 hgl
        have hbx3 := hnx.down hszr
        have b4 := below_new (Below.refl w3.heap.size w3) (.cells #[.slice S x.s.length cs, .slice E x.e.length ce, .slice B x.b.length cb, .slice V x.ws.length cv] 51)
        obtain ⟨xs, hxs1, hxs2, hxs3, hxs4⟩ := hown3.later b4
        have hown3 := hxs1
        have HACC3 := Lib.hid HACC.out
        have HX4 := Lib.hid (And.intro hxs2 (And.intro hxs3 hxs4)); have HBX := Lib.hid (hbx3.later b4)
        rw [HACC3.out] at hown3
        clear hxs1 hxs2 hxs3 hxs4 hbx3 hnx
        unfold noteCells
        have hok3 := HOK.out.on ho1
        have hsz3 := hok3.size
        have hinv3 := Wi.inv_next (k := n - (k + 1)) (by rw [show n - (k + 1) + 1 = n - k by omega]; exact HINV.out) rfl hg1
        have HOWN3 := Lib.hid hown3; have HOK3 := Lib.hid hok3; have HINV3 := Lib.hid hinv3; have HD3 := Lib.hid hd1; have HFX := Lib.hid (show (NoteSm) x from fx)
        have HNB := Lib.hid (Blk.new w3 51 #[.slice S x.s.length cs, .slice E x.e.length ce, .slice B x.b.length cb, .slice V x.ws.length cv])
        clear hown3 hok3 hinv3 hd1 ho1 hg1 CE
        go_wp2_with (at_builtin; refine wpList_append_lies _ rfl _ _ 72 rfl w.heap.size 51 i0 (.agg #[.slice none 0 0, .slice none 0 0, .slice none 0 0, .slice none 0 0]) 4 96 Try.underlying72 hi hz0 hz1 hz2 rfl (by decide) _ k xs rfl HOWN3.out (some ⟨w3.heap.size, 0, none⟩) 1 1 (fun h => by cases h) (ntc S E B V cs ce cb cv x) rfl rfl ?c1 (fun u hu => by simp [ntc] at hu; rcases hu with rfl | rfl | rfl | rfl <;> rfl) ?c3 ?c4 ?c5 ?_)
        case c1 =>
          refine fun _ => ⟨w3.heap.size, 0, rfl, fun j u hu => ?_⟩
          rw [Nat.zero_add]
          refine HNB.out.cell ?_
          simpa [ntc, noteCells] using hu
        case c3 => unfold maxLen; omega
        case c4 => omega
        case c5 => simp; omega
        intro v4 w4 ho4 hg4 hx4
        have hd4 := (HD3.out.later b4).grown hg4 (fun j hj => by have := own_ge HOWN3.out j hj; omega)
        have hok4 : Only g w w4 := Only.grown (HOK3.out.below b4) hg4 (fun j hj => own_ge HOWN3.out j hj)
        have hso4 := NotesOwn.snoc (by rw [HACC3.out]; exact HOWN3.out) HX4.out.1 HX4.out.2.1 HX4.out.2.2 HBX.out hg4 (by rw [HACC3.out]; exact ho4)
        have HO4 := Lib.hid hso4; have HD4 := Lib.hid hd4; have HOK4 := Lib.hid hok4
        clear ho4 hso4 hd4 hok4 hg4 hx4 b4
        go_wp2_with fail
        go_roundw
        case rel => exact ⟨k + 1, acc ++ [x], _, by omega, by first | rfl | (congr 1; omega), by rw [List.length_append, HACC.out]; rfl, (fun y hy => by rcases List.mem_append.1 hy with hy | hy; exact HFIT.out y hy; simp at hy; subst hy; exact HFX.out), HO4.out, HD4.out, HOK4.out, HINV3.out⟩
        case measure => simp [intOf]; omega
      · obtain rfl : k = n := by omega
        have hdt : decide (k < k) = false := decide_eq_false (by omega)
        rw [Nat.sub_self] at hinv
        obtain ⟨e1, e2⟩ := Wi.inv_done hinv
        have E1 := Lib.hid e1; have E2 := Lib.hid e2; have HOWN := Lib.hid hown; have HOK := Lib.hid hok; have HFIT := Lib.hid hfit; have HACC := Lib.hid hacc; have HDK := Lib.hid hdk
        clear hinv e1 e2 hown hok hfit hacc hdk HD HO HI
        go_wp2
        go_ret
        exact ⟨_, acc, rfl, by rw [HACC.out]; exact hm, HFIT.out, HOWN.out, by rw [E1.out]; exact HDK.out, HOK.out, E2.out⟩
  · have hdm : decide ((257 : Int) < (n : Int)) = true := decide_eq_true (by omega)
    have hlt0 : (257 : Int) < (n : Int) := by omega
    have HNO := Lib.hid (Wi.invm_many (p := Wi.pnotr l) hg1 hm)
    have CF := Lib.hid (drfail_any g l _ w1 hd1)
    have HO := Lib.hid ho1
    clear hd1 ho1 hg1 CN hn
    go_wp2_with fail
    refine CF.out.mono ?_
    rintro e w2 ⟨rfl, hd2, ho2⟩
    have HD2 := Lib.hid hd2; have HO2 := Lib.hid (HO.out.on ho2)
    clear hd2 ho2 CF
    go_wp2
    go_ret
    exact ⟨_, [], rfl, Nat.zero_le _, (fun _ h => by cases h), NotesOwn.nil _ _, by rw [nxt_no HNO.out]; exact HD2.out, HO2.out, got_no HNO.out⟩

end Go.Proofs.Ytbbmngabbbehcaa
