/-
  What wire's layMsg answers.
  What wire's readMsg answers.
  Plain mathematics of wire, one: what is read at a place are just the bytes that would be laid for it.
  What stamp.Right and its helper answer, for all stamps; each leaves the memory that was there as it was.
-/
import Derived.Test.YtbbmngabbbehcaaG19
import Derived.Test.YtbbmngabbbehcaaG16
import Derived.Test.YtbbmngabbbehcaaG03
import Derived.Test.YtbbmngabbbehcaaProg
import Derived.Test.YtbbmngabbbehcaaG07
import Derived.Tactics
import Derived.Tactics2
import Derived.WalkKit
import Derived.WalkSpells
import Derived.OwnWalk
import Derived.Deep.QuietTactic
import Derived.BigQuiet
import Derived.Deep.RegionHeld3
import Derived.KernelRfl
import Derived.Lib.Hide
namespace Go.Proofs.Ytbbmngabbbehcaa
open Go.RowKit

namespace Wi
/-- A message's bytes. -/
def ehead (m : Ms) : List Int := by_ m.k ++ (by_ m.f ++ by_ m.t)
def etail (m : Ms) : List Int :=
  if m.k = 1 then by_ m.s ++ elist etwo m.it ++ elist est m.vc
  else if m.k = 3 then by_ m.s ++ by_ m.q ++ elist enote m.ns
  else if m.k = 4 then by_ m.bd.o
  else if m.k = 5 then ebody m.bd
  else []
def emsg (m : Ms) : List Int := ehead m ++ etail m
/-- The kinds there are. -/
def kinds (m : Ms) : Prop := m.k = 1 ∨ m.k = 2 ∨ m.k = 3 ∨ m.k = 4 ∨ m.k = 5
/-- A message whose numbers can all be laid, and whose lists are not too long. -/
structure fitM (m : Ms) : Prop where
  k : fit m.k
  f : fit m.f
  t : fit m.t
  s : fit m.s
  q : fit m.q
  it : ∀ x ∈ m.it, fit x.1 ∧ fit x.2
  vc : ∀ x ∈ m.vc, fit x.1 ∧ fit x.2
  ns : ∀ x ∈ m.ns, fitN x ∧ x.s.length ≤ 1099511627776 ∧ x.e.length ≤ 1099511627776 ∧ x.b.length ≤ 1099511627776 ∧ x.ws.length ≤ 1099511627776
  o : fit m.bd.o
  c : fit m.bd.c
  n : fit m.bd.n
  lit : m.it.length ≤ 1099511627776
  lvc : m.vc.length ≤ 1099511627776
  lns : m.ns.length ≤ 1099511627776
  lv : m.bd.v.length ≤ 1099511627776
end Wi
/-- Three numbers. -/
theorem dnums3_any (w0 : World) (v : Value) (pre : List Int) (g : Nat) (x y z : Int) (w : World) (hpl : pre.length + (Wi.by_ x ++ (Wi.by_ y ++ Wi.by_ z)).length ≤ 70368744177664) (hx : Wi.fit x) (hy : Wi.fit y) (hz : Wi.fit z)
    (hB : Blk w g 3 #[.int .i64 x, .int .i64 y, .int .i64 z]) (hg : v.ownBlock ≠ some g) (ho : w.ownsRow w0.heap.size 5 1 v pre.length (bCells pre)) (hb : w0.heap.size ≤ w.heap.size) :
    Calls Try.prog 106 #[v, .slice (some ⟨g, 0, none⟩) 3 3] w (Lays w0 v (pre ++ (Wi.by_ x ++ (Wi.by_ y ++ Wi.by_ z))) w) := by
  have e : [x, y, z].flatMap Wi.by_ = Wi.by_ x ++ (Wi.by_ y ++ Wi.by_ z) := by simp
  have h := dnums_any w0 v pre g 3 [x, y, z] w rfl (by simp) (by rw [e]; exact hpl) (fun u hu => by simp at hu; rcases hu with rfl | rfl | rfl <;> assumption) hB hg ho hb
  rwa [e] at h

set_option maxHeartbeats 6400000 in
set_option maxRecDepth 100000 in
theorem dmsg1_any (w0 : World) (rv : Value) (pre : List Int) (I V N D : Option Addr) (ci cv cn d : Nat) (m : Ms) (w : World) (hk : m.k = 1) (hpl : pre.length + (Wi.emsg m).length ≤ 70368744177664) (hf : Wi.fitM m) (h : MsAt w0 I V N D ci cv cn d m)
    (ho : w.ownsRow w0.heap.size 5 1 rv pre.length (bCells pre)) (hb : Below w0.heap.size w0 w) :
    Calls Try.prog 78 #[rv, .agg (msCells I V N D ci cv cn d m)] w (Lays w0 rv (pre ++ Wi.emsg m) w) := by
  obtain ⟨mk, mf, mt, ms, mq, mit, mvc, mns, mbd⟩ := m
  obtain ⟨mo, mc, mn, mv⟩ := mbd
  simp only at hk
  subst hk
  have he : Wi.emsg ⟨1, mf, mt, ms, mq, mit, mvc, mns, ⟨mo, mc, mn, mv⟩⟩ = (Wi.by_ 1 ++ (Wi.by_ mf ++ Wi.by_ mt)) ++ (Wi.by_ ms ++ Wi.elist Wi.etwo mit ++ Wi.elist Wi.est mvc) := rfl
  rw [he] at hpl ⊢
  rw [← List.append_assoc]
  rw [List.length_append] at hpl
  clear he
  obtain ⟨full, hfull⟩ : ∃ p, pre ++ (Wi.by_ 1 ++ (Wi.by_ mf ++ Wi.by_ mt)) ++ (Wi.by_ ms ++ Wi.elist Wi.etwo mit ++ Wi.elist Wi.est mvc) = p := ⟨_, rfl⟩
  rw [hfull]
  unfold msCells
  simp only
  have hB0 := Blk.new w 74 #[.int .i64 1, .int .i64 mf, .int .i64 mt, .int .i64 ms, .int .i64 mq, .slice I mit.length ci, .slice V mvc.length cv, .slice N mns.length cn, .int .i64 mo, .int .i64 mc, .int .i64 mn, .slice D mv.length d]
  have b0 := below_new (Below.refl w.heap.size w) (.cells #[.int .i64 1, .int .i64 mf, .int .i64 mt, .int .i64 ms, .int .i64 mq, .slice I mit.length ci, .slice V mvc.length cv, .slice N mns.length cn, .int .i64 mo, .int .i64 mc, .int .i64 mn, .slice D mv.length d] 74)
  have how := own_later ho b0
  have hne := own_ne ho (.inr (Nat.le_refl _))
  have hb0 := hb.trans (b0.mono hb.size)
  have hs0 := hb.size
  obtain ⟨bx, hbx⟩ : ∃ bx, w.heap.size = bx := ⟨_, rfl⟩
  obtain ⟨W, hW⟩ : ∃ W, w.alloc (.cells #[.int .i64 1, .int .i64 mf, .int .i64 mt, .int .i64 ms, .int .i64 mq, .slice I mit.length ci, .slice V mvc.length cv, .slice N mns.length cn, .int .i64 mo, .int .i64 mc, .int .i64 mn, .slice D mv.length d] 74) = W := ⟨_, rfl⟩
  rw [hW] at hB0 b0 how hb0
  rw [hbx] at hB0 hne
  have hsW := b0.size
  have k1 := hB0.cell (i := 1) rfl
  have k2 := hB0.cell (i := 2) rfl
  have k0 := hB0.cell (i := 0) rfl
  have b1 := below_new (Below.refl W.heap.size W) (.cells #[.int .i64 1, .int .i64 mf, .int .i64 mt] 3)
  have hBW := hB0.later b1
  have hBn := Blk.new W 3 #[.int .i64 1, .int .i64 mf, .int .i64 mt]
  have hWs : W.heap.size = bx + 1 := by rw [← hW, ← hbx]; simp
  rw [hWs] at hBn
  have HB0 := Lib.hid b0; have HNE := Lib.hid hne; have HX := Lib.hid hbx; have HWW := Lib.hid hW; have HB1 := Lib.hid b1
  have HF := Lib.hid hf; have H := Lib.hid h; have HB := Lib.hid hb; have HO := Lib.hid ho
  have hsz1 := b1.size
  have G0 := Lib.hid (grown_on (grown_of rv.ownBlock b0) (grown_of rv.ownBlock b1) (.inl rfl))
  have M0 := Lib.hid (Moved.refl w rv)
  have CK := Lib.hid (dnums3_any w0 rv pre (bx + 1) 1 mf mt _ (by omega) hf.k hf.f hf.t hBn (own_ne how (.inr (by omega))) (own_later how b1) (by omega))
  have HBX := Lib.hid hBW
  obtain ⟨he1, hhe1⟩ : ∃ p, (Wi.by_ 1 ++ (Wi.by_ mf ++ Wi.by_ mt)) = p := ⟨_, rfl⟩
  rw [hhe1] at CK hpl hfull
  have HFU := Lib.hid hfull
  clear hfull hBn hWs hW b0 hB0 how hne ho hf h hb hb0 b1 hBW hhe1
  go_enter Try.func78, Try.ntmps78
  go_wp2_with fail
  rw [HWW.out]
  try rw [HX.out]
  go_wp2_with fail
  refine CK.out.mono ?_
  rintro e w1 ⟨v1, rfl, q1, q2, q3⟩
  have g1 := grown_on G0.out q2 M0.out
  have m1 := (Moved.refl w rv).on (show w.heap.size ≤ _ from G0.out.size) q3
  have hs1 := g1.size
  have hBx1 := grown_blk q2 HBX.out HNE.out
  have hn1 := q3.ne HNE.out HBX.out.lt
  have hbw1 := below_grown HB.out g1 HO.out
  have c0 := hBx1.cell (i := 0) rfl
  have H1 := Lib.hid q1; have G1 := Lib.hid g1; have M1 := Lib.hid m1; have HBX1 := Lib.hid hBx1; have HNE1 := Lib.hid hn1; have HBW1 := Lib.hid hbw1
  obtain ⟨pp, hpp⟩ : ∃ p, pre ++ he1 = p := ⟨_, rfl⟩
  have hpl1 : pp.length = pre.length + he1.length := by rw [← hpp, List.length_append]
  rw [hpp] at H1
  have HFU2 := HFU.out
  rw [hpp] at HFU2
  have HFU2 := Lib.hid HFU2
  have hpl2 : pp.length + (Wi.by_ ms ++ Wi.elist Wi.etwo mit ++ Wi.elist Wi.est mvc).length ≤ 70368744177664 := by omega
  clear q1 q2 q3 g1 m1 hBx1 hn1 hbw1 CK k0 k1 k2 hpp hpl1 hpl
  simp only [List.length_append] at hpl2
  go_wp2_with fail
  refine wp_region_gen 7 (by kernel_rfl) (by kernel_rfl) (fun v => { tmps := #[v1, .agg #[.int .i64 1, .int .i64 mf, .int .i64 mt, .int .i64 ms, .int .i64 mq, .slice I mit.length ci, .slice V mvc.length cv, .slice N mns.length cn, .int .i64 mo, .int .i64 mc, .int .i64 mn, .slice D mv.length d], undef, .pointer (some ⟨bx, 0, none⟩), .slice none 0 0, rv, .pointer (some ⟨bx, 0, none⟩), .int .i64 1, .pointer (some ⟨bx, 1, none⟩), .int .i64 mf, .pointer (some ⟨bx, 2, none⟩), .int .i64 mt, .slice (some ⟨bx + 1, 0, none⟩) 3 3, v1, .pointer (some ⟨bx, 0, none⟩), .int .i64 1, .bool true, .bool true, v 0, v 1, v 2, v 3, v 4, v 5, v 6, undef, undef, undef, undef, undef, undef, undef, undef, undef, undef, undef, undef, undef, undef, undef, undef, undef, undef, undef, undef, undef, undef, undef, undef, undef, undef, undef, undef, undef, undef, undef, undef], defers := [] }) (fun _ => undef)
    (ChInv w0 w1 v1 pp (pp ++ Wi.by_ ms) [ms] (fun i x => match i with | 0 => x = v1 | 1 => x = .pointer (some ⟨bx, 3, none⟩) | 2 => x = .int .i64 ms | 5 => x = .pointer (some ⟨bx, 5, none⟩) | 6 => x = .slice I mit.length ci | _ => True) 3 4 7) ?start ?step ?done
  case start => exact fun L hL => ChInv.start H1.out (by decide) (by decide) hL
  case step =>
    intro i hi L v w' hI hun hd
    match i, hi with
    | 0, _ =>
      have ST := Lib.hid (hI.still (i := 0) (x := v1) rfl (by decide) (by decide))
      refine wpOp_one rfl ?_
      clear hd hI
      go_wp2
      first | exact ⟨_, (by simp [upd]; done), ST.out⟩ | exact ⟨(by simp [upd]; done), ST.out⟩
    | 1, _ =>
      have ST := Lib.hid (hI.still (i := 1) (x := .pointer (some ⟨bx, 3, none⟩)) rfl (by decide) (by decide))
      refine wpOp_one rfl ?_
      clear hd hI
      go_wp2
      first | exact ⟨_, (by simp [upd]; done), ST.out⟩ | exact ⟨(by simp [upd]; done), ST.out⟩
    | 2, _ =>
      have h1 : v 1 = _ := hI.c 1 (by decide) (hd 1 (List.elem_iff.1 (by kernel_rfl)))
      have hBx := grown_blk hI.grown HBX1.out HNE1.out
      have q0 := hBx.cell (i := 3) rfl
      have ST := Lib.hid (hI.still (i := 2) (x := .int .i64 ms) rfl (by decide) (by decide))
      refine wpOp_one rfl ?_
      clear hd hI hBx
      rw [h1]
      go_wp2
      first | exact ⟨_, (by simp [upd, h1]; done), ST.out⟩ | exact ⟨(by simp [upd, h1]; done), ST.out⟩
    | 3, _ =>
      have h2 : v 2 = _ := hI.c 2 (by decide) (hd 2 (List.elem_iff.1 (by kernel_rfl)))
      have ST := Lib.hid (hI.made (by decide) hun (fun k hk => own_lt H1.out k hk) (g := w'.heap.size) trivial rfl)
      refine wpOp_one rfl ?_
      clear hd hI
      rw [h2]
      go_wp2
      exact ⟨_, (by simp [upd, h2]; done), ST.out⟩
    | 4, _ =>
      have h0 : v 0 = _ := hI.c 0 (by decide) (hd 0 (List.elem_iff.1 (by kernel_rfl)))
      obtain ⟨g, h3, hg, hBg⟩ := hI.blk (hd 3 (List.elem_iff.1 (by kernel_rfl)))
      have ow := hI.old hun
      have hsw := hI.grown.size
      have CK := Lib.hid (dnums1_any w0 v1 pp g ms w' (by omega) HF.out.s hBg hg ow (by omega))
      have LA := Lib.hid (fun (x : Value) (w'' : World) q1 q2 q3 => hI.laid (w' := w'') (by decide) (hd 3 (List.elem_iff.1 (by kernel_rfl))) (x := x) trivial q1 q2 q3)
      refine wpOp_one rfl ?_
      clear hd hI hBg ow
      rw [h0, h3]
      go_wp2_with fail
      refine CK.out.mono ?_
      rintro e w'' ⟨x, rfl, q1, q2, q3⟩
      have ST := Lib.hid (LA.out x w'' q1 q2 q3)
      clear q1 q2 q3 CK LA
      go_wp2
      exact ⟨_, (by simp [upd, h0, h3]; done), ST.out⟩
    | 5, _ =>
      have ST := Lib.hid (hI.still (i := 5) (x := .pointer (some ⟨bx, 5, none⟩)) rfl (by decide) (by decide))
      refine wpOp_one rfl ?_
      clear hd hI
      go_wp2
      first | exact ⟨_, (by simp [upd]; done), ST.out⟩ | exact ⟨(by simp [upd]; done), ST.out⟩
    | 6, _ =>
      have h5 : v 5 = _ := hI.c 5 (by decide) (hd 5 (List.elem_iff.1 (by kernel_rfl)))
      have hBx := grown_blk hI.grown HBX1.out HNE1.out
      have q0 := hBx.cell (i := 5) rfl
      have ST := Lib.hid (hI.still (i := 6) (x := .slice I mit.length ci) rfl (by decide) (by decide))
      refine wpOp_one rfl ?_
      clear hd hI hBx
      rw [h5]
      go_wp2
      first | exact ⟨_, (by simp [upd, h5]; done), ST.out⟩ | exact ⟨(by simp [upd, h5]; done), ST.out⟩
    | k + 7, hk => exact absurd hk (by omega)
  case done =>
    intro L v w5 hI hall
    have hl : v 6 = _ := hI.c 6 (by decide) (hall 6 (by decide))
    obtain ⟨o4, m4⟩ := hI.out (hall 4 (by decide))
    obtain ⟨y, hy⟩ : ∃ y, v 4 = y := ⟨_, rfl⟩
    rw [hy] at o4 m4
    have hs5 := hI.grown.size
    have hb5 := below_grown HBW1.out hI.grown H1.out
    have CK := Lib.hid (dset_any w0 y _ I ci mit w5 (by simp only [List.length_append]; omega) HF.out.lit HF.out.it H.out.hi o4 hb5)
    have G5 := Lib.hid (grown_on G1.out hI.grown M1.out)
    have M5 := Lib.hid (M1.out.on hs1 m4)
    have hsz5 : w.heap.size ≤ w5.heap.size := by omega
    have HB5 := Lib.hid (grown_blk hI.grown HBX1.out HNE1.out)
    have HN5 := Lib.hid (m4.ne HNE1.out HBX1.out.lt)
    have HBW5 := Lib.hid hb5; have O4 := Lib.hid o4
    clear hI hall o4 m4 hb5
    rw [hl, hy]
    clear hl hy
    go_wp2_with fail
    refine CK.out.mono ?_
    rintro e w6 ⟨v6, rfl, q1, q2, q3⟩
    have hs6 := q2.size
    have g6 := grown_on G5.out q2 M5.out
    have m6 := M5.out.on hsz5 q3
    have hb6 := below_grown HB.out g6 HO.out
    have hB6 := grown_blk q2 HB5.out HN5.out
    have c6 := hB6.cell (i := 6) rfl
    have CL := Lib.hid (dvec_any w0 v6 _ V cv mvc w6 (by simp only [List.length_append]; omega) HF.out.lvc HF.out.vc H.out.hv q1 hb6)
    have G6 := Lib.hid g6; have M6 := Lib.hid m6
    clear q1 q2 q3 g6 m6 hb6 hB6 CK
    go_wp2_with fail
    refine CL.out.mono ?_
    rintro e w7 ⟨v7, rfl, q1, q2, q3⟩
    have Q1 := Lib.hid (own_cast (r := full) q1 (by rw [← HFU2.out]; simp only [List.append_assoc]) (by rw [← HFU2.out]; simp only [List.append_assoc]))
    have Q2 := Lib.hid (grown_on G6.out q2 M6.out)
    have Q3 := Lib.hid (M6.out.on (show w.heap.size ≤ w6.heap.size by omega) q3)
    clear q1 q2 q3 CL
    go_wp2
    go_ret
    exact ⟨_, rfl, Q1.out, Q2.out, Q3.out⟩

set_option maxHeartbeats 6400000 in
set_option maxRecDepth 100000 in
theorem dmsg2_any (w0 : World) (rv : Value) (pre : List Int) (I V N D : Option Addr) (ci cv cn d : Nat) (m : Ms) (w : World) (hk : m.k = 2) (hpl : pre.length + (Wi.emsg m).length ≤ 70368744177664) (hf : Wi.fitM m) (h : MsAt w0 I V N D ci cv cn d m)
    (ho : w.ownsRow w0.heap.size 5 1 rv pre.length (bCells pre)) (hb : Below w0.heap.size w0 w) :
    Calls Try.prog 78 #[rv, .agg (msCells I V N D ci cv cn d m)] w (Lays w0 rv (pre ++ Wi.emsg m) w) := by
  obtain ⟨mk, mf, mt, ms, mq, mit, mvc, mns, mbd⟩ := m
  obtain ⟨mo, mc, mn, mv⟩ := mbd
  simp only at hk
  subst hk
  have he : Wi.emsg ⟨2, mf, mt, ms, mq, mit, mvc, mns, ⟨mo, mc, mn, mv⟩⟩ = (Wi.by_ 2 ++ (Wi.by_ mf ++ Wi.by_ mt)) ++ ([] : List Int) := rfl
  rw [he] at hpl ⊢
  rw [← List.append_assoc]
  rw [List.length_append] at hpl
  clear he
  obtain ⟨full, hfull⟩ : ∃ p, pre ++ (Wi.by_ 2 ++ (Wi.by_ mf ++ Wi.by_ mt)) ++ ([] : List Int) = p := ⟨_, rfl⟩
  rw [hfull]
  unfold msCells
  simp only
  have hB0 := Blk.new w 74 #[.int .i64 2, .int .i64 mf, .int .i64 mt, .int .i64 ms, .int .i64 mq, .slice I mit.length ci, .slice V mvc.length cv, .slice N mns.length cn, .int .i64 mo, .int .i64 mc, .int .i64 mn, .slice D mv.length d]
  have b0 := below_new (Below.refl w.heap.size w) (.cells #[.int .i64 2, .int .i64 mf, .int .i64 mt, .int .i64 ms, .int .i64 mq, .slice I mit.length ci, .slice V mvc.length cv, .slice N mns.length cn, .int .i64 mo, .int .i64 mc, .int .i64 mn, .slice D mv.length d] 74)
  have how := own_later ho b0
  have hne := own_ne ho (.inr (Nat.le_refl _))
  have hb0 := hb.trans (b0.mono hb.size)
  have hs0 := hb.size
  obtain ⟨bx, hbx⟩ : ∃ bx, w.heap.size = bx := ⟨_, rfl⟩
  obtain ⟨W, hW⟩ : ∃ W, w.alloc (.cells #[.int .i64 2, .int .i64 mf, .int .i64 mt, .int .i64 ms, .int .i64 mq, .slice I mit.length ci, .slice V mvc.length cv, .slice N mns.length cn, .int .i64 mo, .int .i64 mc, .int .i64 mn, .slice D mv.length d] 74) = W := ⟨_, rfl⟩
  rw [hW] at hB0 b0 how hb0
  rw [hbx] at hB0 hne
  have hsW := b0.size
  have k1 := hB0.cell (i := 1) rfl
  have k2 := hB0.cell (i := 2) rfl
  have k0 := hB0.cell (i := 0) rfl
  have b1 := below_new (Below.refl W.heap.size W) (.cells #[.int .i64 2, .int .i64 mf, .int .i64 mt] 3)
  have hBW := hB0.later b1
  have hBn := Blk.new W 3 #[.int .i64 2, .int .i64 mf, .int .i64 mt]
  have hWs : W.heap.size = bx + 1 := by rw [← hW, ← hbx]; simp
  rw [hWs] at hBn
  have HB0 := Lib.hid b0; have HNE := Lib.hid hne; have HX := Lib.hid hbx; have HWW := Lib.hid hW; have HB1 := Lib.hid b1
  have HF := Lib.hid hf; have H := Lib.hid h; have HB := Lib.hid hb; have HO := Lib.hid ho
  have hsz1 := b1.size
  have G0 := Lib.hid (grown_on (grown_of rv.ownBlock b0) (grown_of rv.ownBlock b1) (.inl rfl))
  have M0 := Lib.hid (Moved.refl w rv)
  have CK := Lib.hid (dnums3_any w0 rv pre (bx + 1) 2 mf mt _ (by omega) hf.k hf.f hf.t hBn (own_ne how (.inr (by omega))) (own_later how b1) (by omega))
  have HBX := Lib.hid hBW
  obtain ⟨he1, hhe1⟩ : ∃ p, (Wi.by_ 2 ++ (Wi.by_ mf ++ Wi.by_ mt)) = p := ⟨_, rfl⟩
  rw [hhe1] at CK hpl hfull
  have HFU := Lib.hid hfull
  clear hfull hBn hWs hW b0 hB0 how hne ho hf h hb hb0 b1 hBW hhe1
  go_enter Try.func78, Try.ntmps78
  go_wp2_with fail
  rw [HWW.out]
  try rw [HX.out]
  go_wp2_with fail
  refine CK.out.mono ?_
  rintro e w1 ⟨v1, rfl, q1, q2, q3⟩
  have g1 := grown_on G0.out q2 M0.out
  have m1 := (Moved.refl w rv).on (show w.heap.size ≤ _ from G0.out.size) q3
  have hs1 := g1.size
  have hBx1 := grown_blk q2 HBX.out HNE.out
  have hn1 := q3.ne HNE.out HBX.out.lt
  have hbw1 := below_grown HB.out g1 HO.out
  have c0 := hBx1.cell (i := 0) rfl
  have H1 := Lib.hid q1; have G1 := Lib.hid g1; have M1 := Lib.hid m1; have HBX1 := Lib.hid hBx1; have HNE1 := Lib.hid hn1; have HBW1 := Lib.hid hbw1
  obtain ⟨pp, hpp⟩ : ∃ p, pre ++ he1 = p := ⟨_, rfl⟩
  have hpl1 : pp.length = pre.length + he1.length := by rw [← hpp, List.length_append]
  rw [hpp] at H1
  have HFU2 := HFU.out
  rw [hpp] at HFU2
  have HFU2 := Lib.hid HFU2
  have hpl2 : pp.length + ([] : List Int).length ≤ 70368744177664 := by omega
  clear q1 q2 q3 g1 m1 hBx1 hn1 hbw1 CK k0 k1 k2 hpp hpl1 hpl
  go_wp2
  go_ret
  exact ⟨_, rfl, own_cast (r := full) H1.out (by rw [← HFU2.out, List.append_nil]) (by rw [← HFU2.out, List.append_nil]), G1.out, M1.out⟩

set_option maxHeartbeats 6400000 in
set_option maxRecDepth 100000 in
theorem dmsg3_any (w0 : World) (rv : Value) (pre : List Int) (I V N D : Option Addr) (ci cv cn d : Nat) (m : Ms) (w : World) (hk : m.k = 3) (hpl : pre.length + (Wi.emsg m).length ≤ 70368744177664) (hf : Wi.fitM m) (h : MsAt w0 I V N D ci cv cn d m)
    (ho : w.ownsRow w0.heap.size 5 1 rv pre.length (bCells pre)) (hb : Below w0.heap.size w0 w) :
    Calls Try.prog 78 #[rv, .agg (msCells I V N D ci cv cn d m)] w (Lays w0 rv (pre ++ Wi.emsg m) w) := by
  obtain ⟨mk, mf, mt, ms, mq, mit, mvc, mns, mbd⟩ := m
  obtain ⟨mo, mc, mn, mv⟩ := mbd
  simp only at hk
  subst hk
  have he : Wi.emsg ⟨3, mf, mt, ms, mq, mit, mvc, mns, ⟨mo, mc, mn, mv⟩⟩ = (Wi.by_ 3 ++ (Wi.by_ mf ++ Wi.by_ mt)) ++ (Wi.by_ ms ++ Wi.by_ mq ++ Wi.elist Wi.enote mns) := rfl
  rw [he] at hpl ⊢
  rw [← List.append_assoc]
  rw [List.length_append] at hpl
  clear he
  obtain ⟨full, hfull⟩ : ∃ p, pre ++ (Wi.by_ 3 ++ (Wi.by_ mf ++ Wi.by_ mt)) ++ (Wi.by_ ms ++ Wi.by_ mq ++ Wi.elist Wi.enote mns) = p := ⟨_, rfl⟩
  rw [hfull]
  unfold msCells
  simp only
  have hB0 := Blk.new w 74 #[.int .i64 3, .int .i64 mf, .int .i64 mt, .int .i64 ms, .int .i64 mq, .slice I mit.length ci, .slice V mvc.length cv, .slice N mns.length cn, .int .i64 mo, .int .i64 mc, .int .i64 mn, .slice D mv.length d]
  have b0 := below_new (Below.refl w.heap.size w) (.cells #[.int .i64 3, .int .i64 mf, .int .i64 mt, .int .i64 ms, .int .i64 mq, .slice I mit.length ci, .slice V mvc.length cv, .slice N mns.length cn, .int .i64 mo, .int .i64 mc, .int .i64 mn, .slice D mv.length d] 74)
  have how := own_later ho b0
  have hne := own_ne ho (.inr (Nat.le_refl _))
  have hb0 := hb.trans (b0.mono hb.size)
  have hs0 := hb.size
  obtain ⟨bx, hbx⟩ : ∃ bx, w.heap.size = bx := ⟨_, rfl⟩
  obtain ⟨W, hW⟩ : ∃ W, w.alloc (.cells #[.int .i64 3, .int .i64 mf, .int .i64 mt, .int .i64 ms, .int .i64 mq, .slice I mit.length ci, .slice V mvc.length cv, .slice N mns.length cn, .int .i64 mo, .int .i64 mc, .int .i64 mn, .slice D mv.length d] 74) = W := ⟨_, rfl⟩
  rw [hW] at hB0 b0 how hb0
  rw [hbx] at hB0 hne
  have hsW := b0.size
  have k1 := hB0.cell (i := 1) rfl
  have k2 := hB0.cell (i := 2) rfl
  have k0 := hB0.cell (i := 0) rfl
  have b1 := below_new (Below.refl W.heap.size W) (.cells #[.int .i64 3, .int .i64 mf, .int .i64 mt] 3)
  have hBW := hB0.later b1
  have hBn := Blk.new W 3 #[.int .i64 3, .int .i64 mf, .int .i64 mt]
  have hWs : W.heap.size = bx + 1 := by rw [← hW, ← hbx]; simp
  rw [hWs] at hBn
  have HB0 := Lib.hid b0; have HNE := Lib.hid hne; have HX := Lib.hid hbx; have HWW := Lib.hid hW; have HB1 := Lib.hid b1
  have HF := Lib.hid hf; have H := Lib.hid h; have HB := Lib.hid hb; have HO := Lib.hid ho
  have hsz1 := b1.size
  have G0 := Lib.hid (grown_on (grown_of rv.ownBlock b0) (grown_of rv.ownBlock b1) (.inl rfl))
  have M0 := Lib.hid (Moved.refl w rv)
  have CK := Lib.hid (dnums3_any w0 rv pre (bx + 1) 3 mf mt _ (by omega) hf.k hf.f hf.t hBn (own_ne how (.inr (by omega))) (own_later how b1) (by omega))
  have HBX := Lib.hid hBW
  obtain ⟨he1, hhe1⟩ : ∃ p, (Wi.by_ 3 ++ (Wi.by_ mf ++ Wi.by_ mt)) = p := ⟨_, rfl⟩
  rw [hhe1] at CK hpl hfull
  have HFU := Lib.hid hfull
  clear hfull hBn hWs hW b0 hB0 how hne ho hf h hb hb0 b1 hBW hhe1
  go_enter Try.func78, Try.ntmps78
  go_wp2_with fail
  rw [HWW.out]
  try rw [HX.out]
  go_wp2_with fail
  refine CK.out.mono ?_
  rintro e w1 ⟨v1, rfl, q1, q2, q3⟩
  have g1 := grown_on G0.out q2 M0.out
  have m1 := (Moved.refl w rv).on (show w.heap.size ≤ _ from G0.out.size) q3
  have hs1 := g1.size
  have hBx1 := grown_blk q2 HBX.out HNE.out
  have hn1 := q3.ne HNE.out HBX.out.lt
  have hbw1 := below_grown HB.out g1 HO.out
  have c0 := hBx1.cell (i := 0) rfl
  have H1 := Lib.hid q1; have G1 := Lib.hid g1; have M1 := Lib.hid m1; have HBX1 := Lib.hid hBx1; have HNE1 := Lib.hid hn1; have HBW1 := Lib.hid hbw1
  obtain ⟨pp, hpp⟩ : ∃ p, pre ++ he1 = p := ⟨_, rfl⟩
  have hpl1 : pp.length = pre.length + he1.length := by rw [← hpp, List.length_append]
  rw [hpp] at H1
  have HFU2 := HFU.out
  rw [hpp] at HFU2
  have HFU2 := Lib.hid HFU2
  have hpl2 : pp.length + (Wi.by_ ms ++ Wi.by_ mq ++ Wi.elist Wi.enote mns).length ≤ 70368744177664 := by omega
  clear q1 q2 q3 g1 m1 hBx1 hn1 hbw1 CK k0 k1 k2 hpp hpl1 hpl
  simp only [List.length_append] at hpl2
  go_wp2_with fail
  refine wp_region_gen 9 (by kernel_rfl) (by kernel_rfl) (fun v => { tmps := #[v1, .agg #[.int .i64 3, .int .i64 mf, .int .i64 mt, .int .i64 ms, .int .i64 mq, .slice I mit.length ci, .slice V mvc.length cv, .slice N mns.length cn, .int .i64 mo, .int .i64 mc, .int .i64 mn, .slice D mv.length d], undef, .pointer (some ⟨bx, 0, none⟩), .slice none 0 0, rv, .pointer (some ⟨bx, 0, none⟩), .int .i64 3, .pointer (some ⟨bx, 1, none⟩), .int .i64 mf, .pointer (some ⟨bx, 2, none⟩), .int .i64 mt, .slice (some ⟨bx + 1, 0, none⟩) 3 3, v1, .pointer (some ⟨bx, 0, none⟩), .int .i64 3, .bool false, .bool false, undef, undef, undef, undef, undef, undef, undef, undef, undef, undef, undef, undef, .bool true, .bool true, v 0, v 1, v 2, v 3, v 4, v 5, v 6, v 7, v 8, undef, undef, undef, undef, undef, undef, undef, undef, undef, undef, undef, undef, undef, undef, undef, undef], defers := [] }) (fun _ => undef)
    (ChInv w0 w1 v1 pp (pp ++ Wi.etwo (ms, mq)) [ms, mq] (fun i x => match i with | 0 => x = v1 | 1 => x = .pointer (some ⟨bx, 3, none⟩) | 2 => x = .int .i64 ms | 3 => x = .pointer (some ⟨bx, 4, none⟩) | 4 => x = .int .i64 mq | 7 => x = .pointer (some ⟨bx, 7, none⟩) | 8 => x = .slice N mns.length cn | _ => True) 5 6 9) ?start ?step ?done
  case start => exact fun L hL => ChInv.start H1.out (by decide) (by decide) hL
  case step =>
    intro i hi L v w' hI hun hd
    match i, hi with
    | 0, _ =>
      have ST := Lib.hid (hI.still (i := 0) (x := v1) rfl (by decide) (by decide))
      refine wpOp_one rfl ?_
      clear hd hI
      go_wp2
      first | exact ⟨_, (by simp [upd]; done), ST.out⟩ | exact ⟨(by simp [upd]; done), ST.out⟩
    | 1, _ =>
      have ST := Lib.hid (hI.still (i := 1) (x := .pointer (some ⟨bx, 3, none⟩)) rfl (by decide) (by decide))
      refine wpOp_one rfl ?_
      clear hd hI
      go_wp2
      first | exact ⟨_, (by simp [upd]; done), ST.out⟩ | exact ⟨(by simp [upd]; done), ST.out⟩
    | 2, _ =>
      have h1 : v 1 = _ := hI.c 1 (by decide) (hd 1 (List.elem_iff.1 (by kernel_rfl)))
      have hBx := grown_blk hI.grown HBX1.out HNE1.out
      have q0 := hBx.cell (i := 3) rfl
      have ST := Lib.hid (hI.still (i := 2) (x := .int .i64 ms) rfl (by decide) (by decide))
      refine wpOp_one rfl ?_
      clear hd hI hBx
      rw [h1]
      go_wp2
      first | exact ⟨_, (by simp [upd, h1]; done), ST.out⟩ | exact ⟨(by simp [upd, h1]; done), ST.out⟩
    | 3, _ =>
      have ST := Lib.hid (hI.still (i := 3) (x := .pointer (some ⟨bx, 4, none⟩)) rfl (by decide) (by decide))
      refine wpOp_one rfl ?_
      clear hd hI
      go_wp2
      first | exact ⟨_, (by simp [upd]; done), ST.out⟩ | exact ⟨(by simp [upd]; done), ST.out⟩
    | 4, _ =>
      have h3 : v 3 = _ := hI.c 3 (by decide) (hd 3 (List.elem_iff.1 (by kernel_rfl)))
      have hBx := grown_blk hI.grown HBX1.out HNE1.out
      have q0 := hBx.cell (i := 4) rfl
      have ST := Lib.hid (hI.still (i := 4) (x := .int .i64 mq) rfl (by decide) (by decide))
      refine wpOp_one rfl ?_
      clear hd hI hBx
      rw [h3]
      go_wp2
      first | exact ⟨_, (by simp [upd, h3]; done), ST.out⟩ | exact ⟨(by simp [upd, h3]; done), ST.out⟩
    | 5, _ =>
      have h2 : v 2 = _ := hI.c 2 (by decide) (hd 2 (List.elem_iff.1 (by kernel_rfl)))
      have h4 : v 4 = _ := hI.c 4 (by decide) (hd 4 (List.elem_iff.1 (by kernel_rfl)))
      have ST := Lib.hid (hI.made (by decide) hun (fun k hk => own_lt H1.out k hk) (g := w'.heap.size) trivial rfl)
      refine wpOp_one rfl ?_
      clear hd hI
      rw [h2, h4]
      go_wp2
      exact ⟨_, (by simp [upd, h2, h4]; done), ST.out⟩
    | 6, _ =>
      have h0 : v 0 = _ := hI.c 0 (by decide) (hd 0 (List.elem_iff.1 (by kernel_rfl)))
      obtain ⟨g, h5, hg, hBg⟩ := hI.blk (hd 5 (List.elem_iff.1 (by kernel_rfl)))
      have ow := hI.old hun
      have hsw := hI.grown.size
      have CK := Lib.hid (dnums2_any w0 v1 pp g ms mq w' (by rw [show Wi.etwo (ms, mq) = Wi.by_ ms ++ Wi.by_ mq from rfl, List.length_append]; omega) HF.out.s HF.out.q hBg hg ow (by omega))
      have LA := Lib.hid (fun (x : Value) (w'' : World) q1 q2 q3 => hI.laid (w' := w'') (by decide) (hd 5 (List.elem_iff.1 (by kernel_rfl))) (x := x) trivial q1 q2 q3)
      refine wpOp_one rfl ?_
      clear hd hI hBg ow
      rw [h0, h5]
      go_wp2_with fail
      refine CK.out.mono ?_
      rintro e w'' ⟨x, rfl, q1, q2, q3⟩
      have ST := Lib.hid (LA.out x w'' q1 q2 q3)
      clear q1 q2 q3 CK LA
      go_wp2
      exact ⟨_, (by simp [upd, h0, h5]; done), ST.out⟩
    | 7, _ =>
      have ST := Lib.hid (hI.still (i := 7) (x := .pointer (some ⟨bx, 7, none⟩)) rfl (by decide) (by decide))
      refine wpOp_one rfl ?_
      clear hd hI
      go_wp2
      first | exact ⟨_, (by simp [upd]; done), ST.out⟩ | exact ⟨(by simp [upd]; done), ST.out⟩
    | 8, _ =>
      have h7 : v 7 = _ := hI.c 7 (by decide) (hd 7 (List.elem_iff.1 (by kernel_rfl)))
      have hBx := grown_blk hI.grown HBX1.out HNE1.out
      have q0 := hBx.cell (i := 7) rfl
      have ST := Lib.hid (hI.still (i := 8) (x := .slice N mns.length cn) rfl (by decide) (by decide))
      refine wpOp_one rfl ?_
      clear hd hI hBx
      rw [h7]
      go_wp2
      first | exact ⟨_, (by simp [upd, h7]; done), ST.out⟩ | exact ⟨(by simp [upd, h7]; done), ST.out⟩
    | k + 9, hk => exact absurd hk (by omega)
  case done =>
    intro L v w5 hI hall
    have hl : v 8 = _ := hI.c 8 (by decide) (hall 8 (by decide))
    obtain ⟨o4, m4⟩ := hI.out (hall 6 (by decide))
    obtain ⟨y, hy⟩ : ∃ y, v 6 = y := ⟨_, rfl⟩
    rw [hy] at o4 m4
    have hs5 := hI.grown.size
    have hb5 := below_grown HBW1.out hI.grown H1.out
    have CK := Lib.hid (dlnt_any w0 y _ N cn mns w5 (by rw [show Wi.etwo (ms, mq) = Wi.by_ ms ++ Wi.by_ mq from rfl]; simp only [List.length_append]; omega) HF.out.lns HF.out.ns H.out.hn o4 hb5)
    have G5 := Lib.hid (grown_on G1.out hI.grown M1.out)
    have M5 := Lib.hid (M1.out.on hs1 m4)
    have hsz5 : w.heap.size ≤ w5.heap.size := by omega
    have HB5 := Lib.hid (grown_blk hI.grown HBX1.out HNE1.out)
    have HN5 := Lib.hid (m4.ne HNE1.out HBX1.out.lt)
    have HBW5 := Lib.hid hb5; have O4 := Lib.hid o4
    clear hI hall o4 m4 hb5
    rw [hl, hy]
    clear hl hy
    go_wp2_with fail
    refine CK.out.mono ?_
    rintro e w6 ⟨v6, rfl, q1, q2, q3⟩
    have hs6 := q2.size
    have g6 := grown_on G5.out q2 M5.out
    have m6 := M5.out.on hsz5 q3
    have Q1 := Lib.hid (own_cast (r := full) q1 (by rw [← HFU2.out]; simp only [List.append_assoc, Wi.etwo]) (by rw [← HFU2.out]; simp only [List.append_assoc, Wi.etwo]))
    have Q2 := Lib.hid g6
    have Q3 := Lib.hid m6
    clear q1 q2 q3 g6 m6 CK
    go_wp2
    go_ret
    exact ⟨_, rfl, Q1.out, Q2.out, Q3.out⟩

set_option maxHeartbeats 6400000 in
set_option maxRecDepth 100000 in
theorem dmsg4_any (w0 : World) (rv : Value) (pre : List Int) (I V N D : Option Addr) (ci cv cn d : Nat) (m : Ms) (w : World) (hk : m.k = 4) (hpl : pre.length + (Wi.emsg m).length ≤ 70368744177664) (hf : Wi.fitM m) (h : MsAt w0 I V N D ci cv cn d m)
    (ho : w.ownsRow w0.heap.size 5 1 rv pre.length (bCells pre)) (hb : Below w0.heap.size w0 w) :
    Calls Try.prog 78 #[rv, .agg (msCells I V N D ci cv cn d m)] w (Lays w0 rv (pre ++ Wi.emsg m) w) := by
  obtain ⟨mk, mf, mt, ms, mq, mit, mvc, mns, mbd⟩ := m
  obtain ⟨mo, mc, mn, mv⟩ := mbd
  simp only at hk
  subst hk
  have he : Wi.emsg ⟨4, mf, mt, ms, mq, mit, mvc, mns, ⟨mo, mc, mn, mv⟩⟩ = (Wi.by_ 4 ++ (Wi.by_ mf ++ Wi.by_ mt)) ++ (Wi.by_ mo) := rfl
  rw [he] at hpl ⊢
  rw [← List.append_assoc]
  rw [List.length_append] at hpl
  clear he
  obtain ⟨full, hfull⟩ : ∃ p, pre ++ (Wi.by_ 4 ++ (Wi.by_ mf ++ Wi.by_ mt)) ++ (Wi.by_ mo) = p := ⟨_, rfl⟩
  rw [hfull]
  unfold msCells
  simp only
  have hB0 := Blk.new w 74 #[.int .i64 4, .int .i64 mf, .int .i64 mt, .int .i64 ms, .int .i64 mq, .slice I mit.length ci, .slice V mvc.length cv, .slice N mns.length cn, .int .i64 mo, .int .i64 mc, .int .i64 mn, .slice D mv.length d]
  have b0 := below_new (Below.refl w.heap.size w) (.cells #[.int .i64 4, .int .i64 mf, .int .i64 mt, .int .i64 ms, .int .i64 mq, .slice I mit.length ci, .slice V mvc.length cv, .slice N mns.length cn, .int .i64 mo, .int .i64 mc, .int .i64 mn, .slice D mv.length d] 74)
  have how := own_later ho b0
  have hne := own_ne ho (.inr (Nat.le_refl _))
  have hb0 := hb.trans (b0.mono hb.size)
  have hs0 := hb.size
  obtain ⟨bx, hbx⟩ : ∃ bx, w.heap.size = bx := ⟨_, rfl⟩
  obtain ⟨W, hW⟩ : ∃ W, w.alloc (.cells #[.int .i64 4, .int .i64 mf, .int .i64 mt, .int .i64 ms, .int .i64 mq, .slice I mit.length ci, .slice V mvc.length cv, .slice N mns.length cn, .int .i64 mo, .int .i64 mc, .int .i64 mn, .slice D mv.length d] 74) = W := ⟨_, rfl⟩
  rw [hW] at hB0 b0 how hb0
  rw [hbx] at hB0 hne
  have hsW := b0.size
  have k1 := hB0.cell (i := 1) rfl
  have k2 := hB0.cell (i := 2) rfl
  have k0 := hB0.cell (i := 0) rfl
  have b1 := below_new (Below.refl W.heap.size W) (.cells #[.int .i64 4, .int .i64 mf, .int .i64 mt] 3)
  have hBW := hB0.later b1
  have hBn := Blk.new W 3 #[.int .i64 4, .int .i64 mf, .int .i64 mt]
  have hWs : W.heap.size = bx + 1 := by rw [← hW, ← hbx]; simp
  rw [hWs] at hBn
  have HB0 := Lib.hid b0; have HNE := Lib.hid hne; have HX := Lib.hid hbx; have HWW := Lib.hid hW; have HB1 := Lib.hid b1
  have HF := Lib.hid hf; have H := Lib.hid h; have HB := Lib.hid hb; have HO := Lib.hid ho
  have hsz1 := b1.size
  have G0 := Lib.hid (grown_on (grown_of rv.ownBlock b0) (grown_of rv.ownBlock b1) (.inl rfl))
  have M0 := Lib.hid (Moved.refl w rv)
  have CK := Lib.hid (dnums3_any w0 rv pre (bx + 1) 4 mf mt _ (by omega) hf.k hf.f hf.t hBn (own_ne how (.inr (by omega))) (own_later how b1) (by omega))
  have HBX := Lib.hid hBW
  obtain ⟨he1, hhe1⟩ : ∃ p, (Wi.by_ 4 ++ (Wi.by_ mf ++ Wi.by_ mt)) = p := ⟨_, rfl⟩
  rw [hhe1] at CK hpl hfull
  have HFU := Lib.hid hfull
  clear hfull hBn hWs hW b0 hB0 how hne ho hf h hb hb0 b1 hBW hhe1
  go_enter Try.func78, Try.ntmps78
  go_wp2_with fail
  rw [HWW.out]
  try rw [HX.out]
  go_wp2_with fail
  refine CK.out.mono ?_
  rintro e w1 ⟨v1, rfl, q1, q2, q3⟩
  have g1 := grown_on G0.out q2 M0.out
  have m1 := (Moved.refl w rv).on (show w.heap.size ≤ _ from G0.out.size) q3
  have hs1 := g1.size
  have hBx1 := grown_blk q2 HBX.out HNE.out
  have hn1 := q3.ne HNE.out HBX.out.lt
  have hbw1 := below_grown HB.out g1 HO.out
  have c0 := hBx1.cell (i := 0) rfl
  have H1 := Lib.hid q1; have G1 := Lib.hid g1; have M1 := Lib.hid m1; have HBX1 := Lib.hid hBx1; have HNE1 := Lib.hid hn1; have HBW1 := Lib.hid hbw1
  obtain ⟨pp, hpp⟩ : ∃ p, pre ++ he1 = p := ⟨_, rfl⟩
  have hpl1 : pp.length = pre.length + he1.length := by rw [← hpp, List.length_append]
  rw [hpp] at H1
  have HFU2 := HFU.out
  rw [hpp] at HFU2
  have HFU2 := Lib.hid HFU2
  have hpl2 : pp.length + (Wi.by_ mo).length ≤ 70368744177664 := by omega
  clear q1 q2 q3 g1 m1 hBx1 hn1 hbw1 CK k0 k1 k2 hpp hpl1 hpl
  have c8 := HBX1.out.cell (i := 8) rfl
  have b2 := below_new (Below.refl w1.heap.size w1) (.cells #[.int .i64 mo] 3)
  have CK := Lib.hid (dnums1_any w0 v1 pp w1.heap.size mo _ hpl2 HF.out.o (Blk.new w1 3 #[.int .i64 mo]) (own_ne H1.out (.inr (Nat.le_refl _))) (own_later H1.out b2) (by have := b2.size; omega))
  have hs2 := b2.size
  have G2 := Lib.hid (grown_on G1.out (grown_of v1.ownBlock b2) M1.out)
  clear b2
  go_wp2_with fail
  refine CK.out.mono ?_
  rintro e w2 ⟨v2, rfl, q1, q2, q3⟩
  have Q1 := Lib.hid (own_cast (r := full) q1 (by rw [← HFU2.out]) (by rw [← HFU2.out]))
  have Q2 := Lib.hid (grown_on G2.out q2 M1.out)
  have Q3 := Lib.hid (M1.out.on hs1 ((Moved.refl w1 v1).on hs2 q3))
  clear q1 q2 q3 CK
  go_wp2
  go_ret
  exact ⟨_, rfl, Q1.out, Q2.out, Q3.out⟩

set_option maxHeartbeats 6400000 in
set_option maxRecDepth 100000 in
theorem dmsg5_any (w0 : World) (rv : Value) (pre : List Int) (I V N D : Option Addr) (ci cv cn d : Nat) (m : Ms) (w : World) (hk : m.k = 5) (hpl : pre.length + (Wi.emsg m).length ≤ 70368744177664) (hf : Wi.fitM m) (h : MsAt w0 I V N D ci cv cn d m)
    (ho : w.ownsRow w0.heap.size 5 1 rv pre.length (bCells pre)) (hb : Below w0.heap.size w0 w) :
    Calls Try.prog 78 #[rv, .agg (msCells I V N D ci cv cn d m)] w (Lays w0 rv (pre ++ Wi.emsg m) w) := by
  obtain ⟨mk, mf, mt, ms, mq, mit, mvc, mns, mbd⟩ := m
  obtain ⟨mo, mc, mn, mv⟩ := mbd
  simp only at hk
  subst hk
  have he : Wi.emsg ⟨5, mf, mt, ms, mq, mit, mvc, mns, ⟨mo, mc, mn, mv⟩⟩ = (Wi.by_ 5 ++ (Wi.by_ mf ++ Wi.by_ mt)) ++ (Wi.ebody ⟨mo, mc, mn, mv⟩) := rfl
  rw [he] at hpl ⊢
  rw [← List.append_assoc]
  rw [List.length_append] at hpl
  clear he
  obtain ⟨full, hfull⟩ : ∃ p, pre ++ (Wi.by_ 5 ++ (Wi.by_ mf ++ Wi.by_ mt)) ++ (Wi.ebody ⟨mo, mc, mn, mv⟩) = p := ⟨_, rfl⟩
  rw [hfull]
  unfold msCells
  simp only
  have hB0 := Blk.new w 74 #[.int .i64 5, .int .i64 mf, .int .i64 mt, .int .i64 ms, .int .i64 mq, .slice I mit.length ci, .slice V mvc.length cv, .slice N mns.length cn, .int .i64 mo, .int .i64 mc, .int .i64 mn, .slice D mv.length d]
  have b0 := below_new (Below.refl w.heap.size w) (.cells #[.int .i64 5, .int .i64 mf, .int .i64 mt, .int .i64 ms, .int .i64 mq, .slice I mit.length ci, .slice V mvc.length cv, .slice N mns.length cn, .int .i64 mo, .int .i64 mc, .int .i64 mn, .slice D mv.length d] 74)
  have how := own_later ho b0
  have hne := own_ne ho (.inr (Nat.le_refl _))
  have hb0 := hb.trans (b0.mono hb.size)
  have hs0 := hb.size
  obtain ⟨bx, hbx⟩ : ∃ bx, w.heap.size = bx := ⟨_, rfl⟩
  obtain ⟨W, hW⟩ : ∃ W, w.alloc (.cells #[.int .i64 5, .int .i64 mf, .int .i64 mt, .int .i64 ms, .int .i64 mq, .slice I mit.length ci, .slice V mvc.length cv, .slice N mns.length cn, .int .i64 mo, .int .i64 mc, .int .i64 mn, .slice D mv.length d] 74) = W := ⟨_, rfl⟩
  rw [hW] at hB0 b0 how hb0
  rw [hbx] at hB0 hne
  have hsW := b0.size
  have k1 := hB0.cell (i := 1) rfl
  have k2 := hB0.cell (i := 2) rfl
  have k0 := hB0.cell (i := 0) rfl
  have b1 := below_new (Below.refl W.heap.size W) (.cells #[.int .i64 5, .int .i64 mf, .int .i64 mt] 3)
  have hBW := hB0.later b1
  have hBn := Blk.new W 3 #[.int .i64 5, .int .i64 mf, .int .i64 mt]
  have hWs : W.heap.size = bx + 1 := by rw [← hW, ← hbx]; simp
  rw [hWs] at hBn
  have HB0 := Lib.hid b0; have HNE := Lib.hid hne; have HX := Lib.hid hbx; have HWW := Lib.hid hW; have HB1 := Lib.hid b1
  have HF := Lib.hid hf; have H := Lib.hid h; have HB := Lib.hid hb; have HO := Lib.hid ho
  have hsz1 := b1.size
  have G0 := Lib.hid (grown_on (grown_of rv.ownBlock b0) (grown_of rv.ownBlock b1) (.inl rfl))
  have M0 := Lib.hid (Moved.refl w rv)
  have CK := Lib.hid (dnums3_any w0 rv pre (bx + 1) 5 mf mt _ (by omega) hf.k hf.f hf.t hBn (own_ne how (.inr (by omega))) (own_later how b1) (by omega))
  have HBX := Lib.hid hBW
  obtain ⟨he1, hhe1⟩ : ∃ p, (Wi.by_ 5 ++ (Wi.by_ mf ++ Wi.by_ mt)) = p := ⟨_, rfl⟩
  rw [hhe1] at CK hpl hfull
  have HFU := Lib.hid hfull
  clear hfull hBn hWs hW b0 hB0 how hne ho hf h hb hb0 b1 hBW hhe1
  go_enter Try.func78, Try.ntmps78
  go_wp2_with fail
  rw [HWW.out]
  try rw [HX.out]
  go_wp2_with fail
  refine CK.out.mono ?_
  rintro e w1 ⟨v1, rfl, q1, q2, q3⟩
  have g1 := grown_on G0.out q2 M0.out
  have m1 := (Moved.refl w rv).on (show w.heap.size ≤ _ from G0.out.size) q3
  have hs1 := g1.size
  have hBx1 := grown_blk q2 HBX.out HNE.out
  have hn1 := q3.ne HNE.out HBX.out.lt
  have hbw1 := below_grown HB.out g1 HO.out
  have c0 := hBx1.cell (i := 0) rfl
  have H1 := Lib.hid q1; have G1 := Lib.hid g1; have M1 := Lib.hid m1; have HBX1 := Lib.hid hBx1; have HNE1 := Lib.hid hn1; have HBW1 := Lib.hid hbw1
  obtain ⟨pp, hpp⟩ : ∃ p, pre ++ he1 = p := ⟨_, rfl⟩
  have hpl1 : pp.length = pre.length + he1.length := by rw [← hpp, List.length_append]
  rw [hpp] at H1
  have HFU2 := HFU.out
  rw [hpp] at HFU2
  have HFU2 := Lib.hid HFU2
  have hpl2 : pp.length + (Wi.ebody ⟨mo, mc, mn, mv⟩).length ≤ 70368744177664 := by omega
  clear q1 q2 q3 g1 m1 hBx1 hn1 hbw1 CK k0 k1 k2 hpp hpl1 hpl
  have c8 := HBX1.out.cell (i := 8) rfl
  have c9 := HBX1.out.cell (i := 9) rfl
  have c10 := HBX1.out.cell (i := 10) rfl
  have c11 := HBX1.out.cell (i := 11) rfl
  have CK := Lib.hid (dbody_any w0 v1 pp D d ⟨mo, mc, mn, mv⟩ w1 hpl2 HF.out.o HF.out.c HF.out.n H.out.hb H1.out HBW1.out)
  unfold bdCells at CK
  simp only at CK
  go_wp2_with fail
  refine CK.out.mono ?_
  rintro e w2 ⟨v2, rfl, q1, q2, q3⟩
  have Q1 := Lib.hid (own_cast (r := full) q1 (by rw [← HFU2.out]) (by rw [← HFU2.out]))
  have Q2 := Lib.hid (grown_on G1.out q2 M1.out)
  have Q3 := Lib.hid (M1.out.on hs1 q3)
  clear q1 q2 q3 CK
  go_wp2
  go_ret
  exact ⟨_, rfl, Q1.out, Q2.out, Q3.out⟩

theorem dmsg_any (w0 : World) (rv : Value) (pre : List Int) (I V N D : Option Addr) (ci cv cn d : Nat) (m : Ms) (w : World) (hk : Wi.kinds m) (hpl : pre.length + (Wi.emsg m).length ≤ 70368744177664) (hf : Wi.fitM m) (h : MsAt w0 I V N D ci cv cn d m)
    (ho : w.ownsRow w0.heap.size 5 1 rv pre.length (bCells pre)) (hb : Below w0.heap.size w0 w) :
    Calls Try.prog 78 #[rv, .agg (msCells I V N D ci cv cn d m)] w (Lays w0 rv (pre ++ Wi.emsg m) w) := by
  rcases hk with hk | hk | hk | hk | hk
  · exact dmsg1_any w0 rv pre I V N D ci cv cn d m w hk hpl hf h ho hb
  · exact dmsg2_any w0 rv pre I V N D ci cv cn d m w hk hpl hf h ho hb
  · exact dmsg3_any w0 rv pre I V N D ci cv cn d m w hk hpl hf h ho hb
  · exact dmsg4_any w0 rv pre I V N D ci cv cn d m w hk hpl hf h ho hb
  · exact dmsg5_any w0 rv pre I V N D ci cv cn d m w hk hpl hf h ho hb

end Go.Proofs.Ytbbmngabbbehcaa
namespace Go.Proofs.Ytbbmngabbbehcaa
open Go.RowKit

def zeroBd : Bd := ⟨0, 0, 0, []⟩
/-- A message whose lists lie in memory of the call's own. -/
structure MsOwn (w : World) (base : Nat) (I V N D : Option Addr) (ci cv cn d : Nat) (m : Ms) : Prop where
  it : w.ownsRow base 95 2 (.slice I m.it.length ci) m.it.length (stCells m.it)
  vc : w.ownsRow base 61 2 (.slice V m.vc.length cv) m.vc.length (stCells m.vc)
  ns : NotesOwn w base (.slice N m.ns.length cn) m.ns
  bd : w.ownsRow base 5 1 (.slice D m.bd.v.length d) m.bd.v.length (bCells m.bd.v)
  by_ : ∀ y ∈ m.bd.v, isB y
section
variable {w w1 : World} {base : Nat} {I V N D : Option Addr} {ci cv cn d : Nat} {m : Ms}
theorem MsOwn.set (h : MsOwn w base I V N D ci cv cn d m) {k : Nat} (hk : k < base) (i : Nat) (u : Value) : MsOwn (w.setCell ⟨k, i, none⟩ u) base I V N D ci cv cn d m := ⟨own_set h.it hk i u, own_set h.vc hk i u, h.ns.set hk i u, own_set h.bd hk i u, h.by_⟩
theorem MsOwn.down {base' : Nat} (h : MsOwn w base I V N D ci cv cn d m) (hb : base' ≤ base) : MsOwn w base' I V N D ci cv cn d m := ⟨own_base h.it hb, own_base h.vc hb, h.ns.down hb, own_base h.bd hb, h.by_⟩
theorem MsOwn.later (h : MsOwn w base I V N D ci cv cn d m) (hb : Below w.heap.size w w1) : MsOwn w1 base I V N D ci cv cn d m := ⟨own_later h.it hb, own_later h.vc hb, h.ns.later hb, own_later h.bd hb, h.by_⟩
theorem oneB_own {l : List Int} {A : Option Addr} {c : Nat} (h : w.ownsRow base 5 1 (.slice A l.length c) l.length (bCells l)) (hb : ∀ y ∈ l, isB y) : OneB w A c l := by
  obtain ⟨A', c', hv, ho⟩ := OneB.of_own h hb
  cases hv
  exact ho
theorem MsOwn.at (h : MsOwn w base I V N D ci cv cn d m) : MsAt w I V N D ci cv cn d m := by
  obtain ⟨A, c, hv, ho⟩ := h.ns.one
  cases hv
  exact ⟨oneL_own h.it, oneL_own h.vc, ho, oneB_own h.bd h.by_⟩
end
/-- What a message that was read is: its numbers can be laid again, and it has no more than there may be. -/
structure MsSm (m : Ms) : Prop where
  k : Wi.fit m.k
  f : Wi.fit m.f
  t : Wi.fit m.t
  s : Wi.fit m.s
  q : Wi.fit m.q
  it : m.it.length ≤ 128 ∧ ∀ x ∈ m.it, Wi.fit x.1 ∧ Wi.fit x.2
  vc : m.vc.length ≤ 64 ∧ ∀ x ∈ m.vc, Wi.fit x.1 ∧ Wi.fit x.2
  ns : m.ns.length ≤ 257 ∧ ∀ x ∈ m.ns, NoteSm x
  bd : Wi.fit m.bd.o ∧ Wi.fit m.bd.c ∧ Wi.fit m.bd.n
namespace Wi
/-- A message's bytes behind its kind and its nodes, read, formed or not. -/
def ptail (k f t : Nat) (l : List Int) (a : Nat) : Option (Ms × Nat) :=
  if k = 1 then (pnum l a).bind fun s => (plistm 128 (ptwo l) l s.2).bind fun i => (plistm 64 (pst l) l i.2).map fun v => ((⟨(k : Int), (f : Int), (t : Int), (s.1 : Int), 0, i.1, v.1, [], zeroBd⟩ : Ms), v.2)
  else if k = 3 then (pnum l a).bind fun s => (pnum l s.2).bind fun q => (plistm 257 (pnotr l) l q.2).map fun n => ((⟨(k : Int), (f : Int), (t : Int), (s.1 : Int), (q.1 : Int), [], [], n.1, zeroBd⟩ : Ms), n.2)
  else if k = 4 then (pnum l a).map fun o => ((⟨(k : Int), (f : Int), (t : Int), 0, 0, [], [], [], ⟨(o.1 : Int), 0, 0, []⟩⟩ : Ms), o.2)
  else if k = 5 then (pbod l a).map fun b => ((⟨(k : Int), (f : Int), (t : Int), 0, 0, [], [], [], b.1⟩ : Ms), b.2)
  else some ((⟨(k : Int), (f : Int), (t : Int), 0, 0, [], [], [], zeroBd⟩ : Ms), a)
/-- A message's bytes, read, formed or not. -/
def pmsgr (l : List Int) (a : Nat) : Option (Ms × Nat) := (pnum l a).bind fun k => (pnum l k.2).bind fun f => (pnum l f.2).bind fun t => ptail k.1 f.1 t.1 l t.2
section
variable {l : List Int} {s : Option Nat} {k f t : Nat} {m : Ms}
theorem pmsgr_nxt (hk : Got (pnum l) s k) (hf : Got (pnum l) (nxt (pnum l) s) f) (ht : Got (pnum l) (nxt (pnum l) (nxt (pnum l) s)) t) : nxt (pmsgr l) s = nxt (ptail k f t l) (nxt (pnum l) (nxt (pnum l) (nxt (pnum l) s))) ∧ (Got (ptail k f t l) (nxt (pnum l) (nxt (pnum l) (nxt (pnum l) s))) m → Got (pmsgr l) s m) := by
  refine ⟨?_, fun hm => ?_⟩
  · exact (nxt_bind (p := pnum l) (x := k) (q := fun k' a => (pnum l a).bind fun f => (pnum l f.2).bind fun t => ptail k' f.1 t.1 l t.2) hk).trans
      ((nxt_bind (p := pnum l) (x := f) (q := fun f' a => (pnum l a).bind fun t => ptail k f' t.1 l t.2) hf).trans (nxt_bind (p := pnum l) (x := t) (q := fun t' a => ptail k f t' l a) ht))
  · have g2 := got_bind (p := pnum l) (x := t) (q := fun t' a => ptail k f t' l a) ht hm
    have g1 := got_bind (p := pnum l) (x := f) (q := fun f' a => (pnum l a).bind fun t => ptail k f' t.1 l t.2) hf g2
    exact got_bind (p := pnum l) (x := k) (q := fun k' a => (pnum l a).bind fun f => (pnum l f.2).bind fun t => ptail k' f.1 t.1 l t.2) hk g1
theorem ptail1' {x : Nat} {i v : List (Int × Int)} (h1 : Got (pnum l) s x) (h2 : Got (plistm 128 (ptwo l) l) (nxt (pnum l) s) i) (h3 : Got (plistm 64 (pst l) l) (nxt (plistm 128 (ptwo l) l) (nxt (pnum l) s)) v) :
    nxt (ptail 1 f t l) s = nxt (plistm 64 (pst l) l) (nxt (plistm 128 (ptwo l) l) (nxt (pnum l) s)) ∧ Got (ptail 1 f t l) s ⟨1, (f : Int), (t : Int), (x : Int), 0, i, v, [], zeroBd⟩ := by
  have e : ptail 1 f t l = fun a => (pnum l a).bind fun s => (plistm 128 (ptwo l) l s.2).bind fun i => (plistm 64 (pst l) l i.2).map fun v => ((⟨1, (f : Int), (t : Int), (s.1 : Int), 0, i.1, v.1, [], zeroBd⟩ : Ms), v.2) := by
    funext a; unfold ptail; rw [if_pos rfl]; rfl
  rw [e]
  have g3 := got_map (p := plistm 64 (pst l) l) (f := fun v => (⟨1, (f : Int), (t : Int), (x : Int), 0, i, v, [], zeroBd⟩ : Ms)) h3
  have g2 := got_bind (p := plistm 128 (ptwo l) l) (x := i) (q := fun i' a => (plistm 64 (pst l) l a).map fun v => ((⟨1, (f : Int), (t : Int), (x : Int), 0, i', v.1, [], zeroBd⟩ : Ms), v.2)) h2 g3
  have g1 := got_bind (p := pnum l) (x := x) (q := fun x' a => (plistm 128 (ptwo l) l a).bind fun i => (plistm 64 (pst l) l i.2).map fun v => ((⟨1, (f : Int), (t : Int), (x' : Int), 0, i.1, v.1, [], zeroBd⟩ : Ms), v.2)) h1 g2
  refine ⟨?_, g1⟩
  exact (nxt_bind (p := pnum l) (x := x) (q := fun x' a => (plistm 128 (ptwo l) l a).bind fun i => (plistm 64 (pst l) l i.2).map fun v => ((⟨1, (f : Int), (t : Int), (x' : Int), 0, i.1, v.1, [], zeroBd⟩ : Ms), v.2)) h1).trans
    ((nxt_bind (p := plistm 128 (ptwo l) l) (x := i) (q := fun i' a => (plistm 64 (pst l) l a).map fun v => ((⟨1, (f : Int), (t : Int), (x : Int), 0, i', v.1, [], zeroBd⟩ : Ms), v.2)) h2).trans (nxt_map (f := fun v => (⟨1, (f : Int), (t : Int), (x : Int), 0, i, v, [], zeroBd⟩ : Ms))))
theorem ptail3' {x q : Nat} {ns : List Note} (h1 : Got (pnum l) s x) (h2 : Got (pnum l) (nxt (pnum l) s) q) (h3 : Got (plistm 257 (pnotr l) l) (nxt (pnum l) (nxt (pnum l) s)) ns) :
    nxt (ptail 3 f t l) s = nxt (plistm 257 (pnotr l) l) (nxt (pnum l) (nxt (pnum l) s)) ∧ Got (ptail 3 f t l) s ⟨3, (f : Int), (t : Int), (x : Int), (q : Int), [], [], ns, zeroBd⟩ := by
  have e : ptail 3 f t l = fun a => (pnum l a).bind fun s => (pnum l s.2).bind fun q => (plistm 257 (pnotr l) l q.2).map fun n => ((⟨3, (f : Int), (t : Int), (s.1 : Int), (q.1 : Int), [], [], n.1, zeroBd⟩ : Ms), n.2) := by
    funext a; unfold ptail; rw [if_neg (by decide), if_pos rfl]; rfl
  rw [e]
  have g3 := got_map (p := plistm 257 (pnotr l) l) (f := fun n => (⟨3, (f : Int), (t : Int), (x : Int), (q : Int), [], [], n, zeroBd⟩ : Ms)) h3
  have g2 := got_bind (p := pnum l) (x := q) (q := fun q' a => (plistm 257 (pnotr l) l a).map fun n => ((⟨3, (f : Int), (t : Int), (x : Int), (q' : Int), [], [], n.1, zeroBd⟩ : Ms), n.2)) h2 g3
  have g1 := got_bind (p := pnum l) (x := x) (q := fun x' a => (pnum l a).bind fun q => (plistm 257 (pnotr l) l q.2).map fun n => ((⟨3, (f : Int), (t : Int), (x' : Int), (q.1 : Int), [], [], n.1, zeroBd⟩ : Ms), n.2)) h1 g2
  refine ⟨?_, g1⟩
  exact (nxt_bind (p := pnum l) (x := x) (q := fun x' a => (pnum l a).bind fun q => (plistm 257 (pnotr l) l q.2).map fun n => ((⟨3, (f : Int), (t : Int), (x' : Int), (q.1 : Int), [], [], n.1, zeroBd⟩ : Ms), n.2)) h1).trans
    ((nxt_bind (p := pnum l) (x := q) (q := fun q' a => (plistm 257 (pnotr l) l a).map fun n => ((⟨3, (f : Int), (t : Int), (x : Int), (q' : Int), [], [], n.1, zeroBd⟩ : Ms), n.2)) h2).trans (nxt_map (f := fun n => (⟨3, (f : Int), (t : Int), (x : Int), (q : Int), [], [], n, zeroBd⟩ : Ms))))
theorem ptail4' {o : Nat} (h1 : Got (pnum l) s o) : nxt (ptail 4 f t l) s = nxt (pnum l) s ∧ Got (ptail 4 f t l) s ⟨4, (f : Int), (t : Int), 0, 0, [], [], [], ⟨(o : Int), 0, 0, []⟩⟩ := by
  have e : ptail 4 f t l = fun a => (pnum l a).map fun o => ((⟨4, (f : Int), (t : Int), 0, 0, [], [], [], ⟨(o.1 : Int), 0, 0, []⟩⟩ : Ms), o.2) := by
    funext a; unfold ptail; rw [if_neg (by decide), if_neg (by decide), if_pos rfl]; rfl
  rw [e]
  exact ⟨nxt_map (f := fun o : Nat => (⟨4, (f : Int), (t : Int), 0, 0, [], [], [], ⟨(o : Int), 0, 0, []⟩⟩ : Ms)), got_map (f := fun o : Nat => (⟨4, (f : Int), (t : Int), 0, 0, [], [], [], ⟨(o : Int), 0, 0, []⟩⟩ : Ms)) h1⟩
theorem ptail5' {b : Bd} (h1 : Got (pbod l) s b) : nxt (ptail 5 f t l) s = nxt (pbod l) s ∧ Got (ptail 5 f t l) s ⟨5, (f : Int), (t : Int), 0, 0, [], [], [], b⟩ := by
  have e : ptail 5 f t l = fun a => (pbod l a).map fun b => ((⟨5, (f : Int), (t : Int), 0, 0, [], [], [], b.1⟩ : Ms), b.2) := by
    funext a; unfold ptail; rw [if_neg (by decide), if_neg (by decide), if_neg (by decide), if_pos rfl]; rfl
  rw [e]
  exact ⟨nxt_map (f := fun b : Bd => (⟨5, (f : Int), (t : Int), 0, 0, [], [], [], b⟩ : Ms)), got_map (f := fun b : Bd => (⟨5, (f : Int), (t : Int), 0, 0, [], [], [], b⟩ : Ms)) h1⟩
theorem ptail1 (hk : k = 1) {x : Nat} {i v : List (Int × Int)} (h1 : Got (pnum l) s x) (h2 : Got (plistm 128 (ptwo l) l) (nxt (pnum l) s) i) (h3 : Got (plistm 64 (pst l) l) (nxt (plistm 128 (ptwo l) l) (nxt (pnum l) s)) v) :
    nxt (ptail k f t l) s = nxt (plistm 64 (pst l) l) (nxt (plistm 128 (ptwo l) l) (nxt (pnum l) s)) ∧ Got (ptail k f t l) s ⟨(k : Int), (f : Int), (t : Int), (x : Int), 0, i, v, [], zeroBd⟩ := by subst hk; exact ptail1' h1 h2 h3
theorem ptail3 (hk : k = 3) {x q : Nat} {ns : List Note} (h1 : Got (pnum l) s x) (h2 : Got (pnum l) (nxt (pnum l) s) q) (h3 : Got (plistm 257 (pnotr l) l) (nxt (pnum l) (nxt (pnum l) s)) ns) :
    nxt (ptail k f t l) s = nxt (plistm 257 (pnotr l) l) (nxt (pnum l) (nxt (pnum l) s)) ∧ Got (ptail k f t l) s ⟨(k : Int), (f : Int), (t : Int), (x : Int), (q : Int), [], [], ns, zeroBd⟩ := by subst hk; exact ptail3' h1 h2 h3
theorem ptail4 (hk : k = 4) {o : Nat} (h1 : Got (pnum l) s o) : nxt (ptail k f t l) s = nxt (pnum l) s ∧ Got (ptail k f t l) s ⟨(k : Int), (f : Int), (t : Int), 0, 0, [], [], [], ⟨(o : Int), 0, 0, []⟩⟩ := by subst hk; exact ptail4' h1
theorem ptail5 (hk : k = 5) {b : Bd} (h1 : Got (pbod l) s b) : nxt (ptail k f t l) s = nxt (pbod l) s ∧ Got (ptail k f t l) s ⟨(k : Int), (f : Int), (t : Int), 0, 0, [], [], [], b⟩ := by subst hk; exact ptail5' h1
theorem ptail0 (h1 : k ≠ 1) (h3 : k ≠ 3) (h4 : k ≠ 4) (h5 : k ≠ 5) : nxt (ptail k f t l) s = s ∧ Got (ptail k f t l) s ⟨(k : Int), (f : Int), (t : Int), 0, 0, [], [], [], zeroBd⟩ := by
  have e : ptail k f t l = fun a => some ((⟨(k : Int), (f : Int), (t : Int), 0, 0, [], [], [], zeroBd⟩ : Ms), a) := by
    funext a; unfold ptail; rw [if_neg h1, if_neg h3, if_neg h4, if_neg h5]
  rw [e]
  cases s with
  | none => exact ⟨rfl, Got.none⟩
  | some a => exact ⟨rfl, fun x b hx => by cases hx; rfl⟩
end
end Wi
/-- A message was read. -/
def DMsg (g : Nat) (l : List Int) (s : Option Nat) (w : World) (en : Ending) (w' : World) : Prop :=
  ∃ I V N D ci cv cn d m, en = .returned (.agg (msCells I V N D ci cv cn d m)) ∧ MsSm m ∧ MsOwn w' w.heap.size I V N D ci cv cn d m ∧ DRd w' g l (Wi.nxt (Wi.pmsgr l) s) ∧ Only g w w' ∧ Wi.Got (Wi.pmsgr l) s m
/-- Twelve cells written anew. -/
theorem Blk.put12 {w : World} {g : Nat} {t : TypeId} {z0 z1 z2 z3 z4 z5 z6 z7 z8 z9 z10 z11 : Value} (h : Blk w g t #[z0, z1, z2, z3, z4, z5, z6, z7, z8, z9, z10, z11]) (a0 a1 a2 a3 a4 a5 a6 a7 a8 a9 a10 a11 : Value) :
    Blk ((((((((((((w.setCell ⟨g, 0, none⟩ a0).setCell ⟨g, 1, none⟩ a1).setCell ⟨g, 2, none⟩ a2).setCell ⟨g, 3, none⟩ a3).setCell ⟨g, 4, none⟩ a4).setCell ⟨g, 5, none⟩ a5).setCell ⟨g, 6, none⟩ a6).setCell ⟨g, 7, none⟩ a7).setCell ⟨g, 8, none⟩ a8).setCell ⟨g, 9, none⟩ a9).setCell ⟨g, 10, none⟩ a10).setCell ⟨g, 11, none⟩ a11) g t #[a0, a1, a2, a3, a4, a5, a6, a7, a8, a9, a10, a11] := by
  have h0 : Blk (w.setCell ⟨g, 0, none⟩ a0) g t #[a0, z1, z2, z3, z4, z5, z6, z7, z8, z9, z10, z11] := h.put 0 a0
  have h1 : Blk ((w.setCell ⟨g, 0, none⟩ a0).setCell ⟨g, 1, none⟩ a1) g t #[a0, a1, z2, z3, z4, z5, z6, z7, z8, z9, z10, z11] := h0.put 1 a1
  have h2 : Blk (((w.setCell ⟨g, 0, none⟩ a0).setCell ⟨g, 1, none⟩ a1).setCell ⟨g, 2, none⟩ a2) g t #[a0, a1, a2, z3, z4, z5, z6, z7, z8, z9, z10, z11] := h1.put 2 a2
  have h3 : Blk ((((w.setCell ⟨g, 0, none⟩ a0).setCell ⟨g, 1, none⟩ a1).setCell ⟨g, 2, none⟩ a2).setCell ⟨g, 3, none⟩ a3) g t #[a0, a1, a2, a3, z4, z5, z6, z7, z8, z9, z10, z11] := h2.put 3 a3
  have h4 : Blk (((((w.setCell ⟨g, 0, none⟩ a0).setCell ⟨g, 1, none⟩ a1).setCell ⟨g, 2, none⟩ a2).setCell ⟨g, 3, none⟩ a3).setCell ⟨g, 4, none⟩ a4) g t #[a0, a1, a2, a3, a4, z5, z6, z7, z8, z9, z10, z11] := h3.put 4 a4
  have h5 : Blk ((((((w.setCell ⟨g, 0, none⟩ a0).setCell ⟨g, 1, none⟩ a1).setCell ⟨g, 2, none⟩ a2).setCell ⟨g, 3, none⟩ a3).setCell ⟨g, 4, none⟩ a4).setCell ⟨g, 5, none⟩ a5) g t #[a0, a1, a2, a3, a4, a5, z6, z7, z8, z9, z10, z11] := h4.put 5 a5
  have h6 : Blk (((((((w.setCell ⟨g, 0, none⟩ a0).setCell ⟨g, 1, none⟩ a1).setCell ⟨g, 2, none⟩ a2).setCell ⟨g, 3, none⟩ a3).setCell ⟨g, 4, none⟩ a4).setCell ⟨g, 5, none⟩ a5).setCell ⟨g, 6, none⟩ a6) g t #[a0, a1, a2, a3, a4, a5, a6, z7, z8, z9, z10, z11] := h5.put 6 a6
  have h7 : Blk ((((((((w.setCell ⟨g, 0, none⟩ a0).setCell ⟨g, 1, none⟩ a1).setCell ⟨g, 2, none⟩ a2).setCell ⟨g, 3, none⟩ a3).setCell ⟨g, 4, none⟩ a4).setCell ⟨g, 5, none⟩ a5).setCell ⟨g, 6, none⟩ a6).setCell ⟨g, 7, none⟩ a7) g t #[a0, a1, a2, a3, a4, a5, a6, a7, z8, z9, z10, z11] := h6.put 7 a7
  have h8 : Blk (((((((((w.setCell ⟨g, 0, none⟩ a0).setCell ⟨g, 1, none⟩ a1).setCell ⟨g, 2, none⟩ a2).setCell ⟨g, 3, none⟩ a3).setCell ⟨g, 4, none⟩ a4).setCell ⟨g, 5, none⟩ a5).setCell ⟨g, 6, none⟩ a6).setCell ⟨g, 7, none⟩ a7).setCell ⟨g, 8, none⟩ a8) g t #[a0, a1, a2, a3, a4, a5, a6, a7, a8, z9, z10, z11] := h7.put 8 a8
  have h9 : Blk ((((((((((w.setCell ⟨g, 0, none⟩ a0).setCell ⟨g, 1, none⟩ a1).setCell ⟨g, 2, none⟩ a2).setCell ⟨g, 3, none⟩ a3).setCell ⟨g, 4, none⟩ a4).setCell ⟨g, 5, none⟩ a5).setCell ⟨g, 6, none⟩ a6).setCell ⟨g, 7, none⟩ a7).setCell ⟨g, 8, none⟩ a8).setCell ⟨g, 9, none⟩ a9) g t #[a0, a1, a2, a3, a4, a5, a6, a7, a8, a9, z10, z11] := h8.put 9 a9
  have h10 : Blk (((((((((((w.setCell ⟨g, 0, none⟩ a0).setCell ⟨g, 1, none⟩ a1).setCell ⟨g, 2, none⟩ a2).setCell ⟨g, 3, none⟩ a3).setCell ⟨g, 4, none⟩ a4).setCell ⟨g, 5, none⟩ a5).setCell ⟨g, 6, none⟩ a6).setCell ⟨g, 7, none⟩ a7).setCell ⟨g, 8, none⟩ a8).setCell ⟨g, 9, none⟩ a9).setCell ⟨g, 10, none⟩ a10) g t #[a0, a1, a2, a3, a4, a5, a6, a7, a8, a9, a10, z11] := h9.put 10 a10
  have h11 : Blk ((((((((((((w.setCell ⟨g, 0, none⟩ a0).setCell ⟨g, 1, none⟩ a1).setCell ⟨g, 2, none⟩ a2).setCell ⟨g, 3, none⟩ a3).setCell ⟨g, 4, none⟩ a4).setCell ⟨g, 5, none⟩ a5).setCell ⟨g, 6, none⟩ a6).setCell ⟨g, 7, none⟩ a7).setCell ⟨g, 8, none⟩ a8).setCell ⟨g, 9, none⟩ a9).setCell ⟨g, 10, none⟩ a10).setCell ⟨g, 11, none⟩ a11) g t #[a0, a1, a2, a3, a4, a5, a6, a7, a8, a9, a10, a11] := h10.put 11 a11
  exact h11
theorem infoMs12 : (Try.prog.info? 74).map (·.size) = some 12 := by kernel_rfl
theorem fit_nat {n : Nat} (h : n ≤ 9223372036854775807) : Wi.fit (n : Int) := ⟨by omega, by omega⟩
theorem fit_zero : Wi.fit 0 := ⟨by decide, by decide⟩
theorem own_none (w : World) (base : Nat) (t : TypeId) (sz : Nat) : w.ownsRow base t sz (.slice none 0 0) 0 [] := ⟨by simp, .inl ⟨rfl, rfl⟩⟩

set_option maxRecDepth 100000 in
set_option maxHeartbeats 6400000 in
theorem drmsg_any (g : Nat) (l : List Int) (s : Option Nat) (w : World) (hl : l.length ≤ 1099511627776) (h : DRd w g l s) :
    Calls Try.prog 83 #[.pointer (some ⟨g, 0, none⟩)] w (DMsg g l s w) := by
  have hgl := h.lt
  obtain ⟨n0, hn0⟩ : ∃ n0, w.heap.size = n0 := ⟨_, rfl⟩
  obtain ⟨W, hW⟩ : ∃ W, (w.alloc (.cells #[.int .i64 0, .int .i64 0, .int .i64 0, .int .i64 0, .int .i64 0, .slice none 0 0, .slice none 0 0, .slice none 0 0, .int .i64 0, .int .i64 0, .int .i64 0, .slice none 0 0] 74)).alloc (.cells #[.int .i64 0, .int .i64 0, .int .i64 0, .int .i64 0, .int .i64 0, .slice none 0 0, .slice none 0 0, .slice none 0 0, .int .i64 0, .int .i64 0, .int .i64 0, .slice none 0 0] 74) = W := ⟨_, rfl⟩
  have hb0 : Below w.heap.size w W := by rw [← hW]; exact below_new (below_new (Below.refl _ _) _) _
  have hK2 : Blk W n0 74 #[.int .i64 0, .int .i64 0, .int .i64 0, .int .i64 0, .int .i64 0, .slice none 0 0, .slice none 0 0, .slice none 0 0, .int .i64 0, .int .i64 0, .int .i64 0, .slice none 0 0] := by rw [← hW, ← hn0]; exact (Blk.new w _ _).alloc _
  have hK3 : Blk W (n0 + 1) 74 #[.int .i64 0, .int .i64 0, .int .i64 0, .int .i64 0, .int .i64 0, .slice none 0 0, .slice none 0 0, .slice none 0 0, .int .i64 0, .int .i64 0, .int .i64 0, .slice none 0 0] := by rw [← hW, ← hn0]; simpa using Blk.new (w.alloc (.cells #[.int .i64 0, .int .i64 0, .int .i64 0, .int .i64 0, .int .i64 0, .slice none 0 0, .slice none 0 0, .slice none 0 0, .int .i64 0, .int .i64 0, .int .i64 0, .slice none 0 0] 74)) 74 #[.int .i64 0, .int .i64 0, .int .i64 0, .int .i64 0, .int .i64 0, .slice none 0 0, .slice none 0 0, .slice none 0 0, .int .i64 0, .int .i64 0, .int .i64 0, .slice none 0 0]
  have hWs : W.heap.size = n0 + 2 := by rw [← hW, ← hn0]; simp
  have HW := Lib.hid hW; have HN := Lib.hid hn0
  have hnw : w.heap.size ≤ n0 := by omega
  have hnw1 : w.heap.size ≤ n0 + 1 := by omega
  have hg0 : g < n0 := by omega
  have hg1 : g < n0 + 1 := by omega
  have hWz : n0 + 2 ≤ W.heap.size := by omega
  have o0 := Only.of_below g hb0
  have d0 := h.later hb0
  clear hW h hn0 hb0 hWs
  go_enter Try.func83, Try.ntmps83
  have CK := Lib.hid (drnum_any g l s W d0)
  have K2 := Lib.hid hK2; have K3 := Lib.hid hK3; have O := Lib.hid o0
  clear hK2 hK3 o0 d0
  go_wp2_with fail
  rw [HW.out]
  try rw [HN.out]
  refine CK.out.mono ?_
  rintro e w1 ⟨kd, rfl, hkd, hd, ho, hgot⟩
  have GK := Lib.hid hgot; clear hgot
  have hsz := ho.size
  have k2 := ho.blk K2.out (show n0 ≠ g by omega); have k3 := ho.blk K3.out (show n0 + 1 ≠ g by omega)
  have t1_0 := k3.free 0; have z1_0 := k3.cell (i := 0) rfl
  have dd := (hd.set hg1 0 (.int .i64 (kd : Int)))
  have oo := ((O.out.on ho).setNew hnw1 0 (.int .i64 (kd : Int)))
  have K21 := Lib.hid (k2.far (p := ⟨n0 + 1, 0, none⟩) (show n0 ≠ n0 + 1 by omega) (.int .i64 (kd : Int))); have K31 := Lib.hid (k3.put 0 (.int .i64 (kd : Int))); have O1 := Lib.hid oo
  have CK := Lib.hid (drnum_any g l _ _ dd)
  have hWz1 : n0 + 2 ≤ (w1.setCell ⟨n0 + 1, 0, none⟩ (.int .i64 (kd : Int))).heap.size := by simp; omega
  clear hd ho dd oo k2 k3 hsz
  go_wp2_with fail
  refine CK.out.mono ?_
  rintro e w2 ⟨mf, rfl, hmf, hd, ho, hgot⟩
  have GF := Lib.hid hgot; clear hgot
  have hsz := ho.size
  have k2 := ho.blk K21.out (show n0 ≠ g by omega); have k3 := ho.blk K31.out (show n0 + 1 ≠ g by omega)
  have t2_1 := k3.free 1; have z2_1 := k3.cell (i := 1) rfl
  have dd := (hd.set hg1 1 (.int .i64 (mf : Int)))
  have oo := ((O1.out.on ho).setNew hnw1 1 (.int .i64 (mf : Int)))
  have K22 := Lib.hid (k2.far (p := ⟨n0 + 1, 1, none⟩) (show n0 ≠ n0 + 1 by omega) (.int .i64 (mf : Int))); have K32 := Lib.hid (k3.put 1 (.int .i64 (mf : Int))); have O2 := Lib.hid oo
  have CK := Lib.hid (drnum_any g l _ _ dd)
  have hWz2 : n0 + 2 ≤ (w2.setCell ⟨n0 + 1, 1, none⟩ (.int .i64 (mf : Int))).heap.size := by simp; omega
  clear hd ho dd oo k2 k3 hsz t1_0 z1_0
  go_wp2_with fail
  refine CK.out.mono ?_
  rintro e w3 ⟨mt, rfl, hmt, hd, ho, hgot⟩
  have GT := Lib.hid hgot; clear hgot
  have FK := Lib.hid (fit_nat hkd); have FF := Lib.hid (fit_nat hmf); have FT := Lib.hid (fit_nat hmt)
  have hsz := ho.size
  have k2 := ho.blk K22.out (show n0 ≠ g by omega); have k3 := ho.blk K32.out (show n0 + 1 ≠ g by omega)
  by_cases hk1 : kd = 1
  · have HKD := Lib.hid hk1
    have q1 : ((kd : Int) == 1) = true := beq_iff_eq.2 (by omega)
    clear hk1
    have z3_0 := k3.cell (i := 0) rfl
    have t3_2 := k3.free 2; have z3_2 := k3.cell (i := 2) rfl
    have dd := (hd.set hg1 2 (.int .i64 (mt : Int)))
    have oo := ((O2.out.on ho).setNew hnw1 2 (.int .i64 (mt : Int)))
    have K23 := Lib.hid (k2.far (p := ⟨n0 + 1, 2, none⟩) (show n0 ≠ n0 + 1 by omega) (.int .i64 (mt : Int))); have K33 := Lib.hid (k3.put 2 (.int .i64 (mt : Int))); have O3 := Lib.hid oo
    have CK := Lib.hid (drnum_any g l _ _ dd)
    have hWz3 : n0 + 2 ≤ (w3.setCell ⟨n0 + 1, 2, none⟩ (.int .i64 (mt : Int))).heap.size := by simp; omega
    clear hd ho dd oo k2 k3 hsz t2_1 z2_1
    go_wp2_with fail
    refine CK.out.mono ?_
    rintro e w4 ⟨ms, rfl, hms, hd, ho, hgot⟩
    have GS := Lib.hid hgot; clear hgot
    have hsz := ho.size
    have k2 := ho.blk K23.out (show n0 ≠ g by omega); have k3 := ho.blk K33.out (show n0 + 1 ≠ g by omega)
    have t4_3 := k3.free 3; have z4_3 := k3.cell (i := 3) rfl
    have dd := (hd.set hg1 3 (.int .i64 (ms : Int)))
    have oo := ((O3.out.on ho).setNew hnw1 3 (.int .i64 (ms : Int)))
    have K24 := Lib.hid (k2.far (p := ⟨n0 + 1, 3, none⟩) (show n0 ≠ n0 + 1 by omega) (.int .i64 (ms : Int))); have K34 := Lib.hid (k3.put 3 (.int .i64 (ms : Int))); have O4 := Lib.hid oo
    have CK := Lib.hid (drset_any g l _ _ dd)
    have hWz4 : n0 + 2 ≤ (w4.setCell ⟨n0 + 1, 3, none⟩ (.int .i64 (ms : Int))).heap.size := by simp; omega
    clear hd ho dd oo k2 k3 hsz t3_2 z3_2
    go_wp2_with fail
    refine CK.out.mono ?_
    rintro e w5 ⟨v5, x5, rfl, hx5, fx5, hrow, hd, ho, hgot⟩
    obtain ⟨A5, c5, hv, -⟩ := own_form hrow
    subst hv
    have GI := Lib.hid hgot; have X5 := Lib.hid (And.intro hx5 fx5)
    have r5 := own_base hrow (show n0 + 2 ≤ _ by first | exact hWz4 | omega)
    clear hgot hx5 fx5 hrow
    have hsz := ho.size
    have k2 := ho.blk K24.out (show n0 ≠ g by omega); have k3 := ho.blk K34.out (show n0 + 1 ≠ g by omega)
    have t5_5 := k3.free 5; have z5_5 := k3.cell (i := 5) rfl
    have dd := (hd.set hg1 5 (.slice A5 x5.length c5))
    have oo := ((O4.out.on ho).setNew hnw1 5 (.slice A5 x5.length c5))
    have R5 := Lib.hid (own_set r5 (show n0 + 1 < n0 + 2 by omega) 5 (.slice A5 x5.length c5))
    have K25 := Lib.hid (k2.far (p := ⟨n0 + 1, 5, none⟩) (show n0 ≠ n0 + 1 by omega) (.slice A5 x5.length c5)); have K35 := Lib.hid (k3.put 5 (.slice A5 x5.length c5)); have O5 := Lib.hid oo
    have CK := Lib.hid (drvec_any g l _ _ dd)
    have hWz5 : n0 + 2 ≤ (w5.setCell ⟨n0 + 1, 5, none⟩ (.slice A5 x5.length c5)).heap.size := by simp; omega
    clear hd ho dd oo k2 k3 hsz r5 t4_3 z4_3
    go_wp2_with fail
    refine CK.out.mono ?_
    rintro e w6 ⟨v6, x6, rfl, hx6, fx6, hrow, hd, ho, hgot⟩
    obtain ⟨A6, c6, hv, -⟩ := own_form hrow
    subst hv
    have GV := Lib.hid hgot; have X6 := Lib.hid (And.intro hx6 fx6)
    have r6 := own_base hrow (show n0 + 2 ≤ _ by first | exact hWz5 | omega)
    clear hgot hx6 fx6 hrow
    have hsz := ho.size
    have k2 := ho.blk K25.out (show n0 ≠ g by omega); have k3 := ho.blk K35.out (show n0 + 1 ≠ g by omega)
    have r5 := ho.own R5.out (show g < n0 + 2 by omega)
    clear CK t5_5 z5_5
    have y0 := k3.cell (i := 0) rfl; have m0 := k2.cell (i := 0) rfl; have f0 := k2.free 0
    have y1 := k3.cell (i := 1) rfl; have m1 := k2.cell (i := 1) rfl; have f1 := k2.free 1
    have y2 := k3.cell (i := 2) rfl; have m2 := k2.cell (i := 2) rfl; have f2 := k2.free 2
    have y3 := k3.cell (i := 3) rfl; have m3 := k2.cell (i := 3) rfl; have f3 := k2.free 3
    have y4 := k3.cell (i := 4) rfl; have m4 := k2.cell (i := 4) rfl; have f4 := k2.free 4
    have y5 := k3.cell (i := 5) rfl; have m5 := k2.cell (i := 5) rfl; have f5 := k2.free 5
    have y6 := k3.cell (i := 6) rfl; have m6 := k2.cell (i := 6) rfl; have f6 := k2.free 6
    have y7 := k3.cell (i := 7) rfl; have m7 := k2.cell (i := 7) rfl; have f7 := k2.free 7
    have y8 := k3.cell (i := 8) rfl; have m8 := k2.cell (i := 8) rfl; have f8 := k2.free 8
    have y9 := k3.cell (i := 9) rfl; have m9 := k2.cell (i := 9) rfl; have f9 := k2.free 9
    have y10 := k3.cell (i := 10) rfl; have m10 := k2.cell (i := 10) rfl; have f10 := k2.free 10
    have y11 := k3.cell (i := 11) rfl; have m11 := k2.cell (i := 11) rfl; have f11 := k2.free 11
    have u6 := k3.free 6
    have MO : MsOwn w6 (n0 + 2) A5 A6 none none c5 c6 0 0 (⟨(kd : Int), (mf : Int), (mt : Int), (ms : Int), 0, x5, x6, [], zeroBd⟩ : Ms) := ⟨r5, r6, NotesOwn.nil _ _, own_none _ _ _ _, (fun _ h => by cases h)⟩
    have v1 := ((k2.far (p := ⟨n0 + 1, 6, none⟩) (show n0 ≠ n0 + 1 by omega) (.slice A6 x6.length c6))).put12 (.int .i64 (kd : Int)) (.int .i64 (mf : Int)) (.int .i64 (mt : Int)) (.int .i64 (ms : Int)) (.int .i64 0) (.slice A5 x5.length c5) (.slice A6 x6.length c6) (.slice none 0 0) (.int .i64 0) (.int .i64 0) (.int .i64 0) (.slice none 0 0)
    have dd := (((((((((((((hd.set hg1 6 (.slice A6 x6.length c6)).set hg0 0 (.int .i64 (kd : Int))).set hg0 1 (.int .i64 (mf : Int))).set hg0 2 (.int .i64 (mt : Int))).set hg0 3 (.int .i64 (ms : Int))).set hg0 4 (.int .i64 0)).set hg0 5 (.slice A5 x5.length c5)).set hg0 6 (.slice A6 x6.length c6)).set hg0 7 (.slice none 0 0)).set hg0 8 (.int .i64 0)).set hg0 9 (.int .i64 0)).set hg0 10 (.int .i64 0)).set hg0 11 (.slice none 0 0))
    have oo := ((((((((((((((O5.out.on ho).setNew hnw1 6 (.slice A6 x6.length c6)).setNew hnw 0 (.int .i64 (kd : Int))).setNew hnw 1 (.int .i64 (mf : Int))).setNew hnw 2 (.int .i64 (mt : Int))).setNew hnw 3 (.int .i64 (ms : Int))).setNew hnw 4 (.int .i64 0)).setNew hnw 5 (.slice A5 x5.length c5)).setNew hnw 6 (.slice A6 x6.length c6)).setNew hnw 7 (.slice none 0 0)).setNew hnw 8 (.int .i64 0)).setNew hnw 9 (.int .i64 0)).setNew hnw 10 (.int .i64 0)).setNew hnw 11 (.slice none 0 0))
    have mo := MsOwn.down (((((((((((((MO.set (show n0 + 1 < n0 + 2 by omega) 6 (.slice A6 x6.length c6)).set (show n0 < n0 + 2 by omega) 0 (.int .i64 (kd : Int))).set (show n0 < n0 + 2 by omega) 1 (.int .i64 (mf : Int))).set (show n0 < n0 + 2 by omega) 2 (.int .i64 (mt : Int))).set (show n0 < n0 + 2 by omega) 3 (.int .i64 (ms : Int))).set (show n0 < n0 + 2 by omega) 4 (.int .i64 0)).set (show n0 < n0 + 2 by omega) 5 (.slice A5 x5.length c5)).set (show n0 < n0 + 2 by omega) 6 (.slice A6 x6.length c6)).set (show n0 < n0 + 2 by omega) 7 (.slice none 0 0)).set (show n0 < n0 + 2 by omega) 8 (.int .i64 0)).set (show n0 < n0 + 2 by omega) 9 (.int .i64 0)).set (show n0 < n0 + 2 by omega) 10 (.int .i64 0)).set (show n0 < n0 + 2 by omega) 11 (.slice none 0 0)) (show w.heap.size ≤ n0 + 2 by omega)
    obtain ⟨e1, e2⟩ := Wi.ptail1 (f := mf) (t := mt) HKD.out GS.out GI.out GV.out
    obtain ⟨e3, e4⟩ := Wi.pmsgr_nxt (m := (⟨(kd : Int), (mf : Int), (mt : Int), (ms : Int), 0, x5, x6, [], zeroBd⟩ : Ms)) GK.out GF.out GT.out
    have V1 := Lib.hid v1; have DD := Lib.hid dd; have OO := Lib.hid oo; have MO := Lib.hid mo; have E1 := Lib.hid (e3.trans e1); have E2 := Lib.hid (e4 e2)
    have SM := Lib.hid (⟨FK.out, FF.out, FT.out, fit_nat hms, fit_zero, X5.out, X6.out, ⟨Nat.zero_le _, (fun _ h => by cases h)⟩, ⟨fit_zero, fit_zero, fit_zero⟩⟩ : MsSm (⟨(kd : Int), (mf : Int), (mt : Int), (ms : Int), 0, x5, x6, [], zeroBd⟩ : Ms))
    clear v1 dd oo mo e1 e2 e3 e4 k2 k3 hd ho hsz
    go_wp2
    exact bodyPost_ret (v := .agg (msCells A5 A6 none none c5 c6 0 0 (⟨(kd : Int), (mf : Int), (mt : Int), (ms : Int), 0, x5, x6, [], zeroBd⟩ : Ms))) (results_cell_row rfl _ _ n0 74 (msCells A5 A6 none none c5 c6 0 0 (⟨(kd : Int), (mf : Int), (mt : Int), (ms : Int), 0, x5, x6, [], zeroBd⟩ : Ms)) (0, 0) _ rfl V1.out Try.underlying74 rfl infoMs12) rfl
      ⟨A5, A6, none, none, c5, c6, 0, 0, (⟨(kd : Int), (mf : Int), (mt : Int), (ms : Int), 0, x5, x6, [], zeroBd⟩ : Ms), rfl, SM.out, MO.out, by rw [E1.out]; exact DD.out, OO.out, E2.out⟩
  by_cases hk3 : kd = 3
  · have HKD := Lib.hid hk3
    have q1 : ((kd : Int) == 1) = false := beq_eq_false_iff_ne.2 (by omega)
    have q3 : ((kd : Int) == 3) = true := beq_iff_eq.2 (by omega)
    clear hk3
    have z3_0 := k3.cell (i := 0) rfl
    have t3_2 := k3.free 2; have z3_2 := k3.cell (i := 2) rfl
    have dd := (hd.set hg1 2 (.int .i64 (mt : Int)))
    have oo := ((O2.out.on ho).setNew hnw1 2 (.int .i64 (mt : Int)))
    have K23 := Lib.hid (k2.far (p := ⟨n0 + 1, 2, none⟩) (show n0 ≠ n0 + 1 by omega) (.int .i64 (mt : Int))); have K33 := Lib.hid (k3.put 2 (.int .i64 (mt : Int))); have O3 := Lib.hid oo
    have CK := Lib.hid (drnum_any g l _ _ dd)
    have hWz3 : n0 + 2 ≤ (w3.setCell ⟨n0 + 1, 2, none⟩ (.int .i64 (mt : Int))).heap.size := by simp; omega
    clear hd ho dd oo k2 k3 hsz t2_1 z2_1
    go_wp2_with fail
    refine CK.out.mono ?_
    rintro e w4 ⟨ms, rfl, hms, hd, ho, hgot⟩
    have GS := Lib.hid hgot; clear hgot
    have hsz := ho.size
    have k2 := ho.blk K23.out (show n0 ≠ g by omega); have k3 := ho.blk K33.out (show n0 + 1 ≠ g by omega)
    have t4_3 := k3.free 3; have z4_3 := k3.cell (i := 3) rfl
    have dd := (hd.set hg1 3 (.int .i64 (ms : Int)))
    have oo := ((O3.out.on ho).setNew hnw1 3 (.int .i64 (ms : Int)))
    have K24 := Lib.hid (k2.far (p := ⟨n0 + 1, 3, none⟩) (show n0 ≠ n0 + 1 by omega) (.int .i64 (ms : Int))); have K34 := Lib.hid (k3.put 3 (.int .i64 (ms : Int))); have O4 := Lib.hid oo
    have CK := Lib.hid (drnum_any g l _ _ dd)
    have hWz4 : n0 + 2 ≤ (w4.setCell ⟨n0 + 1, 3, none⟩ (.int .i64 (ms : Int))).heap.size := by simp; omega
    clear hd ho dd oo k2 k3 hsz t3_2 z3_2
    go_wp2_with fail
    refine CK.out.mono ?_
    rintro e w5 ⟨mq, rfl, hmq, hd, ho, hgot⟩
    have GQ := Lib.hid hgot; clear hgot
    have hsz := ho.size
    have k2 := ho.blk K24.out (show n0 ≠ g by omega); have k3 := ho.blk K34.out (show n0 + 1 ≠ g by omega)
    have t5_4 := k3.free 4; have z5_4 := k3.cell (i := 4) rfl
    have dd := (hd.set hg1 4 (.int .i64 (mq : Int)))
    have oo := ((O4.out.on ho).setNew hnw1 4 (.int .i64 (mq : Int)))
    have K25 := Lib.hid (k2.far (p := ⟨n0 + 1, 4, none⟩) (show n0 ≠ n0 + 1 by omega) (.int .i64 (mq : Int))); have K35 := Lib.hid (k3.put 4 (.int .i64 (mq : Int))); have O5 := Lib.hid oo
    have CK := Lib.hid (drlnt_any g l _ _ dd)
    have hWz5 : n0 + 2 ≤ (w5.setCell ⟨n0 + 1, 4, none⟩ (.int .i64 (mq : Int))).heap.size := by simp; omega
    clear hd ho dd oo k2 k3 hsz t4_3 z4_3
    go_wp2_with fail
    refine CK.out.mono ?_
    rintro e w6 ⟨v6, x6, rfl, hx6, fx6, hrow, hd, ho, hgot⟩
    obtain ⟨A6, c6, hv, -⟩ := hrow.one
    subst hv
    have GV := Lib.hid hgot; have X6 := Lib.hid (And.intro hx6 fx6)
    have r6 := hrow.down (show n0 + 2 ≤ _ by first | exact hWz5 | omega)
    clear hgot hx6 fx6 hrow
    have hsz := ho.size
    have k2 := ho.blk K25.out (show n0 ≠ g by omega); have k3 := ho.blk K35.out (show n0 + 1 ≠ g by omega)
    clear CK t5_4 z5_4
    have y0 := k3.cell (i := 0) rfl; have m0 := k2.cell (i := 0) rfl; have f0 := k2.free 0
    have y1 := k3.cell (i := 1) rfl; have m1 := k2.cell (i := 1) rfl; have f1 := k2.free 1
    have y2 := k3.cell (i := 2) rfl; have m2 := k2.cell (i := 2) rfl; have f2 := k2.free 2
    have y3 := k3.cell (i := 3) rfl; have m3 := k2.cell (i := 3) rfl; have f3 := k2.free 3
    have y4 := k3.cell (i := 4) rfl; have m4 := k2.cell (i := 4) rfl; have f4 := k2.free 4
    have y5 := k3.cell (i := 5) rfl; have m5 := k2.cell (i := 5) rfl; have f5 := k2.free 5
    have y6 := k3.cell (i := 6) rfl; have m6 := k2.cell (i := 6) rfl; have f6 := k2.free 6
    have y7 := k3.cell (i := 7) rfl; have m7 := k2.cell (i := 7) rfl; have f7 := k2.free 7
    have y8 := k3.cell (i := 8) rfl; have m8 := k2.cell (i := 8) rfl; have f8 := k2.free 8
    have y9 := k3.cell (i := 9) rfl; have m9 := k2.cell (i := 9) rfl; have f9 := k2.free 9
    have y10 := k3.cell (i := 10) rfl; have m10 := k2.cell (i := 10) rfl; have f10 := k2.free 10
    have y11 := k3.cell (i := 11) rfl; have m11 := k2.cell (i := 11) rfl; have f11 := k2.free 11
    have u7 := k3.free 7
    have MO : MsOwn w6 (n0 + 2) none none A6 none 0 0 c6 0 (⟨(kd : Int), (mf : Int), (mt : Int), (ms : Int), (mq : Int), [], [], x6, zeroBd⟩ : Ms) := ⟨own_none _ _ _ _, own_none _ _ _ _, r6, own_none _ _ _ _, (fun _ h => by cases h)⟩
    have v1 := ((k2.far (p := ⟨n0 + 1, 7, none⟩) (show n0 ≠ n0 + 1 by omega) (.slice A6 x6.length c6))).put12 (.int .i64 (kd : Int)) (.int .i64 (mf : Int)) (.int .i64 (mt : Int)) (.int .i64 (ms : Int)) (.int .i64 (mq : Int)) (.slice none 0 0) (.slice none 0 0) (.slice A6 x6.length c6) (.int .i64 0) (.int .i64 0) (.int .i64 0) (.slice none 0 0)
    have dd := (((((((((((((hd.set hg1 7 (.slice A6 x6.length c6)).set hg0 0 (.int .i64 (kd : Int))).set hg0 1 (.int .i64 (mf : Int))).set hg0 2 (.int .i64 (mt : Int))).set hg0 3 (.int .i64 (ms : Int))).set hg0 4 (.int .i64 (mq : Int))).set hg0 5 (.slice none 0 0)).set hg0 6 (.slice none 0 0)).set hg0 7 (.slice A6 x6.length c6)).set hg0 8 (.int .i64 0)).set hg0 9 (.int .i64 0)).set hg0 10 (.int .i64 0)).set hg0 11 (.slice none 0 0))
    have oo := ((((((((((((((O5.out.on ho).setNew hnw1 7 (.slice A6 x6.length c6)).setNew hnw 0 (.int .i64 (kd : Int))).setNew hnw 1 (.int .i64 (mf : Int))).setNew hnw 2 (.int .i64 (mt : Int))).setNew hnw 3 (.int .i64 (ms : Int))).setNew hnw 4 (.int .i64 (mq : Int))).setNew hnw 5 (.slice none 0 0)).setNew hnw 6 (.slice none 0 0)).setNew hnw 7 (.slice A6 x6.length c6)).setNew hnw 8 (.int .i64 0)).setNew hnw 9 (.int .i64 0)).setNew hnw 10 (.int .i64 0)).setNew hnw 11 (.slice none 0 0))
    have mo := MsOwn.down (((((((((((((MO.set (show n0 + 1 < n0 + 2 by omega) 7 (.slice A6 x6.length c6)).set (show n0 < n0 + 2 by omega) 0 (.int .i64 (kd : Int))).set (show n0 < n0 + 2 by omega) 1 (.int .i64 (mf : Int))).set (show n0 < n0 + 2 by omega) 2 (.int .i64 (mt : Int))).set (show n0 < n0 + 2 by omega) 3 (.int .i64 (ms : Int))).set (show n0 < n0 + 2 by omega) 4 (.int .i64 (mq : Int))).set (show n0 < n0 + 2 by omega) 5 (.slice none 0 0)).set (show n0 < n0 + 2 by omega) 6 (.slice none 0 0)).set (show n0 < n0 + 2 by omega) 7 (.slice A6 x6.length c6)).set (show n0 < n0 + 2 by omega) 8 (.int .i64 0)).set (show n0 < n0 + 2 by omega) 9 (.int .i64 0)).set (show n0 < n0 + 2 by omega) 10 (.int .i64 0)).set (show n0 < n0 + 2 by omega) 11 (.slice none 0 0)) (show w.heap.size ≤ n0 + 2 by omega)
    obtain ⟨e1, e2⟩ := Wi.ptail3 (f := mf) (t := mt) HKD.out GS.out GQ.out GV.out
    obtain ⟨e3, e4⟩ := Wi.pmsgr_nxt (m := (⟨(kd : Int), (mf : Int), (mt : Int), (ms : Int), (mq : Int), [], [], x6, zeroBd⟩ : Ms)) GK.out GF.out GT.out
    have V1 := Lib.hid v1; have DD := Lib.hid dd; have OO := Lib.hid oo; have MO := Lib.hid mo; have E1 := Lib.hid (e3.trans e1); have E2 := Lib.hid (e4 e2)
    have SM := Lib.hid (⟨FK.out, FF.out, FT.out, fit_nat hms, fit_nat hmq, ⟨Nat.zero_le _, (fun _ h => by cases h)⟩, ⟨Nat.zero_le _, (fun _ h => by cases h)⟩, X6.out, ⟨fit_zero, fit_zero, fit_zero⟩⟩ : MsSm (⟨(kd : Int), (mf : Int), (mt : Int), (ms : Int), (mq : Int), [], [], x6, zeroBd⟩ : Ms))
    clear v1 dd oo mo e1 e2 e3 e4 k2 k3 hd ho hsz
    go_wp2
    exact bodyPost_ret (v := .agg (msCells none none A6 none 0 0 c6 0 (⟨(kd : Int), (mf : Int), (mt : Int), (ms : Int), (mq : Int), [], [], x6, zeroBd⟩ : Ms))) (results_cell_row rfl _ _ n0 74 (msCells none none A6 none 0 0 c6 0 (⟨(kd : Int), (mf : Int), (mt : Int), (ms : Int), (mq : Int), [], [], x6, zeroBd⟩ : Ms)) (0, 0) _ rfl V1.out Try.underlying74 rfl infoMs12) rfl
      ⟨none, none, A6, none, 0, 0, c6, 0, (⟨(kd : Int), (mf : Int), (mt : Int), (ms : Int), (mq : Int), [], [], x6, zeroBd⟩ : Ms), rfl, SM.out, MO.out, by rw [E1.out]; exact DD.out, OO.out, E2.out⟩
  by_cases hk4 : kd = 4
  · have HKD := Lib.hid hk4
    have q1 : ((kd : Int) == 1) = false := beq_eq_false_iff_ne.2 (by omega)
    have q3 : ((kd : Int) == 3) = false := beq_eq_false_iff_ne.2 (by omega)
    have q4 : ((kd : Int) == 4) = true := beq_iff_eq.2 (by omega)
    clear hk4
    have z3_0 := k3.cell (i := 0) rfl
    have t3_2 := k3.free 2; have z3_2 := k3.cell (i := 2) rfl
    have dd := (hd.set hg1 2 (.int .i64 (mt : Int)))
    have oo := ((O2.out.on ho).setNew hnw1 2 (.int .i64 (mt : Int)))
    have K23 := Lib.hid (k2.far (p := ⟨n0 + 1, 2, none⟩) (show n0 ≠ n0 + 1 by omega) (.int .i64 (mt : Int))); have K33 := Lib.hid (k3.put 2 (.int .i64 (mt : Int))); have O3 := Lib.hid oo
    have CK := Lib.hid (drnum_any g l _ _ dd)
    have hWz3 : n0 + 2 ≤ (w3.setCell ⟨n0 + 1, 2, none⟩ (.int .i64 (mt : Int))).heap.size := by simp; omega
    clear hd ho dd oo k2 k3 hsz t2_1 z2_1
    go_wp2_with fail
    refine CK.out.mono ?_
    rintro e w4 ⟨bo, rfl, hbo, hd, ho, hgot⟩
    have GS := Lib.hid hgot; clear hgot
    have hsz := ho.size
    have k2 := ho.blk K23.out (show n0 ≠ g by omega); have k3 := ho.blk K33.out (show n0 + 1 ≠ g by omega)
    clear CK t3_2 z3_2
    have y0 := k3.cell (i := 0) rfl; have m0 := k2.cell (i := 0) rfl; have f0 := k2.free 0
    have y1 := k3.cell (i := 1) rfl; have m1 := k2.cell (i := 1) rfl; have f1 := k2.free 1
    have y2 := k3.cell (i := 2) rfl; have m2 := k2.cell (i := 2) rfl; have f2 := k2.free 2
    have y3 := k3.cell (i := 3) rfl; have m3 := k2.cell (i := 3) rfl; have f3 := k2.free 3
    have y4 := k3.cell (i := 4) rfl; have m4 := k2.cell (i := 4) rfl; have f4 := k2.free 4
    have y5 := k3.cell (i := 5) rfl; have m5 := k2.cell (i := 5) rfl; have f5 := k2.free 5
    have y6 := k3.cell (i := 6) rfl; have m6 := k2.cell (i := 6) rfl; have f6 := k2.free 6
    have y7 := k3.cell (i := 7) rfl; have m7 := k2.cell (i := 7) rfl; have f7 := k2.free 7
    have y8 := k3.cell (i := 8) rfl; have m8 := k2.cell (i := 8) rfl; have f8 := k2.free 8
    have y9 := k3.cell (i := 9) rfl; have m9 := k2.cell (i := 9) rfl; have f9 := k2.free 9
    have y10 := k3.cell (i := 10) rfl; have m10 := k2.cell (i := 10) rfl; have f10 := k2.free 10
    have y11 := k3.cell (i := 11) rfl; have m11 := k2.cell (i := 11) rfl; have f11 := k2.free 11
    have u8 := k3.free 8
    have MO : MsOwn w4 (n0 + 2) none none none none 0 0 0 0 (⟨(kd : Int), (mf : Int), (mt : Int), 0, 0, [], [], [], ⟨(bo : Int), 0, 0, []⟩⟩ : Ms) := ⟨own_none _ _ _ _, own_none _ _ _ _, NotesOwn.nil _ _, own_none _ _ _ _, (fun _ h => by cases h)⟩
    have v1 := ((k2.far (p := ⟨n0 + 1, 8, none⟩) (show n0 ≠ n0 + 1 by omega) (.int .i64 (bo : Int)))).put12 (.int .i64 (kd : Int)) (.int .i64 (mf : Int)) (.int .i64 (mt : Int)) (.int .i64 0) (.int .i64 0) (.slice none 0 0) (.slice none 0 0) (.slice none 0 0) (.int .i64 (bo : Int)) (.int .i64 0) (.int .i64 0) (.slice none 0 0)
    have dd := (((((((((((((hd.set hg1 8 (.int .i64 (bo : Int))).set hg0 0 (.int .i64 (kd : Int))).set hg0 1 (.int .i64 (mf : Int))).set hg0 2 (.int .i64 (mt : Int))).set hg0 3 (.int .i64 0)).set hg0 4 (.int .i64 0)).set hg0 5 (.slice none 0 0)).set hg0 6 (.slice none 0 0)).set hg0 7 (.slice none 0 0)).set hg0 8 (.int .i64 (bo : Int))).set hg0 9 (.int .i64 0)).set hg0 10 (.int .i64 0)).set hg0 11 (.slice none 0 0))
    have oo := ((((((((((((((O3.out.on ho).setNew hnw1 8 (.int .i64 (bo : Int))).setNew hnw 0 (.int .i64 (kd : Int))).setNew hnw 1 (.int .i64 (mf : Int))).setNew hnw 2 (.int .i64 (mt : Int))).setNew hnw 3 (.int .i64 0)).setNew hnw 4 (.int .i64 0)).setNew hnw 5 (.slice none 0 0)).setNew hnw 6 (.slice none 0 0)).setNew hnw 7 (.slice none 0 0)).setNew hnw 8 (.int .i64 (bo : Int))).setNew hnw 9 (.int .i64 0)).setNew hnw 10 (.int .i64 0)).setNew hnw 11 (.slice none 0 0))
    have mo := MsOwn.down (((((((((((((MO.set (show n0 + 1 < n0 + 2 by omega) 8 (.int .i64 (bo : Int))).set (show n0 < n0 + 2 by omega) 0 (.int .i64 (kd : Int))).set (show n0 < n0 + 2 by omega) 1 (.int .i64 (mf : Int))).set (show n0 < n0 + 2 by omega) 2 (.int .i64 (mt : Int))).set (show n0 < n0 + 2 by omega) 3 (.int .i64 0)).set (show n0 < n0 + 2 by omega) 4 (.int .i64 0)).set (show n0 < n0 + 2 by omega) 5 (.slice none 0 0)).set (show n0 < n0 + 2 by omega) 6 (.slice none 0 0)).set (show n0 < n0 + 2 by omega) 7 (.slice none 0 0)).set (show n0 < n0 + 2 by omega) 8 (.int .i64 (bo : Int))).set (show n0 < n0 + 2 by omega) 9 (.int .i64 0)).set (show n0 < n0 + 2 by omega) 10 (.int .i64 0)).set (show n0 < n0 + 2 by omega) 11 (.slice none 0 0)) (show w.heap.size ≤ n0 + 2 by omega)
    obtain ⟨e1, e2⟩ := Wi.ptail4 (f := mf) (t := mt) HKD.out GS.out
    obtain ⟨e3, e4⟩ := Wi.pmsgr_nxt (m := (⟨(kd : Int), (mf : Int), (mt : Int), 0, 0, [], [], [], ⟨(bo : Int), 0, 0, []⟩⟩ : Ms)) GK.out GF.out GT.out
    have V1 := Lib.hid v1; have DD := Lib.hid dd; have OO := Lib.hid oo; have MO := Lib.hid mo; have E1 := Lib.hid (e3.trans e1); have E2 := Lib.hid (e4 e2)
    have SM := Lib.hid (⟨FK.out, FF.out, FT.out, fit_zero, fit_zero, ⟨Nat.zero_le _, (fun _ h => by cases h)⟩, ⟨Nat.zero_le _, (fun _ h => by cases h)⟩, ⟨Nat.zero_le _, (fun _ h => by cases h)⟩, ⟨fit_nat hbo, fit_zero, fit_zero⟩⟩ : MsSm (⟨(kd : Int), (mf : Int), (mt : Int), 0, 0, [], [], [], ⟨(bo : Int), 0, 0, []⟩⟩ : Ms))
    clear v1 dd oo mo e1 e2 e3 e4 k2 k3 hd ho hsz
    go_wp2
    exact bodyPost_ret (v := .agg (msCells none none none none 0 0 0 0 (⟨(kd : Int), (mf : Int), (mt : Int), 0, 0, [], [], [], ⟨(bo : Int), 0, 0, []⟩⟩ : Ms))) (results_cell_row rfl _ _ n0 74 (msCells none none none none 0 0 0 0 (⟨(kd : Int), (mf : Int), (mt : Int), 0, 0, [], [], [], ⟨(bo : Int), 0, 0, []⟩⟩ : Ms)) (0, 0) _ rfl V1.out Try.underlying74 rfl infoMs12) rfl
      ⟨none, none, none, none, 0, 0, 0, 0, (⟨(kd : Int), (mf : Int), (mt : Int), 0, 0, [], [], [], ⟨(bo : Int), 0, 0, []⟩⟩ : Ms), rfl, SM.out, MO.out, by rw [E1.out]; exact DD.out, OO.out, E2.out⟩
  by_cases hk5 : kd = 5
  · have HKD := Lib.hid hk5
    have q1 : ((kd : Int) == 1) = false := beq_eq_false_iff_ne.2 (by omega)
    have q3 : ((kd : Int) == 3) = false := beq_eq_false_iff_ne.2 (by omega)
    have q4 : ((kd : Int) == 4) = false := beq_eq_false_iff_ne.2 (by omega)
    have q5 : ((kd : Int) == 5) = true := beq_iff_eq.2 (by omega)
    clear hk5
    have z3_0 := k3.cell (i := 0) rfl
    have t3_2 := k3.free 2; have z3_2 := k3.cell (i := 2) rfl
    have dd := (hd.set hg1 2 (.int .i64 (mt : Int)))
    have oo := ((O2.out.on ho).setNew hnw1 2 (.int .i64 (mt : Int)))
    have K23 := Lib.hid (k2.far (p := ⟨n0 + 1, 2, none⟩) (show n0 ≠ n0 + 1 by omega) (.int .i64 (mt : Int))); have K33 := Lib.hid (k3.put 2 (.int .i64 (mt : Int))); have O3 := Lib.hid oo
    have CK := Lib.hid (drbod_any g l _ _ hl dd)
    have hWz3 : n0 + 2 ≤ (w3.setCell ⟨n0 + 1, 2, none⟩ (.int .i64 (mt : Int))).heap.size := by simp; omega
    clear hd ho dd oo k2 k3 hsz t2_1 z2_1
    go_wp2_with fail
    refine CK.out.mono ?_
    rintro e w4 ⟨A4, c4, x4, rfl, fo4, fc4, fn4, hrow, hby, hd, ho, hgot⟩
    obtain ⟨bo, bc, bn, bv⟩ := x4
    unfold bdCells
    simp only at fo4 fc4 fn4 hrow hby ⊢
    have GS := Lib.hid hgot
    have r4 := own_base hrow (show n0 + 2 ≤ _ by first | exact hWz3 | omega)
    have F4 := Lib.hid (And.intro fo4 (And.intro fc4 fn4)); have B4 := Lib.hid hby
    clear hgot hrow fo4 fc4 fn4 hby
    have hsz := ho.size
    have k2 := ho.blk K23.out (show n0 ≠ g by omega); have k3 := ho.blk K33.out (show n0 + 1 ≠ g by omega)
    clear CK t3_2 z3_2
    have y0 := k3.cell (i := 0) rfl; have m0 := k2.cell (i := 0) rfl; have f0 := k2.free 0
    have y1 := k3.cell (i := 1) rfl; have m1 := k2.cell (i := 1) rfl; have f1 := k2.free 1
    have y2 := k3.cell (i := 2) rfl; have m2 := k2.cell (i := 2) rfl; have f2 := k2.free 2
    have y3 := k3.cell (i := 3) rfl; have m3 := k2.cell (i := 3) rfl; have f3 := k2.free 3
    have y4 := k3.cell (i := 4) rfl; have m4 := k2.cell (i := 4) rfl; have f4 := k2.free 4
    have y5 := k3.cell (i := 5) rfl; have m5 := k2.cell (i := 5) rfl; have f5 := k2.free 5
    have y6 := k3.cell (i := 6) rfl; have m6 := k2.cell (i := 6) rfl; have f6 := k2.free 6
    have y7 := k3.cell (i := 7) rfl; have m7 := k2.cell (i := 7) rfl; have f7 := k2.free 7
    have y8 := k3.cell (i := 8) rfl; have m8 := k2.cell (i := 8) rfl; have f8 := k2.free 8
    have y9 := k3.cell (i := 9) rfl; have m9 := k2.cell (i := 9) rfl; have f9 := k2.free 9
    have y10 := k3.cell (i := 10) rfl; have m10 := k2.cell (i := 10) rfl; have f10 := k2.free 10
    have y11 := k3.cell (i := 11) rfl; have m11 := k2.cell (i := 11) rfl; have f11 := k2.free 11
    have u8 := k3.free 8
    have u9 := k3.free 9
    have u10 := k3.free 10
    have u11 := k3.free 11
    have MO : MsOwn w4 (n0 + 2) none none none A4 0 0 0 c4 (⟨(kd : Int), (mf : Int), (mt : Int), 0, 0, [], [], [], ⟨bo, bc, bn, bv⟩⟩ : Ms) := ⟨own_none _ _ _ _, own_none _ _ _ _, NotesOwn.nil _ _, r4, B4.out⟩
    have v1 := (((((k2.far (p := ⟨n0 + 1, 8, none⟩) (show n0 ≠ n0 + 1 by omega) (.int .i64 bo)).far (p := ⟨n0 + 1, 9, none⟩) (show n0 ≠ n0 + 1 by omega) (.int .i64 bc)).far (p := ⟨n0 + 1, 10, none⟩) (show n0 ≠ n0 + 1 by omega) (.int .i64 bn)).far (p := ⟨n0 + 1, 11, none⟩) (show n0 ≠ n0 + 1 by omega) (.slice A4 bv.length c4))).put12 (.int .i64 (kd : Int)) (.int .i64 (mf : Int)) (.int .i64 (mt : Int)) (.int .i64 0) (.int .i64 0) (.slice none 0 0) (.slice none 0 0) (.slice none 0 0) (.int .i64 bo) (.int .i64 bc) (.int .i64 bn) (.slice A4 bv.length c4)
    have dd := ((((((((((((((((hd.set hg1 8 (.int .i64 bo)).set hg1 9 (.int .i64 bc)).set hg1 10 (.int .i64 bn)).set hg1 11 (.slice A4 bv.length c4)).set hg0 0 (.int .i64 (kd : Int))).set hg0 1 (.int .i64 (mf : Int))).set hg0 2 (.int .i64 (mt : Int))).set hg0 3 (.int .i64 0)).set hg0 4 (.int .i64 0)).set hg0 5 (.slice none 0 0)).set hg0 6 (.slice none 0 0)).set hg0 7 (.slice none 0 0)).set hg0 8 (.int .i64 bo)).set hg0 9 (.int .i64 bc)).set hg0 10 (.int .i64 bn)).set hg0 11 (.slice A4 bv.length c4))
    have oo := (((((((((((((((((O3.out.on ho).setNew hnw1 8 (.int .i64 bo)).setNew hnw1 9 (.int .i64 bc)).setNew hnw1 10 (.int .i64 bn)).setNew hnw1 11 (.slice A4 bv.length c4)).setNew hnw 0 (.int .i64 (kd : Int))).setNew hnw 1 (.int .i64 (mf : Int))).setNew hnw 2 (.int .i64 (mt : Int))).setNew hnw 3 (.int .i64 0)).setNew hnw 4 (.int .i64 0)).setNew hnw 5 (.slice none 0 0)).setNew hnw 6 (.slice none 0 0)).setNew hnw 7 (.slice none 0 0)).setNew hnw 8 (.int .i64 bo)).setNew hnw 9 (.int .i64 bc)).setNew hnw 10 (.int .i64 bn)).setNew hnw 11 (.slice A4 bv.length c4))
    have mo := MsOwn.down ((((((((((((((((MO.set (show n0 + 1 < n0 + 2 by omega) 8 (.int .i64 bo)).set (show n0 + 1 < n0 + 2 by omega) 9 (.int .i64 bc)).set (show n0 + 1 < n0 + 2 by omega) 10 (.int .i64 bn)).set (show n0 + 1 < n0 + 2 by omega) 11 (.slice A4 bv.length c4)).set (show n0 < n0 + 2 by omega) 0 (.int .i64 (kd : Int))).set (show n0 < n0 + 2 by omega) 1 (.int .i64 (mf : Int))).set (show n0 < n0 + 2 by omega) 2 (.int .i64 (mt : Int))).set (show n0 < n0 + 2 by omega) 3 (.int .i64 0)).set (show n0 < n0 + 2 by omega) 4 (.int .i64 0)).set (show n0 < n0 + 2 by omega) 5 (.slice none 0 0)).set (show n0 < n0 + 2 by omega) 6 (.slice none 0 0)).set (show n0 < n0 + 2 by omega) 7 (.slice none 0 0)).set (show n0 < n0 + 2 by omega) 8 (.int .i64 bo)).set (show n0 < n0 + 2 by omega) 9 (.int .i64 bc)).set (show n0 < n0 + 2 by omega) 10 (.int .i64 bn)).set (show n0 < n0 + 2 by omega) 11 (.slice A4 bv.length c4)) (show w.heap.size ≤ n0 + 2 by omega)
    obtain ⟨e1, e2⟩ := Wi.ptail5 (f := mf) (t := mt) HKD.out GS.out
    obtain ⟨e3, e4⟩ := Wi.pmsgr_nxt (m := (⟨(kd : Int), (mf : Int), (mt : Int), 0, 0, [], [], [], ⟨bo, bc, bn, bv⟩⟩ : Ms)) GK.out GF.out GT.out
    have V1 := Lib.hid v1; have DD := Lib.hid dd; have OO := Lib.hid oo; have MO := Lib.hid mo; have E1 := Lib.hid (e3.trans e1); have E2 := Lib.hid (e4 e2)
    have SM := Lib.hid (⟨FK.out, FF.out, FT.out, fit_zero, fit_zero, ⟨Nat.zero_le _, (fun _ h => by cases h)⟩, ⟨Nat.zero_le _, (fun _ h => by cases h)⟩, ⟨Nat.zero_le _, (fun _ h => by cases h)⟩, F4.out⟩ : MsSm (⟨(kd : Int), (mf : Int), (mt : Int), 0, 0, [], [], [], ⟨bo, bc, bn, bv⟩⟩ : Ms))
    clear v1 dd oo mo e1 e2 e3 e4 k2 k3 hd ho hsz
    go_wp2
    exact bodyPost_ret (v := .agg (msCells none none none A4 0 0 0 c4 (⟨(kd : Int), (mf : Int), (mt : Int), 0, 0, [], [], [], ⟨bo, bc, bn, bv⟩⟩ : Ms))) (results_cell_row rfl _ _ n0 74 (msCells none none none A4 0 0 0 c4 (⟨(kd : Int), (mf : Int), (mt : Int), 0, 0, [], [], [], ⟨bo, bc, bn, bv⟩⟩ : Ms)) (0, 0) _ rfl V1.out Try.underlying74 rfl infoMs12) rfl
      ⟨none, none, none, A4, 0, 0, 0, c4, (⟨(kd : Int), (mf : Int), (mt : Int), 0, 0, [], [], [], ⟨bo, bc, bn, bv⟩⟩ : Ms), rfl, SM.out, MO.out, by rw [E1.out]; exact DD.out, OO.out, E2.out⟩
  have q1 : ((kd : Int) == 1) = false := beq_eq_false_iff_ne.2 (by omega)
  have q3 : ((kd : Int) == 3) = false := beq_eq_false_iff_ne.2 (by omega)
  have q4 : ((kd : Int) == 4) = false := beq_eq_false_iff_ne.2 (by omega)
  have q5 : ((kd : Int) == 5) = false := beq_eq_false_iff_ne.2 (by omega)
  clear CK t2_1 z2_1
  have y0 := k3.cell (i := 0) rfl; have m0 := k2.cell (i := 0) rfl; have f0 := k2.free 0
  have y1 := k3.cell (i := 1) rfl; have m1 := k2.cell (i := 1) rfl; have f1 := k2.free 1
  have y2 := k3.cell (i := 2) rfl; have m2 := k2.cell (i := 2) rfl; have f2 := k2.free 2
  have y3 := k3.cell (i := 3) rfl; have m3 := k2.cell (i := 3) rfl; have f3 := k2.free 3
  have y4 := k3.cell (i := 4) rfl; have m4 := k2.cell (i := 4) rfl; have f4 := k2.free 4
  have y5 := k3.cell (i := 5) rfl; have m5 := k2.cell (i := 5) rfl; have f5 := k2.free 5
  have y6 := k3.cell (i := 6) rfl; have m6 := k2.cell (i := 6) rfl; have f6 := k2.free 6
  have y7 := k3.cell (i := 7) rfl; have m7 := k2.cell (i := 7) rfl; have f7 := k2.free 7
  have y8 := k3.cell (i := 8) rfl; have m8 := k2.cell (i := 8) rfl; have f8 := k2.free 8
  have y9 := k3.cell (i := 9) rfl; have m9 := k2.cell (i := 9) rfl; have f9 := k2.free 9
  have y10 := k3.cell (i := 10) rfl; have m10 := k2.cell (i := 10) rfl; have f10 := k2.free 10
  have y11 := k3.cell (i := 11) rfl; have m11 := k2.cell (i := 11) rfl; have f11 := k2.free 11
  have u2 := k3.free 2
  have MO : MsOwn w3 (n0 + 2) none none none none 0 0 0 0 (⟨(kd : Int), (mf : Int), (mt : Int), 0, 0, [], [], [], zeroBd⟩ : Ms) := ⟨own_none _ _ _ _, own_none _ _ _ _, NotesOwn.nil _ _, own_none _ _ _ _, (fun _ h => by cases h)⟩
  have v1 := ((k2.far (p := ⟨n0 + 1, 2, none⟩) (show n0 ≠ n0 + 1 by omega) (.int .i64 (mt : Int)))).put12 (.int .i64 (kd : Int)) (.int .i64 (mf : Int)) (.int .i64 (mt : Int)) (.int .i64 0) (.int .i64 0) (.slice none 0 0) (.slice none 0 0) (.slice none 0 0) (.int .i64 0) (.int .i64 0) (.int .i64 0) (.slice none 0 0)
  have dd := (((((((((((((hd.set hg1 2 (.int .i64 (mt : Int))).set hg0 0 (.int .i64 (kd : Int))).set hg0 1 (.int .i64 (mf : Int))).set hg0 2 (.int .i64 (mt : Int))).set hg0 3 (.int .i64 0)).set hg0 4 (.int .i64 0)).set hg0 5 (.slice none 0 0)).set hg0 6 (.slice none 0 0)).set hg0 7 (.slice none 0 0)).set hg0 8 (.int .i64 0)).set hg0 9 (.int .i64 0)).set hg0 10 (.int .i64 0)).set hg0 11 (.slice none 0 0))
  have oo := ((((((((((((((O2.out.on ho).setNew hnw1 2 (.int .i64 (mt : Int))).setNew hnw 0 (.int .i64 (kd : Int))).setNew hnw 1 (.int .i64 (mf : Int))).setNew hnw 2 (.int .i64 (mt : Int))).setNew hnw 3 (.int .i64 0)).setNew hnw 4 (.int .i64 0)).setNew hnw 5 (.slice none 0 0)).setNew hnw 6 (.slice none 0 0)).setNew hnw 7 (.slice none 0 0)).setNew hnw 8 (.int .i64 0)).setNew hnw 9 (.int .i64 0)).setNew hnw 10 (.int .i64 0)).setNew hnw 11 (.slice none 0 0))
  have mo := MsOwn.down (((((((((((((MO.set (show n0 + 1 < n0 + 2 by omega) 2 (.int .i64 (mt : Int))).set (show n0 < n0 + 2 by omega) 0 (.int .i64 (kd : Int))).set (show n0 < n0 + 2 by omega) 1 (.int .i64 (mf : Int))).set (show n0 < n0 + 2 by omega) 2 (.int .i64 (mt : Int))).set (show n0 < n0 + 2 by omega) 3 (.int .i64 0)).set (show n0 < n0 + 2 by omega) 4 (.int .i64 0)).set (show n0 < n0 + 2 by omega) 5 (.slice none 0 0)).set (show n0 < n0 + 2 by omega) 6 (.slice none 0 0)).set (show n0 < n0 + 2 by omega) 7 (.slice none 0 0)).set (show n0 < n0 + 2 by omega) 8 (.int .i64 0)).set (show n0 < n0 + 2 by omega) 9 (.int .i64 0)).set (show n0 < n0 + 2 by omega) 10 (.int .i64 0)).set (show n0 < n0 + 2 by omega) 11 (.slice none 0 0)) (show w.heap.size ≤ n0 + 2 by omega)
  obtain ⟨e1, e2⟩ := Wi.ptail0 (f := mf) (t := mt) hk1 hk3 hk4 hk5
  obtain ⟨e3, e4⟩ := Wi.pmsgr_nxt (m := (⟨(kd : Int), (mf : Int), (mt : Int), 0, 0, [], [], [], zeroBd⟩ : Ms)) GK.out GF.out GT.out
  have V1 := Lib.hid v1; have DD := Lib.hid dd; have OO := Lib.hid oo; have MO := Lib.hid mo; have E1 := Lib.hid (e3.trans e1); have E2 := Lib.hid (e4 e2)
  have SM := Lib.hid (⟨FK.out, FF.out, FT.out, fit_zero, fit_zero, ⟨Nat.zero_le _, (fun _ h => by cases h)⟩, ⟨Nat.zero_le _, (fun _ h => by cases h)⟩, ⟨Nat.zero_le _, (fun _ h => by cases h)⟩, ⟨fit_zero, fit_zero, fit_zero⟩⟩ : MsSm (⟨(kd : Int), (mf : Int), (mt : Int), 0, 0, [], [], [], zeroBd⟩ : Ms))
  clear v1 dd oo mo e1 e2 e3 e4 k2 k3 hd ho hsz
  go_wp2
  exact bodyPost_ret (v := .agg (msCells none none none none 0 0 0 0 (⟨(kd : Int), (mf : Int), (mt : Int), 0, 0, [], [], [], zeroBd⟩ : Ms))) (results_cell_row rfl _ _ n0 74 (msCells none none none none 0 0 0 0 (⟨(kd : Int), (mf : Int), (mt : Int), 0, 0, [], [], [], zeroBd⟩ : Ms)) (0, 0) _ rfl V1.out Try.underlying74 rfl infoMs12) rfl
    ⟨none, none, none, none, 0, 0, 0, 0, (⟨(kd : Int), (mf : Int), (mt : Int), 0, 0, [], [], [], zeroBd⟩ : Ms), rfl, SM.out, MO.out, by rw [E1.out]; exact DD.out, OO.out, E2.out⟩

end Go.Proofs.Ytbbmngabbbehcaa
namespace Go.Proofs.Ytbbmngabbbehcaa
open Go.RowKit

namespace Wi
theorem bind_some {α β : Type} {x : Option α} {f : α → Option β} {y : β} (h : x.bind f = some y) : ∃ z, x = some z ∧ f z = some y := by
  cases x with
  | none => cases h
  | some z => exact ⟨z, rfl, h⟩
theorem map_some {α β : Type} {x : Option α} {f : α → β} {y : β} (h : x.map f = some y) : ∃ z, x = some z ∧ f z = y := by
  cases x with
  | none => cases h
  | some z => exact ⟨z, rfl, Option.some.inj h⟩
/-- The bytes from a place up to another one. -/
def seg (l : List Int) (a b : Nat) : List Int := (l.drop a).take (b - a)
theorem seg_on (l : List Int) {a b c : Nat} (h1 : a ≤ b) (h2 : b ≤ c) : seg l a b ++ seg l b c = seg l a c := by
  unfold seg
  have h : c - a = (b - a) + (c - b) := by omega
  have h' : a + (b - a) = b := by omega
  rw [h, List.take_add, List.drop_drop, h']
theorem seg_nil (l : List Int) (a : Nat) : seg l a a = [] := by
  unfold seg
  simp
theorem seg_all (l : List Int) : seg l 0 l.length = l := by
  unfold seg
  simp
/-- What is read at a place are just these bytes. -/
def Ex {α : Type} (l : List Int) (p : Nat → Option (α × Nat)) (e : α → List Int) : Prop := ∀ a x b, a ≤ l.length → p a = some (x, b) → a ≤ b ∧ b ≤ l.length ∧ seg l a b = e x
section
variable {l : List Int} (hl : ∀ x ∈ l, isB x)
include hl
theorem ex_num : Ex l (pnum l) Pk.bytesOf := by
  intro a x b ha h
  obtain ⟨h1, h2, _⟩ := pnum_le hl ha h
  refine ⟨by omega, h2, ?_⟩
  unfold pnum at h
  rcases Pk.num_ways (l.drop a) (fun x hx => hl x (List.mem_of_mem_drop hx)) with (hw | hw) | ⟨v, k, hw, hk1, hkl, hk9, hv⟩
  · rw [hw] at h
    simp at h
  · rw [hw] at h
    simp at h
  · have hb := Pk.num_back (l.drop a) (fun x hx => hl x (List.mem_of_mem_drop hx)) v k hw
    rw [hw] at h
    simp at h
    obtain ⟨rfl, rfl⟩ := h
    unfold seg
    have hk : a + k - a = k := by omega
    rw [hb, hk]
omit hl in
theorem by_nat (n : Nat) : by_ (n : Int) = Pk.bytesOf n := rfl
theorem ex_two : Ex l (ptwo l) etwo := by
  intro a x b ha h
  obtain ⟨⟨u, c⟩, h1, h⟩ := bind_some h
  obtain ⟨⟨v, d⟩, h2, h⟩ := map_some h
  cases h
  obtain ⟨k1, k2, k3⟩ := ex_num hl a u c ha h1
  obtain ⟨m1, m2, m3⟩ := ex_num hl c v d k2 h2
  refine ⟨by omega, m2, ?_⟩
  rw [← seg_on l k1 m1, k3, m3]
  rfl
theorem ex_st : Ex l (pst l) est := by
  intro a x b ha h
  obtain ⟨⟨u, c⟩, h1, h⟩ := map_some h
  cases h
  exact ex_two hl a u c ha h1
omit hl in
theorem ex_rep {α : Type} {p : Nat → Option (α × Nat)} {e : α → List Int} (h : Ex l p e) : ∀ n, Ex l (rep p n) (fun r => r.flatMap e) := by
  intro n
  induction n with
  | zero =>
    intro a x b ha hr
    cases hr
    exact ⟨Nat.le_refl _, ha, by rw [seg_nil]; rfl⟩
  | succ n ih =>
    intro a x b ha hr
    obtain ⟨⟨u, c⟩, h1, hr⟩ := bind_some hr
    obtain ⟨⟨v, d⟩, h2, hr⟩ := map_some hr
    cases hr
    obtain ⟨k1, k2, k3⟩ := h a u c ha h1
    obtain ⟨m1, m2, m3⟩ := ih c v d k2 h2
    refine ⟨by omega, m2, ?_⟩
    rw [← seg_on l k1 m1, k3, m3]
    rfl
omit hl in
theorem rep_len {α : Type} {p : Nat → Option (α × Nat)} : ∀ n a r b, rep p n a = some (r, b) → r.length = n := by
  intro n
  induction n with
  | zero =>
    intro a r b h
    cases h
    rfl
  | succ n ih =>
    intro a r b h
    obtain ⟨⟨u, c⟩, h1, h⟩ := bind_some h
    obtain ⟨⟨v, d⟩, h2, h⟩ := map_some h
    cases h
    rw [List.length_cons, ih c v d h2]
theorem ex_list {α : Type} {most : Nat} {p : Nat → Option (α × Nat)} {e : α → List Int} (h : Ex l p e) : Ex l (plistm most p l) (elist e) := by
  intro a x b ha hr
  obtain ⟨⟨n, c⟩, h1, hr⟩ := bind_some hr
  replace hr : (if n ≤ most then rep p n c else none) = some (x, b) := hr
  by_cases hn : n ≤ most
  · rw [if_pos hn] at hr
    obtain ⟨k1, k2, k3⟩ := ex_num hl a n c ha h1
    obtain ⟨m1, m2, m3⟩ := ex_rep h n c x b k2 hr
    refine ⟨by omega, m2, ?_⟩
    rw [← seg_on l k1 m1, k3, m3]
    unfold elist
    rw [rep_len n c x b hr]
  · rw [if_neg hn] at hr
    cases hr
theorem ex_wr : Ex l (pwr l) ewr := by
  intro a x b ha h
  obtain ⟨⟨o, c1⟩, h1, h⟩ := bind_some h
  obtain ⟨⟨n, c2⟩, h2, h⟩ := bind_some h
  obtain ⟨⟨c, c3⟩, h3, h⟩ := bind_some h
  obtain ⟨⟨g, c4⟩, h4, h⟩ := bind_some h
  replace h : (if g ≤ 1 then some (((c : Int), (n : Int), (o : Int), decide (g = 1)), c4) else none) = some (x, b) := h
  by_cases hg : g ≤ 1
  · rw [if_pos hg] at h
    cases h
    obtain ⟨k1, q1, e1⟩ := ex_num hl a o c1 ha h1
    obtain ⟨k2, q2, e2⟩ := ex_num hl c1 n c2 q1 h2
    obtain ⟨k3, q3, e3⟩ := ex_num hl c2 c c3 q2 h3
    obtain ⟨k4, q4, e4⟩ := ex_num hl c3 g b q3 h4
    refine ⟨by omega, q4, ?_⟩
    have hb : Pk.bytesOf g = [if decide (g = 1) = true then 1 else 0] := by
      have : g = 0 ∨ g = 1 := by omega
      rcases this with rfl | rfl <;> rfl
    rw [← seg_on l (b := c3) (by omega) k4, ← seg_on l (b := c2) (by omega) k3, ← seg_on l k1 k2, e1, e2, e3, e4, hb]
    rfl
  · rw [if_neg hg] at h
    cases h
theorem ex_row {most : Int} : Ex l (prow l most) Pk.laid := by
  intro a x b ha h
  obtain ⟨h1, h2, _⟩ := prow_le hl ha h
  refine ⟨by omega, h2, ?_⟩
  unfold prow at h
  rcases Pk.row_ways (l.drop a) most (fun x hx => hl x (List.mem_of_mem_drop hx)) with ⟨e, he, hr⟩ | ⟨q', j, hr, hq, hj, hb, _⟩
  · rw [hr] at h
    simp at h
    omega
  · rw [hr] at h
    simp at h
    obtain ⟨rfl, rfl⟩ := h
    unfold seg
    have hk : a + j - a = j := by omega
    rw [hq, hk]
theorem ex_bod : Ex l (pbod l) ebody := by
  intro a x b ha h
  obtain ⟨⟨o, c1⟩, h1, h⟩ := bind_some h
  obtain ⟨⟨s, c2⟩, h2, h⟩ := bind_some h
  obtain ⟨⟨v, c3⟩, h3, h⟩ := map_some h
  cases h
  obtain ⟨k1, q1, e1⟩ := ex_num hl a o c1 ha h1
  obtain ⟨k2, q2, e2⟩ := ex_st hl c1 s c2 q1 h2
  obtain ⟨k3, q3, e3⟩ := ex_row hl c2 v c3 q2 h3
  refine ⟨by omega, q3, ?_⟩
  rw [← seg_on l (b := c2) (by omega) k3, ← seg_on l k1 k2, e1, e2, e3]
  simp only [ebody, est, by_nat, List.append_assoc]
theorem ex_note : Ex l (pnotr l) enote := by
  intro a x b ha h
  obtain ⟨⟨s, c1⟩, h1, h⟩ := bind_some h
  obtain ⟨⟨e, c2⟩, h2, h⟩ := bind_some h
  obtain ⟨⟨u, c3⟩, h3, h⟩ := bind_some h
  obtain ⟨⟨v, c4⟩, h4, h⟩ := map_some h
  cases h
  obtain ⟨k1, q1, e1⟩ := ex_list hl (ex_st hl) a s c1 ha h1
  obtain ⟨k2, q2, e2⟩ := ex_list hl (ex_st hl) c1 e c2 q1 h2
  obtain ⟨k3, q3, e3⟩ := ex_list hl (ex_two hl) c2 u c3 q2 h3
  obtain ⟨k4, q4, e4⟩ := ex_list hl (ex_wr hl) c3 v c4 q3 h4
  refine ⟨by omega, q4, ?_⟩
  rw [← seg_on l (b := c3) (by omega) k4, ← seg_on l (b := c2) (by omega) k3, ← seg_on l k1 k2, e1, e2, e3, e4]
  simp only [enote, elist, List.append_assoc]
theorem ex_tail (k f t : Nat) : Ex l (ptail k f t l) (fun m => etail m) := by
  intro a x b ha h
  unfold ptail at h
  by_cases h1 : k = 1
  · rw [if_pos h1] at h
    obtain ⟨⟨s, c1⟩, g1, h⟩ := bind_some h
    obtain ⟨⟨i, c2⟩, g2, h⟩ := bind_some h
    obtain ⟨⟨v, c3⟩, g3, h⟩ := map_some h
    cases h
    obtain ⟨k1, q1, e1⟩ := ex_num hl a s c1 ha g1
    obtain ⟨k2, q2, e2⟩ := ex_list hl (ex_two hl) c1 i c2 q1 g2
    obtain ⟨k3, q3, e3⟩ := ex_list hl (ex_st hl) c2 v c3 q2 g3
    refine ⟨by omega, q3, ?_⟩
    rw [← seg_on l (b := c2) (by omega) k3, ← seg_on l k1 k2, e1, e2, e3]
    have hk : (k : Int) = 1 := by omega
    simp only [etail, if_pos hk, by_nat]
  rw [if_neg h1] at h
  have n1 : ¬ (k : Int) = 1 := by omega
  by_cases h3 : k = 3
  · rw [if_pos h3] at h
    obtain ⟨⟨s, c1⟩, g1, h⟩ := bind_some h
    obtain ⟨⟨i, c2⟩, g2, h⟩ := bind_some h
    obtain ⟨⟨v, c3⟩, g3, h⟩ := map_some h
    cases h
    obtain ⟨k1, q1, e1⟩ := ex_num hl a s c1 ha g1
    obtain ⟨k2, q2, e2⟩ := ex_num hl c1 i c2 q1 g2
    obtain ⟨k3, q3, e3⟩ := ex_list hl (ex_note hl) c2 v c3 q2 g3
    refine ⟨by omega, q3, ?_⟩
    rw [← seg_on l (b := c2) (by omega) k3, ← seg_on l k1 k2, e1, e2, e3]
    have hk : (k : Int) = 3 := by omega
    simp only [etail, if_neg n1, if_pos hk, by_nat]
  rw [if_neg h3] at h
  have n3 : ¬ (k : Int) = 3 := by omega
  by_cases h4 : k = 4
  · rw [if_pos h4] at h
    obtain ⟨⟨o, c1⟩, g1, h⟩ := map_some h
    cases h
    obtain ⟨k1, q1, e1⟩ := ex_num hl a o c1 ha g1
    refine ⟨k1, q1, ?_⟩
    have hk : (k : Int) = 4 := by omega
    simp only [etail, if_neg n1, if_neg n3, if_pos hk, by_nat]
    exact e1
  rw [if_neg h4] at h
  have n4 : ¬ (k : Int) = 4 := by omega
  by_cases h5 : k = 5
  · rw [if_pos h5] at h
    obtain ⟨⟨o, c1⟩, g1, h⟩ := map_some h
    cases h
    obtain ⟨k1, q1, e1⟩ := ex_bod hl a o c1 ha g1
    refine ⟨k1, q1, ?_⟩
    have hk : (k : Int) = 5 := by omega
    simp only [etail, if_neg n1, if_neg n3, if_neg n4, if_pos hk]
    exact e1
  rw [if_neg h5] at h
  have n5 : ¬ (k : Int) = 5 := by omega
  cases h
  refine ⟨Nat.le_refl _, ha, ?_⟩
  simp only [etail, if_neg n1, if_neg n3, if_neg n4, if_neg n5]
  exact seg_nil l a
omit hl in
theorem tail_head {k f t a b : Nat} {x : Ms} (h : ptail k f t l a = some (x, b)) : x.k = (k : Int) ∧ x.f = (f : Int) ∧ x.t = (t : Int) := by
  unfold ptail at h
  split at h
  · obtain ⟨⟨s, c1⟩, g1, h⟩ := bind_some h
    obtain ⟨⟨i, c2⟩, g2, h⟩ := bind_some h
    obtain ⟨⟨v, c3⟩, g3, h⟩ := map_some h
    cases h
    exact ⟨rfl, rfl, rfl⟩
  split at h
  · obtain ⟨⟨s, c1⟩, g1, h⟩ := bind_some h
    obtain ⟨⟨i, c2⟩, g2, h⟩ := bind_some h
    obtain ⟨⟨v, c3⟩, g3, h⟩ := map_some h
    cases h
    exact ⟨rfl, rfl, rfl⟩
  split at h
  · obtain ⟨⟨o, c1⟩, g1, h⟩ := map_some h
    cases h
    exact ⟨rfl, rfl, rfl⟩
  split at h
  · obtain ⟨⟨o, c1⟩, g1, h⟩ := map_some h
    cases h
    exact ⟨rfl, rfl, rfl⟩
  cases h
  exact ⟨rfl, rfl, rfl⟩
/-- A message's bytes are those that it was read from. -/
theorem ex_msg : Ex l (pmsgr l) emsg := by
  intro a x b ha h
  obtain ⟨⟨k, c1⟩, h1, h⟩ := bind_some h
  obtain ⟨⟨f, c2⟩, h2, h⟩ := bind_some h
  obtain ⟨⟨t, c3⟩, h3, h⟩ := bind_some h
  obtain ⟨k1, q1, e1⟩ := ex_num hl a k c1 ha h1
  obtain ⟨k2, q2, e2⟩ := ex_num hl c1 f c2 q1 h2
  obtain ⟨k3, q3, e3⟩ := ex_num hl c2 t c3 q2 h3
  obtain ⟨k4, q4, e4⟩ := ex_tail hl k f t c3 x b q3 h
  obtain ⟨x1, x2, x3⟩ := tail_head h
  refine ⟨by omega, q4, ?_⟩
  rw [← seg_on l (b := c3) (by omega) k4, ← seg_on l (b := c2) (by omega) k3, ← seg_on l k1 k2, e1, e2, e3, e4]
  unfold emsg ehead
  rw [x1, x2, x3]
  simp only [by_nat, List.append_assoc]
theorem pmsgr_le : ∀ x a, pmsgr l 0 = some (x, a) → a ≤ l.length := fun x a h => (ex_msg hl 0 x a (Nat.zero_le _) h).2.1
end

/-- What is laid is read, whatever stands behind. -/
def Fw {α : Type} (p : List Int → Nat → Option (α × Nat)) (e : α → List Int) (x : α) : Prop := ∀ l a post, l.drop a = e x ++ post → p l a = some (x, a + (e x).length)
theorem drop_on {l u r : List Int} {a : Nat} (h : l.drop a = u ++ r) : l.drop (a + u.length) = r := by
  rw [← List.drop_drop, h, List.drop_left]
theorem fw_num {n : Nat} (hn : n ≤ 9223372036854775807) : Fw pnum Pk.bytesOf n := by
  intro l a post h
  unfold pnum
  rw [h, Pk.num_laid n hn post]
  simp
theorem fw_fit {x : Int} (hx : fit x) {l post : List Int} {a : Nat} (h : l.drop a = by_ x ++ post) : ∃ n : Nat, (n : Int) = x ∧ pnum l a = some (n, a + (by_ x).length) := by
  obtain ⟨h1, h2⟩ := hx
  exact ⟨x.toNat, by omega, fw_num (by omega) l a post h⟩
theorem fw_two {x : Int × Int} (h1 : fit x.1) (h2 : fit x.2) : Fw ptwo etwo x := by
  intro l a post h
  unfold etwo at h
  rw [List.append_assoc] at h
  obtain ⟨u, hu, p1⟩ := fw_fit h1 h
  obtain ⟨v, hv, p2⟩ := fw_fit h2 (drop_on h)
  unfold ptwo
  rw [p1]
  simp only [Option.bind_some, p2, Option.map_some, hu, hv]
  unfold etwo
  rw [List.length_append, Nat.add_assoc]
theorem fw_st {x : Int × Int} (h1 : fit x.1) (h2 : fit x.2) : Fw pst est x := by
  intro l a post h
  have := fw_two (x := (x.2, x.1)) h2 h1 l a post h
  unfold pst
  rw [this]
  rfl
theorem fw_rep {α : Type} {p : List Int → Nat → Option (α × Nat)} {e : α → List Int} {l : List Int} : ∀ (xs : List α) (a : Nat) (post : List Int), (∀ x ∈ xs, Fw p e x) → l.drop a = xs.flatMap e ++ post → rep (p l) xs.length a = some (xs, a + (xs.flatMap e).length)
  | [], a, post, _, h => by simp [rep]
  | x :: r, a, post, hf, h => by
    rw [List.flatMap_cons, List.append_assoc] at h
    have h1 := hf x (by simp) l a _ h
    have h2 := fw_rep r (a + (e x).length) post (fun y hy => hf y (by simp [hy])) (drop_on h)
    rw [List.length_cons]
    unfold rep
    rw [h1]
    simp only [Option.bind_some]
    rw [h2]
    simp only [Option.map_some]
    rw [List.flatMap_cons, List.length_append, Nat.add_assoc]
theorem fw_list {α : Type} {p : List Int → Nat → Option (α × Nat)} {e : α → List Int} {most : Nat} (hm : most ≤ 9223372036854775807) {xs : List α} (hx : xs.length ≤ most) (hf : ∀ x ∈ xs, Fw p e x) (l : List Int) (a : Nat) (post : List Int) (h : l.drop a = elist e xs ++ post) : plistm most (p l) l a = some (xs, a + (elist e xs).length) := by
  unfold elist at h
  rw [List.append_assoc] at h
  have h1 := fw_num (n := xs.length) (by omega) l a _ h
  have h2 := fw_rep xs _ post hf (drop_on h)
  unfold plistm
  rw [h1]
  simp only [Option.bind_some, if_pos hx]
  rw [h2]
  unfold elist
  rw [List.length_append, Nat.add_assoc]
theorem fw_wr {x : Wr} (h1 : fit x.1) (h2 : fit x.2.1) (h3 : fit x.2.2.1) : Fw pwr ewr x := by
  intro l a post h
  unfold ewr at h
  simp only [List.append_assoc] at h
  obtain ⟨o, ho, p1⟩ := fw_fit h3 h
  have g1 := drop_on h
  obtain ⟨n, hn, p2⟩ := fw_fit h2 g1
  have g2 := drop_on g1
  obtain ⟨c, hc, p3⟩ := fw_fit h1 g2
  have g3 := drop_on g2
  have hb : Pk.bytesOf (if x.2.2.2 = true then 1 else 0) = [if x.2.2.2 = true then (1 : Int) else 0] := by cases x.2.2.2 <;> rfl
  rw [← hb] at g3
  have p4 := fw_num (n := if x.2.2.2 = true then 1 else 0) (by split <;> omega) l _ post g3
  unfold pwr
  rw [p1]
  simp only [Option.bind_some, p2, p3, p4]
  rw [if_pos (by split <;> omega)]
  rw [ho, hn, hc, hb]
  unfold ewr
  have hd : decide ((if x.2.2.2 = true then 1 else 0) = 1) = x.2.2.2 := by cases x.2.2.2 <;> rfl
  simp only [List.length_append, List.length_singleton, Nat.add_assoc]
  rw [hd]
theorem fw_row {v : List Int} (hv : v.length ≤ 256) : Fw (fun l => prow l 256) Pk.laid v := by
  intro l a post h
  show prow l 256 a = _
  unfold prow
  rw [h]
  have hr : Pk.row (Pk.laid v ++ post) 256 = (v, ((Pk.laid v).length : Int), 0) := by
    have h0 := Pk.row_laid v post (by omega)
    have h1 := Pk.num_laid v.length (by omega) (v ++ post)
    unfold Pk.laid at h0 ⊢
    rw [List.append_assoc] at h0 ⊢
    unfold Pk.row at h0 ⊢
    rw [if_neg (by omega)] at h0
    rw [if_neg (by omega)]
    rw [h1] at h0 ⊢
    rw [if_neg (by simp), if_neg (by simp)] at h0
    rw [if_neg (by simp), if_neg (by simp; omega)]
    exact h0
  rw [hr]
  simp
theorem fw_bod {x : Bd} (ho : fit x.o) (hc : fit x.c) (hn : fit x.n) (hv : x.v.length ≤ 256) : Fw pbod ebody x := by
  intro l a post h
  unfold ebody at h
  simp only [List.append_assoc] at h
  obtain ⟨o, ho', p1⟩ := fw_fit ho h
  have g1 := drop_on h
  rw [← List.append_assoc] at g1
  have p2 := fw_st (x := (x.c, x.n)) hc hn l _ _ g1
  have g2 := drop_on g1
  have p3 := fw_row hv l _ post g2
  unfold pbod
  rw [p1]
  simp only [Option.bind_some]
  rw [p2]
  simp only [Option.bind_some]
  replace p3 : prow l 256 (a + (by_ x.o).length + (est (x.c, x.n)).length) = _ := p3
  rw [p3]
  simp only [Option.map_some, ho']
  unfold ebody
  simp only [List.length_append, Nat.add_assoc]
/-- A note that may be laid and read again. -/
structure backN (n : Note) : Prop where
  fit : fitN n
  s : n.s.length ≤ 64
  e : n.e.length ≤ 64
  b : n.b.length ≤ 128
  v : n.ws.length ≤ 256
theorem fw_note {n : Note} (h : backN n) : Fw pnotr enote n := by
  intro l a post hd
  unfold enote at hd
  have hd' : l.drop a = elist est n.s ++ (elist est n.e ++ (elist etwo n.b ++ (elist ewr n.ws ++ post))) := by
    rw [hd]
    simp only [elist, List.append_assoc]
  have p1 := fw_list (p := pst) (most := 64) (by omega) h.s (fun x hx => fw_st (h.fit.s x hx).1 (h.fit.s x hx).2) l a _ hd'
  have g1 := drop_on hd'
  have p2 := fw_list (p := pst) (most := 64) (by omega) h.e (fun x hx => fw_st (h.fit.e x hx).1 (h.fit.e x hx).2) l _ _ g1
  have g2 := drop_on g1
  have p3 := fw_list (p := ptwo) (most := 128) (by omega) h.b (fun x hx => fw_two (h.fit.b x hx).1 (h.fit.b x hx).2) l _ _ g2
  have g3 := drop_on g2
  have p4 := fw_list (p := pwr) (most := 256) (by omega) h.v (fun x hx => fw_wr (h.fit.ws x hx).1 (h.fit.ws x hx).2.1 (h.fit.ws x hx).2.2) l _ _ g3
  unfold pnotr
  rw [p1]
  simp only [Option.bind_some]
  rw [p2]
  simp only [Option.bind_some]
  rw [p3]
  simp only [Option.bind_some]
  rw [p4]
  simp only [Option.map_some]
  unfold enote elist
  simp only [List.length_append, Nat.add_assoc]
end Wi
end Go.Proofs.Ytbbmngabbbehcaa
namespace Go.Proofs.Ytbbmngabbbehcaa
open Go.RowKit

theorem rightNode_any (n : Int) (w : World) : Calls Try.prog 115 #[.int .i64 n] w fun e w' => e = .returned (.bool (St.rgtN n)) ∧ w = w' := by
  by_cases h0 : 0 ≤ n
  · by_cases h1 : n < 64
    · go_enter Try.func115, Try.ntmps115
      go_wp2
      go_ret
      rw [show St.rgtN n = true from decide_eq_true (by omega)]; exact ⟨rfl, rfl⟩
    · go_enter Try.func115, Try.ntmps115
      go_wp2
      go_ret
      rw [show St.rgtN n = false from decide_eq_false (by omega)]; exact ⟨rfl, rfl⟩
  · go_enter Try.func115, Try.ntmps115
    go_wp2
    go_ret
    rw [show St.rgtN n = false from decide_eq_false (by omega)]; exact ⟨rfl, rfl⟩

/-- stamp.Right. -/
theorem right_any (c n : Int) (w : World) :
    Calls Try.prog 86 #[.agg #[.int .i64 c, .int .i64 n]] w fun e w' => e = .returned (.bool (St.rgt c n)) ∧ Below w.heap.size w w' := by
  by_cases h : 1 ≤ c
  · have h1 : decide (1 ≤ c) = true := decide_eq_true h
    have h2 : St.rgt c n = St.rgtN n := by unfold St.rgt St.rgtN; simp [h]
    have H2 := Lib.hid h2; clear h2
    go_enter Try.func86, Try.ntmps86
    go_wp2_with (go_at_call 115; refine (rightNode_any _ _).mono ?_; rintro e w' ⟨rfl, rfl⟩)
    go_ret
    rw [H2.out]
    exact ⟨rfl, by repeat (first | exact Below.refl _ _ | exact Nat.le_refl _ | (apply Below.drew) | (refine Below.alloc ?_ ?_ _) | (refine Below.setCell ?_ ?_ _) | (simp; done) | (simp; omega))⟩
  · have h1 : decide (1 ≤ c) = false := decide_eq_false h
    have h2 : St.rgt c n = false := by unfold St.rgt; simp [h]
    have H2 := Lib.hid h2; clear h2
    go_enter Try.func86, Try.ntmps86
    go_wp2_with (go_at_call 115; refine (rightNode_any _ _).mono ?_; rintro e w' ⟨rfl, rfl⟩)
    go_ret
    rw [H2.out]
    exact ⟨rfl, by repeat (first | exact Below.refl _ _ | exact Nat.le_refl _ | (apply Below.drew) | (refine Below.alloc ?_ ?_ _) | (refine Below.setCell ?_ ?_ _) | (simp; done) | (simp; omega))⟩

end Go.Proofs.Ytbbmngabbbehcaa
