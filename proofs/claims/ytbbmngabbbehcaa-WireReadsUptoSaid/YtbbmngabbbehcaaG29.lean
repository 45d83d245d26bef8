/-
  What wire's AppendSet and Set answer.
  What wire's Encode, AppendNote and AppendBody answer.
  What wire's Note and Body answer.
  What wire's Decode answers.
-/
import Derived.Test.YtbbmngabbbehcaaG28
namespace Go.Proofs.Ytbbmngabbbehcaa
open Go.RowKit

set_option maxHeartbeats 1600000 in
theorem dappset_any (A X : Option Addr) (c cx : Nat) (b : List Int) (l : List (Int × Int)) (w : World) (hA : OneB w A c b) (h : OneL w X cx l) (hi : Sp.fmd l = true → ∀ s ∈ l, Wi.fit s.1 ∧ Wi.fit s.2) (hll : l.length ≤ 1099511627776) (hpl : b.length + (Wi.elist Wi.etwo l).length ≤ 70368744177664) :
    Calls Try.prog 21 #[.slice A b.length c, .slice X l.length cx] w (LaidB (Sp.fmd l) (b ++ Wi.elist Wi.etwo l) w) := by
  have CF := Lib.hid (spformed_any X cx l w h)
  have CL := Lib.hid (fun (wx : World) (hb : Below w.heap.size w wx) => dlaid_sp A c b X cx l (Sp.fmd l) wx (hA.later hb) hpl hi (h.later hb) hll)
  obtain ⟨f, hf⟩ : ∃ f, Sp.fmd l = f := ⟨_, rfl⟩
  rw [hf] at CF CL ⊢
  unfold LaidB at CL ⊢
  obtain ⟨L, hL⟩ : ∃ L, (if f = true then b ++ Wi.elist Wi.etwo l else []) = L := ⟨_, rfl⟩
  obtain ⟨er, her⟩ : ∃ er : Int, (if f = true then 0 else 1) = er := ⟨_, rfl⟩
  rw [hL, her] at CL ⊢
  clear hA h hi hf hpl hL her
  go_enter Try.func21, Try.ntmps21
  go_wp2_with fail
  refine CF.out.mono ?_
  rintro e w1 ⟨rfl, b1⟩
  have C2 := Lib.hid (CL.out w1 b1)
  have B1 := Lib.hid b1
  clear b1 CF CL
  go_wp2_with fail
  refine C2.out.mono ?_
  rintro e w2 ⟨v, rfl, o2, b2⟩
  have O2 := Lib.hid (own_base o2 B1.out.size); have B2 := Lib.hid (below_on B1.out b2)
  clear o2 b2 C2
  go_wp2
  go_ret2
  exact ⟨_, rfl, O2.out, B2.out⟩

set_option maxHeartbeats 1600000 in
theorem dset_top (A : Option Addr) (c : Nat) (l : List Int) (w : World) (h : OneB w A c l) :
    Calls Try.prog 23 #[.slice A l.length c] w (BegL 95 2 stCells (fun s : Int × Int => Wi.fit s.1 ∧ Wi.fit s.2) 128 (fun a => Wi.such Sp.fmd (Wi.plistm 128 (Wi.ptwo l) l a)) w) := by
  have CB := Lib.hid (dbeg_sp spformed_any A c l w h)
  clear h
  go_enter Try.func23, Try.ntmps23
  go_wp2_with fail
  refine CB.out.mono ?_
  rintro e w1 ⟨v, x, k, er, rfl, h1, h2, h3, h4, h5⟩
  have H := Lib.hid (show BegL 95 2 stCells (fun s : Int × Int => Wi.fit s.1 ∧ Wi.fit s.2) 128 (fun a => Wi.such Sp.fmd (Wi.plistm 128 (Wi.ptwo l) l a)) w (.returned (.tuple #[v, .int .i64 k, .int .i64 er])) w1 from ⟨v, x, k, er, rfl, h1, h2, h3, h4, h5⟩)
  clear h1 h2 h3 h4 h5 CB
  go_wp2
  go_ret3
  exact H.out

end Go.Proofs.Ytbbmngabbbehcaa
namespace Go.Proofs.Ytbbmngabbbehcaa
open Go.RowKit

set_option maxRecDepth 100000 in
set_option maxHeartbeats 6400000 in
theorem denc_any (I V N D : Option Addr) (ci cv cn d : Nat) (m : Ms) (w : World) (h : MsAt w I V N D ci cv cn d m) (hf : Wi.dmf m = true → Wi.fitM m ∧ Wi.kinds m) (hpl : Wi.dmf m = true → (Wi.emsg m).length ≤ 70368744177664) :
    Calls Try.prog 37 #[.agg (msCells I V N D ci cv cn d m)] w (LaidB (Wi.dmf m) (Wi.emsg m) w) := by
  have CF := Lib.hid (fun (wx : World) (hb : Below w.heap.size w wx) => dmf_any I V N D ci cv cn d m wx (h.later hb))
  have CL := Lib.hid (fun (wx : World) (hb : Below w.heap.size w wx) => dlaid_ms none 0 [] I V N D ci cv cn d m (Wi.dmf m) wx (OneB.nil _) (fun hh => by simpa using hpl hh) hf (h.later hb))
  obtain ⟨f, hff⟩ : ∃ f, Wi.dmf m = f := ⟨_, rfl⟩
  rw [hff] at CF CL ⊢
  rw [List.nil_append] at CL
  unfold LaidB at CL ⊢
  obtain ⟨L, hL⟩ : ∃ L, (if f = true then (Wi.emsg m) else []) = L := ⟨_, rfl⟩
  obtain ⟨er, her⟩ : ∃ er : Int, (if f = true then 0 else 1) = er := ⟨_, rfl⟩
  rw [hL, her] at CL ⊢
  clear h hf hff hpl hL her
  unfold msCells at CF CL ⊢
  obtain ⟨bx, hbx⟩ : ∃ bx, w.heap.size = bx := ⟨_, rfl⟩
  have hB0 := Blk.new w 74 #[.int .i64 m.k, .int .i64 m.f, .int .i64 m.t, .int .i64 m.s, .int .i64 m.q, .slice I m.it.length ci, .slice V m.vc.length cv, .slice N m.ns.length cn, .int .i64 m.bd.o, .int .i64 m.bd.c, .int .i64 m.bd.n, .slice D m.bd.v.length d]
  have b0 := below_new (Below.refl w.heap.size w) (.cells #[.int .i64 m.k, .int .i64 m.f, .int .i64 m.t, .int .i64 m.s, .int .i64 m.q, .slice I m.it.length ci, .slice V m.vc.length cv, .slice N m.ns.length cn, .int .i64 m.bd.o, .int .i64 m.bd.c, .int .i64 m.bd.n, .slice D m.bd.v.length d] 74)
  obtain ⟨W, hW⟩ : ∃ W, w.alloc (.cells #[.int .i64 m.k, .int .i64 m.f, .int .i64 m.t, .int .i64 m.s, .int .i64 m.q, .slice I m.it.length ci, .slice V m.vc.length cv, .slice N m.ns.length cn, .int .i64 m.bd.o, .int .i64 m.bd.c, .int .i64 m.bd.n, .slice D m.bd.v.length d] 74) = W := ⟨_, rfl⟩
  rw [hW] at hB0 b0
  rw [hbx] at hB0
  have HX := Lib.hid hbx; have HWW := Lib.hid hW; have HB0 := Lib.hid b0; have HBX := Lib.hid hB0
  clear hW b0 hB0
  go_enter Try.func37, Try.ntmps37
  go_wp2_with fail
  rw [HWW.out]
  try rw [HX.out]
  clear hbx
  refine wp_region_facts 6 (by kernel_rfl) (by kernel_rfl) (fun v => { tmps := #[.agg #[.int .i64 m.k, .int .i64 m.f, .int .i64 m.t, .int .i64 m.s, .int .i64 m.q, .slice I m.it.length ci, .slice V m.vc.length cv, .slice N m.ns.length cn, .int .i64 m.bd.o, .int .i64 m.bd.c, .int .i64 m.bd.n, .slice D m.bd.v.length d], .pointer (some ⟨bx, 0, none⟩), .slice none 0 0, .int .i64 0, v 0, v 1, v 2, v 3, v 4, v 5], defers := [] }) (fun _ => undef)
    (fun (i : Nat) (z : Value) (wx : World) => match i with | 0 => z = .agg #[.int .i64 m.k, .int .i64 m.f, .int .i64 m.t, .int .i64 m.s, .int .i64 m.q, .slice I m.it.length ci, .slice V m.vc.length cv, .slice N m.ns.length cn, .int .i64 m.bd.o, .int .i64 m.bd.c, .int .i64 m.bd.n, .slice D m.bd.v.length d] | 1 => z = .agg #[.int .i64 m.k, .int .i64 m.f, .int .i64 m.t, .int .i64 m.s, .int .i64 m.q, .slice I m.it.length ci, .slice V m.vc.length cv, .slice N m.ns.length cn, .int .i64 m.bd.o, .int .i64 m.bd.c, .int .i64 m.bd.n, .slice D m.bd.v.length d] | 2 => z = .bool f | 3 => ∃ y, z = .tuple #[y, .int .i64 er] ∧ wx.ownsRow w.heap.size 5 1 y L.length (bCells L) | 4 => wx.ownsRow w.heap.size 5 1 z L.length (bCells L) | 5 => z = .int .i64 er | _ => True)
    (fun wa wb => Below wa.heap.size wa wb) (fun h1 h2 => below_on h1 h2) (fun _ => Below.refl _ _) (Below.refl _ _).drew ?stab ?step ?done
  case stab =>
    intro i x wa wb h1 h2
    match i, h1 with
    | 0, h1 => exact h1
    | 1, h1 => exact h1
    | 2, h1 => exact h1
    | 3, ⟨y, e1, e2⟩ => exact ⟨y, e1, own_later e2 h2⟩
    | 4, h1 => exact own_later h1 h2
    | 5, h1 => exact h1
    | k + 6, _ => trivial
  case step =>
    intro i hi v w' hb hd
    match i, hi with
    | 0, _ =>
      have hBx := HBX.out.later hb
      have q0 := hBx.cell (i := 0) rfl
      have q1 := hBx.cell (i := 1) rfl
      have q2 := hBx.cell (i := 2) rfl
      have q3 := hBx.cell (i := 3) rfl
      have q4 := hBx.cell (i := 4) rfl
      have q5 := hBx.cell (i := 5) rfl
      have q6 := hBx.cell (i := 6) rfl
      have q7 := hBx.cell (i := 7) rfl
      have q8 := hBx.cell (i := 8) rfl
      have q9 := hBx.cell (i := 9) rfl
      have q10 := hBx.cell (i := 10) rfl
      have q11 := hBx.cell (i := 11) rfl
      refine wpOp_one rfl ?_
      clear hd hb hBx
      go_wp2
      first | exact ⟨_, (by simp [upd]; done), Below.refl _ _, rfl⟩ | exact ⟨(by simp [upd]; done), Below.refl _ _, rfl⟩ | exact ⟨(by simp [upd]; done), Below.refl _ _⟩
    | 1, _ =>
      have hBx := HBX.out.later hb
      have q0 := hBx.cell (i := 0) rfl
      have q1 := hBx.cell (i := 1) rfl
      have q2 := hBx.cell (i := 2) rfl
      have q3 := hBx.cell (i := 3) rfl
      have q4 := hBx.cell (i := 4) rfl
      have q5 := hBx.cell (i := 5) rfl
      have q6 := hBx.cell (i := 6) rfl
      have q7 := hBx.cell (i := 7) rfl
      have q8 := hBx.cell (i := 8) rfl
      have q9 := hBx.cell (i := 9) rfl
      have q10 := hBx.cell (i := 10) rfl
      have q11 := hBx.cell (i := 11) rfl
      refine wpOp_one rfl ?_
      clear hd hb hBx
      go_wp2
      first | exact ⟨_, (by simp [upd]; done), Below.refl _ _, rfl⟩ | exact ⟨(by simp [upd]; done), Below.refl _ _, rfl⟩ | exact ⟨(by simp [upd]; done), Below.refl _ _⟩
    | 2, _ =>
      have h1 : v 1 = _ := hd 1 (List.elem_iff.1 (by kernel_rfl))
      have CC := Lib.hid (CF.out w' (below_on HB0.out hb))
      refine wpOp_one rfl ?_
      clear hd hb
      rw [h1]
      go_wp2_with fail
      refine CC.out.mono ?_
      rintro e w'' ⟨rfl, b1⟩
      have B1 := Lib.hid b1
      clear b1 CC
      go_wp2
      exact ⟨_, (by simp [upd, h1]; done), B1.out, rfl⟩
    | 3, _ =>
      skip
      have h0 : v 0 = _ := hd 0 (List.elem_iff.1 (by kernel_rfl))
      have h2 : v 2 = _ := hd 2 (List.elem_iff.1 (by kernel_rfl))
      have b1 := below_on HB0.out hb
      have C2 := Lib.hid (CL.out w' b1)
      have hsz := b1.size
      refine wpOp_one rfl ?_
      clear hd hb b1
      rw [h0, h2]
      go_wp2_with fail
      refine C2.out.mono ?_
      rintro e w2 ⟨v2, rfl, o2, b2⟩
      have O2 := Lib.hid (own_base o2 hsz); have B2 := Lib.hid b2
      clear o2 b2 C2
      go_wp2
      exact ⟨_, (by simp [upd, h0, h2]; done), B2.out, v2, rfl, O2.out⟩
    | 4, _ =>
      obtain ⟨y, h3, o3⟩ := hd 3 (List.elem_iff.1 (by kernel_rfl))
      have O3 := Lib.hid o3
      refine wpOp_one rfl ?_
      clear hd hb o3
      rw [h3]
      go_wp2
      exact ⟨y, (by simp [upd, h3]; done), Below.refl _ _, O3.out⟩
    | 5, _ =>
      obtain ⟨y, h3, o3⟩ := hd 3 (List.elem_iff.1 (by kernel_rfl))
      refine wpOp_one rfl ?_
      clear hd hb o3
      rw [h3]
      go_wp2
      first | exact ⟨_, (by simp [upd, h3]; done), Below.refl _ _, rfl⟩ | exact ⟨(by simp [upd, h3]; done), Below.refl _ _, rfl⟩ | exact ⟨(by simp [upd, h3]; done), Below.refl _ _⟩
    | k + 6, hk => exact absurd hk (by omega)
  case done =>
    intro v w' hb hf
    have o4 : w'.ownsRow w.heap.size 5 1 (v 4) L.length (bCells L) := hf 4 (by omega)
    have h5 : v 5 = _ := hf 5 (by omega)
    obtain ⟨y, hy⟩ : ∃ y, v 4 = y := ⟨_, rfl⟩
    rw [hy] at o4
    have O4 := Lib.hid o4; have B4 := Lib.hid (below_on HB0.out hb)
    clear hf hb o4 CF CL
    simp only [List.drop_succ_cons, List.drop_zero]
    rw [hy, h5]
    clear hy h5
    go_wp2
    go_ret2
    exact ⟨_, rfl, O4.out, B4.out⟩

set_option maxRecDepth 100000 in
set_option maxHeartbeats 6400000 in
theorem dappnote_any (A : Option Addr) (c : Nat) (b : List Int) (S E B V : Option Addr) (cs ce cb cv : Nat) (n : Note) (w : World) (hA : OneB w A c b) (h : NoteAt w S E B V cs ce cb cv n) (k1 : n.s.length ≤ 1099511627776) (k2 : n.e.length ≤ 1099511627776) (k3 : n.b.length ≤ 1099511627776) (k4 : n.ws.length ≤ 1099511627776) (hf : Nt.fmd n = true → Wi.fitN n) (hpl : b.length + (Wi.enote n).length ≤ 70368744177664) :
    Calls Try.prog 27 #[.slice A b.length c, .agg (noteCells S E B V cs ce cb cv n)] w (LaidB (Nt.fmd n) (b ++ Wi.enote n) w) := by
  have CF := Lib.hid (fun (wx : World) (hb : Below w.heap.size w wx) => dnformed_any S E B V cs ce cb cv n wx (h.later hb))
  have CL := Lib.hid (fun (wx : World) (hb : Below w.heap.size w wx) => dlaid_nt A c b S E B V cs ce cb cv n (Nt.fmd n) wx (hA.later hb) hpl hf (h.later hb) k1 k2 k3 k4)
  obtain ⟨f, hff⟩ : ∃ f, Nt.fmd n = f := ⟨_, rfl⟩
  rw [hff] at CF CL ⊢
  skip
  unfold LaidB at CL ⊢
  obtain ⟨L, hL⟩ : ∃ L, (if f = true then (b ++ Wi.enote n) else []) = L := ⟨_, rfl⟩
  obtain ⟨er, her⟩ : ∃ er : Int, (if f = true then 0 else 1) = er := ⟨_, rfl⟩
  rw [hL, her] at CL ⊢
  clear h hf hff hpl hL her hA
  unfold noteCells at CF CL ⊢
  obtain ⟨bx, hbx⟩ : ∃ bx, w.heap.size = bx := ⟨_, rfl⟩
  have hB0 := Blk.new w 51 #[.slice S n.s.length cs, .slice E n.e.length ce, .slice B n.b.length cb, .slice V n.ws.length cv]
  have b0 := below_new (Below.refl w.heap.size w) (.cells #[.slice S n.s.length cs, .slice E n.e.length ce, .slice B n.b.length cb, .slice V n.ws.length cv] 51)
  obtain ⟨W, hW⟩ : ∃ W, w.alloc (.cells #[.slice S n.s.length cs, .slice E n.e.length ce, .slice B n.b.length cb, .slice V n.ws.length cv] 51) = W := ⟨_, rfl⟩
  rw [hW] at hB0 b0
  rw [hbx] at hB0
  have HX := Lib.hid hbx; have HWW := Lib.hid hW; have HB0 := Lib.hid b0; have HBX := Lib.hid hB0
  clear hW b0 hB0
  go_enter Try.func27, Try.ntmps27
  go_wp2_with fail
  rw [HWW.out]
  try rw [HX.out]
  clear hbx
  refine wp_region_facts 7 (by kernel_rfl) (by kernel_rfl) (fun v => { tmps := #[.slice A b.length c, .agg #[.slice S n.s.length cs, .slice E n.e.length ce, .slice B n.b.length cb, .slice V n.ws.length cv], undef, .pointer (some ⟨bx, 0, none⟩), .slice none 0 0, .int .i64 0, v 0, v 1, v 2, v 3, v 4, v 5, v 6], defers := [] }) (fun _ => undef)
    (fun (i : Nat) (z : Value) (wx : World) => match i with | 0 => z = .slice A b.length c | 1 => z = .agg #[.slice S n.s.length cs, .slice E n.e.length ce, .slice B n.b.length cb, .slice V n.ws.length cv] | 2 => z = .agg #[.slice S n.s.length cs, .slice E n.e.length ce, .slice B n.b.length cb, .slice V n.ws.length cv] | 3 => z = .bool f | 4 => ∃ y, z = .tuple #[y, .int .i64 er] ∧ wx.ownsRow w.heap.size 5 1 y L.length (bCells L) | 5 => wx.ownsRow w.heap.size 5 1 z L.length (bCells L) | 6 => z = .int .i64 er | _ => True)
    (fun wa wb => Below wa.heap.size wa wb) (fun h1 h2 => below_on h1 h2) (fun _ => Below.refl _ _) (Below.refl _ _).drew ?stab ?step ?done
  case stab =>
    intro i x wa wb h1 h2
    match i, h1 with
    | 0, h1 => exact h1
    | 1, h1 => exact h1
    | 2, h1 => exact h1
    | 3, h1 => exact h1
    | 4, ⟨y, e1, e2⟩ => exact ⟨y, e1, own_later e2 h2⟩
    | 5, h1 => exact own_later h1 h2
    | 6, h1 => exact h1
    | k + 7, _ => trivial
  case step =>
    intro i hi v w' hb hd
    match i, hi with
    | 0, _ =>
      refine wpOp_one rfl ?_
      clear hd hb
      go_wp2
      first | exact ⟨_, (by simp [upd]; done), Below.refl _ _, rfl⟩ | exact ⟨(by simp [upd]; done), Below.refl _ _, rfl⟩ | exact ⟨(by simp [upd]; done), Below.refl _ _⟩
    | 1, _ =>
      have hBx := HBX.out.later hb
      have q0 := hBx.cell (i := 0) rfl
      have q1 := hBx.cell (i := 1) rfl
      have q2 := hBx.cell (i := 2) rfl
      have q3 := hBx.cell (i := 3) rfl
      refine wpOp_one rfl ?_
      clear hd hb hBx
      go_wp2
      first | exact ⟨_, (by simp [upd]; done), Below.refl _ _, rfl⟩ | exact ⟨(by simp [upd]; done), Below.refl _ _, rfl⟩ | exact ⟨(by simp [upd]; done), Below.refl _ _⟩
    | 2, _ =>
      have hBx := HBX.out.later hb
      have q0 := hBx.cell (i := 0) rfl
      have q1 := hBx.cell (i := 1) rfl
      have q2 := hBx.cell (i := 2) rfl
      have q3 := hBx.cell (i := 3) rfl
      refine wpOp_one rfl ?_
      clear hd hb hBx
      go_wp2
      first | exact ⟨_, (by simp [upd]; done), Below.refl _ _, rfl⟩ | exact ⟨(by simp [upd]; done), Below.refl _ _, rfl⟩ | exact ⟨(by simp [upd]; done), Below.refl _ _⟩
    | 3, _ =>
      have h1 : v 2 = _ := hd 2 (List.elem_iff.1 (by kernel_rfl))
      have CC := Lib.hid (CF.out w' (below_on HB0.out hb))
      refine wpOp_one rfl ?_
      clear hd hb
      rw [h1]
      go_wp2_with fail
      refine CC.out.mono ?_
      rintro e w'' ⟨rfl, b1⟩
      have B1 := Lib.hid b1
      clear b1 CC
      go_wp2
      exact ⟨_, (by simp [upd, h1]; done), B1.out, rfl⟩
    | 4, _ =>
      have hz : v 0 = _ := hd 0 (List.elem_iff.1 (by kernel_rfl))
      have h0 : v 1 = _ := hd 1 (List.elem_iff.1 (by kernel_rfl))
      have h2 : v 3 = _ := hd 3 (List.elem_iff.1 (by kernel_rfl))
      have b1 := below_on HB0.out hb
      have C2 := Lib.hid (CL.out w' b1)
      have hsz := b1.size
      refine wpOp_one rfl ?_
      clear hd hb b1
      rw [hz, h0, h2]
      go_wp2_with fail
      refine C2.out.mono ?_
      rintro e w2 ⟨v2, rfl, o2, b2⟩
      have O2 := Lib.hid (own_base o2 hsz); have B2 := Lib.hid b2
      clear o2 b2 C2
      go_wp2
      exact ⟨_, (by simp [upd, h0, h2, hz]; done), B2.out, v2, rfl, O2.out⟩
    | 5, _ =>
      obtain ⟨y, h3, o3⟩ := hd 4 (List.elem_iff.1 (by kernel_rfl))
      have O3 := Lib.hid o3
      refine wpOp_one rfl ?_
      clear hd hb o3
      rw [h3]
      go_wp2
      exact ⟨y, (by simp [upd, h3]; done), Below.refl _ _, O3.out⟩
    | 6, _ =>
      obtain ⟨y, h3, o3⟩ := hd 4 (List.elem_iff.1 (by kernel_rfl))
      refine wpOp_one rfl ?_
      clear hd hb o3
      rw [h3]
      go_wp2
      first | exact ⟨_, (by simp [upd, h3]; done), Below.refl _ _, rfl⟩ | exact ⟨(by simp [upd, h3]; done), Below.refl _ _, rfl⟩ | exact ⟨(by simp [upd, h3]; done), Below.refl _ _⟩
    | k + 7, hk => exact absurd hk (by omega)
  case done =>
    intro v w' hb hf
    have o4 : w'.ownsRow w.heap.size 5 1 (v 5) L.length (bCells L) := hf 5 (by omega)
    have h5 : v 6 = _ := hf 6 (by omega)
    obtain ⟨y, hy⟩ : ∃ y, v 5 = y := ⟨_, rfl⟩
    rw [hy] at o4
    have O4 := Lib.hid o4; have B4 := Lib.hid (below_on HB0.out hb)
    clear hf hb o4 CF CL
    simp only [List.drop_succ_cons, List.drop_zero]
    rw [hy, h5]
    clear hy h5
    go_wp2
    go_ret2
    exact ⟨_, rfl, O4.out, B4.out⟩

set_option maxRecDepth 100000 in
set_option maxHeartbeats 6400000 in
theorem dappbody_any (A : Option Addr) (c : Nat) (b : List Int) (D : Option Addr) (d : Nat) (x : Bd) (w : World) (hA : OneB w A c b) (h : OneB w D d x.v) (hf : Wi.bright x = true → Wi.fit x.o ∧ Wi.fit x.c ∧ Wi.fit x.n) (hpl : b.length + (Wi.ebody x).length ≤ 70368744177664) :
    Calls Try.prog 33 #[.slice A b.length c, .agg (bdCells D d x)] w (LaidB (Wi.bright x) (b ++ Wi.ebody x) w) := by
  have CF := Lib.hid (fun (wx : World) (hb : Below w.heap.size w wx) => dfbody_any D d x wx)
  have CL := Lib.hid (fun (wx : World) (hb : Below w.heap.size w wx) => dlaid_bd A c b D d x (Wi.bright x) wx (hA.later hb) hpl hf (h.later hb))
  obtain ⟨f, hff⟩ : ∃ f, Wi.bright x = f := ⟨_, rfl⟩
  rw [hff] at CF CL ⊢
  skip
  unfold LaidB at CL ⊢
  obtain ⟨L, hL⟩ : ∃ L, (if f = true then (b ++ Wi.ebody x) else []) = L := ⟨_, rfl⟩
  obtain ⟨er, her⟩ : ∃ er : Int, (if f = true then 0 else 1) = er := ⟨_, rfl⟩
  rw [hL, her] at CL ⊢
  clear h hf hff hpl hL her hA
  unfold bdCells at CF CL ⊢
  obtain ⟨bx, hbx⟩ : ∃ bx, w.heap.size = bx := ⟨_, rfl⟩
  have hB0 := Blk.new w 63 #[.int .i64 x.o, .int .i64 x.c, .int .i64 x.n, .slice D x.v.length d]
  have b0 := below_new (Below.refl w.heap.size w) (.cells #[.int .i64 x.o, .int .i64 x.c, .int .i64 x.n, .slice D x.v.length d] 63)
  obtain ⟨W, hW⟩ : ∃ W, w.alloc (.cells #[.int .i64 x.o, .int .i64 x.c, .int .i64 x.n, .slice D x.v.length d] 63) = W := ⟨_, rfl⟩
  rw [hW] at hB0 b0
  rw [hbx] at hB0
  have HX := Lib.hid hbx; have HWW := Lib.hid hW; have HB0 := Lib.hid b0; have HBX := Lib.hid hB0
  clear hW b0 hB0
  go_enter Try.func33, Try.ntmps33
  go_wp2_with fail
  rw [HWW.out]
  try rw [HX.out]
  clear hbx
  refine wp_region_facts 7 (by kernel_rfl) (by kernel_rfl) (fun v => { tmps := #[.slice A b.length c, .agg #[.int .i64 x.o, .int .i64 x.c, .int .i64 x.n, .slice D x.v.length d], undef, .pointer (some ⟨bx, 0, none⟩), .slice none 0 0, .int .i64 0, v 0, v 1, v 2, v 3, v 4, v 5, v 6], defers := [] }) (fun _ => undef)
    (fun (i : Nat) (z : Value) (wx : World) => match i with | 0 => z = .slice A b.length c | 1 => z = .agg #[.int .i64 x.o, .int .i64 x.c, .int .i64 x.n, .slice D x.v.length d] | 2 => z = .agg #[.int .i64 x.o, .int .i64 x.c, .int .i64 x.n, .slice D x.v.length d] | 3 => z = .bool f | 4 => ∃ y, z = .tuple #[y, .int .i64 er] ∧ wx.ownsRow w.heap.size 5 1 y L.length (bCells L) | 5 => wx.ownsRow w.heap.size 5 1 z L.length (bCells L) | 6 => z = .int .i64 er | _ => True)
    (fun wa wb => Below wa.heap.size wa wb) (fun h1 h2 => below_on h1 h2) (fun _ => Below.refl _ _) (Below.refl _ _).drew ?stab ?step ?done
  case stab =>
    intro i x wa wb h1 h2
    match i, h1 with
    | 0, h1 => exact h1
    | 1, h1 => exact h1
    | 2, h1 => exact h1
    | 3, h1 => exact h1
    | 4, ⟨y, e1, e2⟩ => exact ⟨y, e1, own_later e2 h2⟩
    | 5, h1 => exact own_later h1 h2
    | 6, h1 => exact h1
    | k + 7, _ => trivial
  case step =>
    intro i hi v w' hb hd
    match i, hi with
    | 0, _ =>
      refine wpOp_one rfl ?_
      clear hd hb
      go_wp2
      first | exact ⟨_, (by simp [upd]; done), Below.refl _ _, rfl⟩ | exact ⟨(by simp [upd]; done), Below.refl _ _, rfl⟩ | exact ⟨(by simp [upd]; done), Below.refl _ _⟩
    | 1, _ =>
      have hBx := HBX.out.later hb
      have q0 := hBx.cell (i := 0) rfl
      have q1 := hBx.cell (i := 1) rfl
      have q2 := hBx.cell (i := 2) rfl
      have q3 := hBx.cell (i := 3) rfl
      refine wpOp_one rfl ?_
      clear hd hb hBx
      go_wp2
      first | exact ⟨_, (by simp [upd]; done), Below.refl _ _, rfl⟩ | exact ⟨(by simp [upd]; done), Below.refl _ _, rfl⟩ | exact ⟨(by simp [upd]; done), Below.refl _ _⟩
    | 2, _ =>
      have hBx := HBX.out.later hb
      have q0 := hBx.cell (i := 0) rfl
      have q1 := hBx.cell (i := 1) rfl
      have q2 := hBx.cell (i := 2) rfl
      have q3 := hBx.cell (i := 3) rfl
      refine wpOp_one rfl ?_
      clear hd hb hBx
      go_wp2
      first | exact ⟨_, (by simp [upd]; done), Below.refl _ _, rfl⟩ | exact ⟨(by simp [upd]; done), Below.refl _ _, rfl⟩ | exact ⟨(by simp [upd]; done), Below.refl _ _⟩
    | 3, _ =>
      have h1 : v 2 = _ := hd 2 (List.elem_iff.1 (by kernel_rfl))
      have CC := Lib.hid (CF.out w' (below_on HB0.out hb))
      refine wpOp_one rfl ?_
      clear hd hb
      rw [h1]
      go_wp2_with fail
      refine CC.out.mono ?_
      rintro e w'' ⟨rfl, b1⟩
      have B1 := Lib.hid b1
      clear b1 CC
      go_wp2
      exact ⟨_, (by simp [upd, h1]; done), B1.out, rfl⟩
    | 4, _ =>
      have hz : v 0 = _ := hd 0 (List.elem_iff.1 (by kernel_rfl))
      have h0 : v 1 = _ := hd 1 (List.elem_iff.1 (by kernel_rfl))
      have h2 : v 3 = _ := hd 3 (List.elem_iff.1 (by kernel_rfl))
      have b1 := below_on HB0.out hb
      have C2 := Lib.hid (CL.out w' b1)
      have hsz := b1.size
      refine wpOp_one rfl ?_
      clear hd hb b1
      rw [hz, h0, h2]
      go_wp2_with fail
      refine C2.out.mono ?_
      rintro e w2 ⟨v2, rfl, o2, b2⟩
      have O2 := Lib.hid (own_base o2 hsz); have B2 := Lib.hid b2
      clear o2 b2 C2
      go_wp2
      exact ⟨_, (by simp [upd, h0, h2, hz]; done), B2.out, v2, rfl, O2.out⟩
    | 5, _ =>
      obtain ⟨y, h3, o3⟩ := hd 4 (List.elem_iff.1 (by kernel_rfl))
      have O3 := Lib.hid o3
      refine wpOp_one rfl ?_
      clear hd hb o3
      rw [h3]
      go_wp2
      exact ⟨y, (by simp [upd, h3]; done), Below.refl _ _, O3.out⟩
    | 6, _ =>
      obtain ⟨y, h3, o3⟩ := hd 4 (List.elem_iff.1 (by kernel_rfl))
      refine wpOp_one rfl ?_
      clear hd hb o3
      rw [h3]
      go_wp2
      first | exact ⟨_, (by simp [upd, h3]; done), Below.refl _ _, rfl⟩ | exact ⟨(by simp [upd, h3]; done), Below.refl _ _, rfl⟩ | exact ⟨(by simp [upd, h3]; done), Below.refl _ _⟩
    | k + 7, hk => exact absurd hk (by omega)
  case done =>
    intro v w' hb hf
    have o4 : w'.ownsRow w.heap.size 5 1 (v 5) L.length (bCells L) := hf 5 (by omega)
    have h5 : v 6 = _ := hf 6 (by omega)
    obtain ⟨y, hy⟩ : ∃ y, v 5 = y := ⟨_, rfl⟩
    rw [hy] at o4
    have O4 := Lib.hid o4; have B4 := Lib.hid (below_on HB0.out hb)
    clear hf hb o4 CF CL
    simp only [List.drop_succ_cons, List.drop_zero]
    rw [hy, h5]
    clear hy h5
    go_wp2
    go_ret2
    exact ⟨_, rfl, O4.out, B4.out⟩

end Go.Proofs.Ytbbmngabbbehcaa
namespace Go.Proofs.Ytbbmngabbbehcaa
open Go.RowKit

set_option maxRecDepth 100000 in
set_option maxHeartbeats 3200000 in
theorem dnote_top (A : Option Addr) (c : Nat) (l : List Int) (w : World) (hl : l.length ≤ 1099511627776) (h : OneB w A c l) :
    Calls Try.prog 29 #[.slice A l.length c] w (BegN (fun a => Wi.such Nt.fmd (Wi.pnotr l a)) w) := by
  obtain ⟨r0, hr0⟩ : ∃ r0, w.heap.size = r0 := ⟨_, rfl⟩
  obtain ⟨W, hW⟩ : ∃ W, w.alloc (.cells #[.slice none 0 0, .slice none 0 0, .slice none 0 0, .slice none 0 0] 51) = W := ⟨_, rfl⟩
  have hb0 : Below w.heap.size w W := by rw [← hW]; exact below_new (Below.refl _ _) _
  have hKR : Blk W r0 51 #[.slice none 0 0, .slice none 0 0, .slice none 0 0, .slice none 0 0] := by rw [← hW, ← hr0]; exact Blk.new w _ _
  have hWs : W.heap.size = r0 + 1 := by rw [← hW, ← hr0]; simp
  have CB := Lib.hid (dbeg_nt A c l W hl (h.later hb0))
  have HR := Lib.hid hr0; have HW := Lib.hid hW; have HB0 := Lib.hid hb0; have KR := Lib.hid hKR; have HWS := Lib.hid hWs
  have hrw : w.heap.size ≤ r0 := by omega
  clear hW hb0 hr0 hKR h hWs
  go_enter Try.func29, Try.ntmps29
  go_wp2_with fail
  rw [HW.out]
  try rw [HR.out]
  refine CB.out.mono ?_
  rintro e w1 ⟨S, E, B, V, cs, ce, cb, cv, x, k, er, rfl, hsm, hown, hb, hway⟩
  unfold noteCells
  have ho1 := hown.down (show r0 + 1 ≤ W.heap.size by rw [HWS.out]; exact Nat.le_refl _)
  have hb1 := below_on HB0.out hb
  have k1 := KR.out.later hb
  have t0 := k1.free 0; have t1 := k1.free 1; have t2 := k1.free 2; have t3 := k1.free 3
  have y0 := k1.cell (i := 0) rfl; have y1 := k1.cell (i := 1) rfl; have y2 := k1.cell (i := 2) rfl; have y3 := k1.cell (i := 3) rfl
  have v1 := k1.put4 (.slice S x.s.length cs) (.slice E x.e.length ce) (.slice B x.b.length cb) (.slice V x.ws.length cv)
  have mo := ((((ho1.set (show r0 < r0 + 1 by omega) 0 (.slice S x.s.length cs)).set (show r0 < r0 + 1 by omega) 1 (.slice E x.e.length ce)).set (show r0 < r0 + 1 by omega) 2 (.slice B x.b.length cb)).set (show r0 < r0 + 1 by omega) 3 (.slice V x.ws.length cv)).down (show w.heap.size ≤ r0 + 1 by omega)
  have bb := ((((hb1.setCell (p := ⟨r0, 0, none⟩) hrw (.slice S x.s.length cs)).setCell (p := ⟨r0, 1, none⟩) hrw (.slice E x.e.length ce)).setCell (p := ⟨r0, 2, none⟩) hrw (.slice B x.b.length cb)).setCell (p := ⟨r0, 3, none⟩) hrw (.slice V x.ws.length cv))
  have V1 := Lib.hid v1; have MO := Lib.hid mo; have BB := Lib.hid bb; have SM := Lib.hid hsm; have WAY := Lib.hid hway
  clear v1 mo bb hsm hway hown hb ho1 hb1 k1 CB
  go_wp2
  exact bodyPost_ret (results_cell_tmp2 (p := 2) (t1 := 3) (t2 := 4) (ty := 51) rfl _ _ r0 51 #[.slice S x.s.length cs, .slice E x.e.length ce, .slice B x.b.length cb, .slice V x.ws.length cv] _ rfl V1.out Try.underlying51 rfl infoNt4) rfl
    ⟨S, E, B, V, cs, ce, cb, cv, x, _, _, rfl, SM.out, MO.out, BB.out, WAY.out⟩

set_option maxRecDepth 100000 in
set_option maxHeartbeats 3200000 in
theorem dbody_top (A : Option Addr) (c : Nat) (l : List Int) (w : World) (hl : l.length ≤ 1099511627776) (h : OneB w A c l) :
    Calls Try.prog 35 #[.slice A l.length c] w (BegB (fun a => Wi.such Wi.bright (Wi.pbod l a)) w) := by
  obtain ⟨r0, hr0⟩ : ∃ r0, w.heap.size = r0 := ⟨_, rfl⟩
  obtain ⟨W, hW⟩ : ∃ W, w.alloc (.cells #[.int .i64 0, .int .i64 0, .int .i64 0, .slice none 0 0] 63) = W := ⟨_, rfl⟩
  have hb0 : Below w.heap.size w W := by rw [← hW]; exact below_new (Below.refl _ _) _
  have hKR : Blk W r0 63 #[.int .i64 0, .int .i64 0, .int .i64 0, .slice none 0 0] := by rw [← hW, ← hr0]; exact Blk.new w _ _
  have hWs : W.heap.size = r0 + 1 := by rw [← hW, ← hr0]; simp
  have CB := Lib.hid (dbeg_bd A c l W hl (h.later hb0))
  have HR := Lib.hid hr0; have HW := Lib.hid hW; have HB0 := Lib.hid hb0; have KR := Lib.hid hKR; have HWS := Lib.hid hWs
  have hrw : w.heap.size ≤ r0 := by omega
  clear hW hb0 hr0 hKR h hWs
  go_enter Try.func35, Try.ntmps35
  go_wp2_with fail
  rw [HW.out]
  try rw [HR.out]
  refine CB.out.mono ?_
  rintro e w1 ⟨D, d, x, k, er, rfl, hsm, hown, hb, hway⟩
  unfold bdCells
  have ho1 := hown.down (show r0 + 1 ≤ W.heap.size by rw [HWS.out]; exact Nat.le_refl _)
  have hb1 := below_on HB0.out hb
  have k1 := KR.out.later hb
  have t0 := k1.free 0; have t1 := k1.free 1; have t2 := k1.free 2; have t3 := k1.free 3
  have y0 := k1.cell (i := 0) rfl; have y1 := k1.cell (i := 1) rfl; have y2 := k1.cell (i := 2) rfl; have y3 := k1.cell (i := 3) rfl
  have v1 := k1.put4 (.int .i64 x.o) (.int .i64 x.c) (.int .i64 x.n) (.slice D x.v.length d)
  have mo := ((((ho1.set (show r0 < r0 + 1 by omega) 0 (.int .i64 x.o)).set (show r0 < r0 + 1 by omega) 1 (.int .i64 x.c)).set (show r0 < r0 + 1 by omega) 2 (.int .i64 x.n)).set (show r0 < r0 + 1 by omega) 3 (.slice D x.v.length d)).down (show w.heap.size ≤ r0 + 1 by omega)
  have bb := ((((hb1.setCell (p := ⟨r0, 0, none⟩) hrw (.int .i64 x.o)).setCell (p := ⟨r0, 1, none⟩) hrw (.int .i64 x.c)).setCell (p := ⟨r0, 2, none⟩) hrw (.int .i64 x.n)).setCell (p := ⟨r0, 3, none⟩) hrw (.slice D x.v.length d))
  have V1 := Lib.hid v1; have MO := Lib.hid mo; have BB := Lib.hid bb; have SM := Lib.hid hsm; have WAY := Lib.hid hway
  clear v1 mo bb hsm hway hown hb ho1 hb1 k1 CB
  go_wp2
  exact bodyPost_ret (results_cell_tmp2 (p := 2) (t1 := 3) (t2 := 4) (ty := 63) rfl _ _ r0 63 #[.int .i64 x.o, .int .i64 x.c, .int .i64 x.n, .slice D x.v.length d] _ rfl V1.out Try.underlying63 rfl infoBd) rfl
    ⟨D, d, x, _, _, rfl, SM.out, MO.out, BB.out, WAY.out⟩

end Go.Proofs.Ytbbmngabbbehcaa
namespace Go.Proofs.Ytbbmngabbbehcaa
open Go.RowKit

/-- What Decode answers: the message that the bytes are, or the error. -/
def DecM (p : Nat → Option (Ms × Nat)) (n : Nat) (w : World) (e : Ending) (w' : World) : Prop :=
  ∃ I V N D ci cv cn d x er, e = .returned (.tuple #[.agg (msCells I V N D ci cv cn d x), .int .i64 er]) ∧ MsSm x ∧ MsOwn w' w.heap.size I V N D ci cv cn d x ∧ Below w.heap.size w w' ∧
    ((p 0 = some (x, n) ∧ er = 0) ∨ ((∀ y, p 0 ≠ some (y, n)) ∧ x = zeroMs ∧ er = 4))
set_option maxRecDepth 100000 in
set_option maxHeartbeats 12800000 in
theorem ddecode_any (A : Option Addr) (c : Nat) (l : List Int) (w : World) (hl : l.length ≤ 1099511627776) (h : OneB w A c l) (hle : ∀ x a, Wi.pmsgr l 0 = some (x, a) → a ≤ l.length) :
    Calls Try.prog 43 #[.slice A l.length c] w (DecM (fun a => Wi.such Wi.dmf (Wi.pmsgr l a)) l.length w) := by
  obtain ⟨r0, hr0⟩ : ∃ r0, w.heap.size = r0 := ⟨_, rfl⟩
  obtain ⟨W, hW⟩ : ∃ W, w.alloc (.cells #[.int .i64 0, .int .i64 0, .int .i64 0, .int .i64 0, .int .i64 0, .slice none 0 0, .slice none 0 0, .slice none 0 0, .int .i64 0, .int .i64 0, .int .i64 0, .slice none 0 0] 74) = W := ⟨_, rfl⟩
  have hb0 : Below w.heap.size w W := by rw [← hW]; exact below_new (Below.refl _ _) _
  have hKR : Blk W r0 74 #[.int .i64 0, .int .i64 0, .int .i64 0, .int .i64 0, .int .i64 0, .slice none 0 0, .slice none 0 0, .slice none 0 0, .int .i64 0, .int .i64 0, .int .i64 0, .slice none 0 0] := by rw [← hW, ← hr0]; exact Blk.new w _ _
  have hWs : W.heap.size = r0 + 1 := by rw [← hW, ← hr0]; simp
  have CB := Lib.hid (dbeg_ms A c l W hl (h.later hb0))
  have HR := Lib.hid hr0; have HW := Lib.hid hW; have HB0 := Lib.hid hb0; have KR := Lib.hid hKR; have HWS := Lib.hid hWs; have HLE := Lib.hid hle
  have hrw : w.heap.size ≤ r0 := by omega
  have hll := h.len
  clear hW hb0 hr0 hKR h hWs hle
  go_enter Try.func43, Try.ntmps43
  go_wp2_with fail
  rw [HW.out]
  try rw [HR.out]
  refine CB.out.mono ?_
  rintro e w1 ⟨I, V, N, D, ci, cv, cn, d, x, k, er, rfl, hsm, hown, hb, hway⟩
  unfold msCells
  have ho1 := hown.down (show r0 + 1 ≤ W.heap.size by rw [HWS.out]; exact Nat.le_refl _)
  have hb1 := below_on HB0.out hb
  have k1 := KR.out.later hb
  have hb10 := below_new (Below.refl w1.heap.size w1) (.cells #[.int .i64 x.k, .int .i64 x.f, .int .i64 x.t, .int .i64 x.s, .int .i64 x.q, .slice I x.it.length ci, .slice V x.vc.length cv, .slice N x.ns.length cn, .int .i64 x.bd.o, .int .i64 x.bd.c, .int .i64 x.bd.n, .slice D x.bd.v.length d] 74)
  have kx := Blk.new w1 74 #[.int .i64 x.k, .int .i64 x.f, .int .i64 x.t, .int .i64 x.s, .int .i64 x.q, .slice I x.it.length ci, .slice V x.vc.length cv, .slice N x.ns.length cn, .int .i64 x.bd.o, .int .i64 x.bd.c, .int .i64 x.bd.n, .slice D x.bd.v.length d]
  have kr2 := k1.later hb10
  have ho2 := ho1.later hb10
  have hb2 := below_on hb1 hb10
  have hs1 : r0 + 1 ≤ w1.heap.size := by have := hb.size; rw [HWS.out] at this; exact this
  obtain ⟨W1, hW1⟩ : ∃ W1, w1.alloc (.cells #[.int .i64 x.k, .int .i64 x.f, .int .i64 x.t, .int .i64 x.s, .int .i64 x.q, .slice I x.it.length ci, .slice V x.vc.length cv, .slice N x.ns.length cn, .int .i64 x.bd.o, .int .i64 x.bd.c, .int .i64 x.bd.n, .slice D x.bd.v.length d] 74) = W1 := ⟨_, rfl⟩
  obtain ⟨bx, hbx⟩ : ∃ bx, w1.heap.size = bx := ⟨_, rfl⟩
  rw [hW1] at kr2 ho2 hb2 kx
  rw [hbx] at kx hs1
  have HW1 := Lib.hid hW1; have HBX := Lib.hid hbx; have HB2 := Lib.hid hb2; have HO2 := Lib.hid ho2; have HKX := Lib.hid kx; have HKR := Lib.hid kr2; have HSM := Lib.hid hsm
  clear hW1 hbx hb1 hb2 ho1 ho2 kx k1 kr2 hb10 hown hb hsm HB0 KR CB
  rcases hway with ⟨a, hp, rfl, rfl⟩ | ⟨hp, -, rfl, rfl⟩
  · have hal : a ≤ l.length := by
      have hp' : Wi.such Wi.dmf (Wi.pmsgr l 0) = some (x, a) := hp
      cases hq : Wi.pmsgr l 0 with
      | none => rw [hq] at hp'; cases hp'
      | some y =>
        obtain ⟨y, b⟩ := y
        rw [hq] at hp'
        have hp' : (if Wi.dmf y then some (y, b) else none) = some (x, a) := hp'
        cases hd : Wi.dmf y with
        | false => rw [hd] at hp'; cases hp'
        | true => rw [hd] at hp'; cases hp'; exact HLE.out x a hq
    have HP := Lib.hid hp
    clear hp
    go_upto_region 2 with (fail)
    rw [HW1.out]
    rw [HBX.out]
    by_cases hlt : a < l.length
    · have d1 : decide (a < l.length) = true := decide_eq_true hlt
      have HNO := Lib.hid (show ∀ y, (fun a => Wi.such Wi.dmf (Wi.pmsgr l a)) 0 ≠ some (y, l.length) from fun y hy => by have e := HP.out.symm.trans hy; cases e; exact absurd hlt (Nat.lt_irrefl _))
      have v1 := HKR.out.put12 (.int .i64 0) (.int .i64 0) (.int .i64 0) (.int .i64 0) (.int .i64 0) (.slice none 0 0) (.slice none 0 0) (.slice none 0 0) (.int .i64 0) (.int .i64 0) (.int .i64 0) (.slice none 0 0)
      have bb := ((((((((((((HB2.out.setCell (p := ⟨r0, 0, none⟩) hrw (.int .i64 0)).setCell (p := ⟨r0, 1, none⟩) hrw (.int .i64 0)).setCell (p := ⟨r0, 2, none⟩) hrw (.int .i64 0)).setCell (p := ⟨r0, 3, none⟩) hrw (.int .i64 0)).setCell (p := ⟨r0, 4, none⟩) hrw (.int .i64 0)).setCell (p := ⟨r0, 5, none⟩) hrw (.slice none 0 0)).setCell (p := ⟨r0, 6, none⟩) hrw (.slice none 0 0)).setCell (p := ⟨r0, 7, none⟩) hrw (.slice none 0 0)).setCell (p := ⟨r0, 8, none⟩) hrw (.int .i64 0)).setCell (p := ⟨r0, 9, none⟩) hrw (.int .i64 0)).setCell (p := ⟨r0, 10, none⟩) hrw (.int .i64 0)).setCell (p := ⟨r0, 11, none⟩) hrw (.slice none 0 0))
      have V1 := Lib.hid v1; have BB := Lib.hid bb
      clear v1 bb
      have t0 := HKR.out.free 0; have y0 := HKR.out.cell (i := 0) rfl
      have t1 := HKR.out.free 1; have y1 := HKR.out.cell (i := 1) rfl
      have t2 := HKR.out.free 2; have y2 := HKR.out.cell (i := 2) rfl
      have t3 := HKR.out.free 3; have y3 := HKR.out.cell (i := 3) rfl
      have t4 := HKR.out.free 4; have y4 := HKR.out.cell (i := 4) rfl
      have t5 := HKR.out.free 5; have y5 := HKR.out.cell (i := 5) rfl
      have t6 := HKR.out.free 6; have y6 := HKR.out.cell (i := 6) rfl
      have t7 := HKR.out.free 7; have y7 := HKR.out.cell (i := 7) rfl
      have t8 := HKR.out.free 8; have y8 := HKR.out.cell (i := 8) rfl
      have t9 := HKR.out.free 9; have y9 := HKR.out.cell (i := 9) rfl
      have t10 := HKR.out.free 10; have y10 := HKR.out.cell (i := 10) rfl
      have t11 := HKR.out.free 11; have y11 := HKR.out.cell (i := 11) rfl
      go_wp2
      exact bodyPost_ret (results_cell_tmp (p := 2) (t1 := 3) (ty := 74) rfl _ _ r0 74 #[.int .i64 0, .int .i64 0, .int .i64 0, .int .i64 0, .int .i64 0, .slice none 0 0, .slice none 0 0, .slice none 0 0, .int .i64 0, .int .i64 0, .int .i64 0, .slice none 0 0] _ rfl V1.out Try.underlying74 rfl infoMs12) rfl
        ⟨none, none, none, none, 0, 0, 0, 0, zeroMs, _, rfl, MsSm.zero, MsOwn.zero _ _, BB.out, .inr ⟨fun y hy => HNO.out y hy, rfl, rfl⟩⟩
    · obtain rfl : a = l.length := by omega
      have d1 : decide (l.length < l.length) = false := decide_eq_false (by omega)
      clear hlt
      have mo := ((((((((((((HO2.out.set (show r0 < r0 + 1 by omega) 0 (.int .i64 x.k)).set (show r0 < r0 + 1 by omega) 1 (.int .i64 x.f)).set (show r0 < r0 + 1 by omega) 2 (.int .i64 x.t)).set (show r0 < r0 + 1 by omega) 3 (.int .i64 x.s)).set (show r0 < r0 + 1 by omega) 4 (.int .i64 x.q)).set (show r0 < r0 + 1 by omega) 5 (.slice I x.it.length ci)).set (show r0 < r0 + 1 by omega) 6 (.slice V x.vc.length cv)).set (show r0 < r0 + 1 by omega) 7 (.slice N x.ns.length cn)).set (show r0 < r0 + 1 by omega) 8 (.int .i64 x.bd.o)).set (show r0 < r0 + 1 by omega) 9 (.int .i64 x.bd.c)).set (show r0 < r0 + 1 by omega) 10 (.int .i64 x.bd.n)).set (show r0 < r0 + 1 by omega) 11 (.slice D x.bd.v.length d)).down (show w.heap.size ≤ r0 + 1 by omega)
      have MO := Lib.hid mo
      clear mo
      have v1 := HKR.out.put12 (.int .i64 x.k) (.int .i64 x.f) (.int .i64 x.t) (.int .i64 x.s) (.int .i64 x.q) (.slice I x.it.length ci) (.slice V x.vc.length cv) (.slice N x.ns.length cn) (.int .i64 x.bd.o) (.int .i64 x.bd.c) (.int .i64 x.bd.n) (.slice D x.bd.v.length d)
      have bb := ((((((((((((HB2.out.setCell (p := ⟨r0, 0, none⟩) hrw (.int .i64 x.k)).setCell (p := ⟨r0, 1, none⟩) hrw (.int .i64 x.f)).setCell (p := ⟨r0, 2, none⟩) hrw (.int .i64 x.t)).setCell (p := ⟨r0, 3, none⟩) hrw (.int .i64 x.s)).setCell (p := ⟨r0, 4, none⟩) hrw (.int .i64 x.q)).setCell (p := ⟨r0, 5, none⟩) hrw (.slice I x.it.length ci)).setCell (p := ⟨r0, 6, none⟩) hrw (.slice V x.vc.length cv)).setCell (p := ⟨r0, 7, none⟩) hrw (.slice N x.ns.length cn)).setCell (p := ⟨r0, 8, none⟩) hrw (.int .i64 x.bd.o)).setCell (p := ⟨r0, 9, none⟩) hrw (.int .i64 x.bd.c)).setCell (p := ⟨r0, 10, none⟩) hrw (.int .i64 x.bd.n)).setCell (p := ⟨r0, 11, none⟩) hrw (.slice D x.bd.v.length d))
      have V1 := Lib.hid v1; have BB := Lib.hid bb
      clear v1 bb
      have t0 := HKR.out.free 0; have y0 := HKR.out.cell (i := 0) rfl
      have t1 := HKR.out.free 1; have y1 := HKR.out.cell (i := 1) rfl
      have t2 := HKR.out.free 2; have y2 := HKR.out.cell (i := 2) rfl
      have t3 := HKR.out.free 3; have y3 := HKR.out.cell (i := 3) rfl
      have t4 := HKR.out.free 4; have y4 := HKR.out.cell (i := 4) rfl
      have t5 := HKR.out.free 5; have y5 := HKR.out.cell (i := 5) rfl
      have t6 := HKR.out.free 6; have y6 := HKR.out.cell (i := 6) rfl
      have t7 := HKR.out.free 7; have y7 := HKR.out.cell (i := 7) rfl
      have t8 := HKR.out.free 8; have y8 := HKR.out.cell (i := 8) rfl
      have t9 := HKR.out.free 9; have y9 := HKR.out.cell (i := 9) rfl
      have t10 := HKR.out.free 10; have y10 := HKR.out.cell (i := 10) rfl
      have t11 := HKR.out.free 11; have y11 := HKR.out.cell (i := 11) rfl
      have c0 := HKX.out.cell (i := 0) rfl
      have c1 := HKX.out.cell (i := 1) rfl
      have c2 := HKX.out.cell (i := 2) rfl
      have c3 := HKX.out.cell (i := 3) rfl
      have c4 := HKX.out.cell (i := 4) rfl
      have c5 := HKX.out.cell (i := 5) rfl
      have c6 := HKX.out.cell (i := 6) rfl
      have c7 := HKX.out.cell (i := 7) rfl
      have c8 := HKX.out.cell (i := 8) rfl
      have c9 := HKX.out.cell (i := 9) rfl
      have c10 := HKX.out.cell (i := 10) rfl
      have c11 := HKX.out.cell (i := 11) rfl
      go_wp2
      exact bodyPost_ret (results_cell_tmp (p := 2) (t1 := 3) (ty := 74) rfl _ _ r0 74 #[.int .i64 x.k, .int .i64 x.f, .int .i64 x.t, .int .i64 x.s, .int .i64 x.q, .slice I x.it.length ci, .slice V x.vc.length cv, .slice N x.ns.length cn, .int .i64 x.bd.o, .int .i64 x.bd.c, .int .i64 x.bd.n, .slice D x.bd.v.length d] _ rfl V1.out Try.underlying74 rfl infoMs12) rfl
        ⟨I, V, N, D, ci, cv, cn, d, x, _, rfl, HSM.out, MO.out, BB.out, .inl ⟨HP.out, rfl⟩⟩
  · have HNO := Lib.hid (show ∀ y, (fun a => Wi.such Wi.dmf (Wi.pmsgr l a)) 0 ≠ some (y, l.length) from fun y hy => by have e := hp.symm.trans hy; cases e)
    clear hp
    go_upto_region 2 with (fail)
    rw [HW1.out]
    rw [HBX.out]
    have v1 := HKR.out.put12 (.int .i64 0) (.int .i64 0) (.int .i64 0) (.int .i64 0) (.int .i64 0) (.slice none 0 0) (.slice none 0 0) (.slice none 0 0) (.int .i64 0) (.int .i64 0) (.int .i64 0) (.slice none 0 0)
    have bb := ((((((((((((HB2.out.setCell (p := ⟨r0, 0, none⟩) hrw (.int .i64 0)).setCell (p := ⟨r0, 1, none⟩) hrw (.int .i64 0)).setCell (p := ⟨r0, 2, none⟩) hrw (.int .i64 0)).setCell (p := ⟨r0, 3, none⟩) hrw (.int .i64 0)).setCell (p := ⟨r0, 4, none⟩) hrw (.int .i64 0)).setCell (p := ⟨r0, 5, none⟩) hrw (.slice none 0 0)).setCell (p := ⟨r0, 6, none⟩) hrw (.slice none 0 0)).setCell (p := ⟨r0, 7, none⟩) hrw (.slice none 0 0)).setCell (p := ⟨r0, 8, none⟩) hrw (.int .i64 0)).setCell (p := ⟨r0, 9, none⟩) hrw (.int .i64 0)).setCell (p := ⟨r0, 10, none⟩) hrw (.int .i64 0)).setCell (p := ⟨r0, 11, none⟩) hrw (.slice none 0 0))
    have V1 := Lib.hid v1; have BB := Lib.hid bb
    clear v1 bb
    have t0 := HKR.out.free 0; have y0 := HKR.out.cell (i := 0) rfl
    have t1 := HKR.out.free 1; have y1 := HKR.out.cell (i := 1) rfl
    have t2 := HKR.out.free 2; have y2 := HKR.out.cell (i := 2) rfl
    have t3 := HKR.out.free 3; have y3 := HKR.out.cell (i := 3) rfl
    have t4 := HKR.out.free 4; have y4 := HKR.out.cell (i := 4) rfl
    have t5 := HKR.out.free 5; have y5 := HKR.out.cell (i := 5) rfl
    have t6 := HKR.out.free 6; have y6 := HKR.out.cell (i := 6) rfl
    have t7 := HKR.out.free 7; have y7 := HKR.out.cell (i := 7) rfl
    have t8 := HKR.out.free 8; have y8 := HKR.out.cell (i := 8) rfl
    have t9 := HKR.out.free 9; have y9 := HKR.out.cell (i := 9) rfl
    have t10 := HKR.out.free 10; have y10 := HKR.out.cell (i := 10) rfl
    have t11 := HKR.out.free 11; have y11 := HKR.out.cell (i := 11) rfl
    go_wp2
    exact bodyPost_ret (results_cell_tmp (p := 2) (t1 := 3) (ty := 74) rfl _ _ r0 74 #[.int .i64 0, .int .i64 0, .int .i64 0, .int .i64 0, .int .i64 0, .slice none 0 0, .slice none 0 0, .slice none 0 0, .int .i64 0, .int .i64 0, .int .i64 0, .slice none 0 0] _ rfl V1.out Try.underlying74 rfl infoMs12) rfl
      ⟨none, none, none, none, 0, 0, 0, 0, zeroMs, _, rfl, MsSm.zero, MsOwn.zero _ _, BB.out, .inr ⟨fun y hy => HNO.out y hy, rfl, rfl⟩⟩

end Go.Proofs.Ytbbmngabbbehcaa
