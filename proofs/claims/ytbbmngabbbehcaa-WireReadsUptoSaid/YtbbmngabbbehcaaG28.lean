/-
  What wire's laid answers, for each kind of thing.
  What wire's exported calls on vectors and sets answer, and Encode.
  Plain mathematics of wire, two: what is formed is short and can be laid; the two ways to read, and to ask whether a message is as it must be, are one; a message that is laid is read.
  Plain mathematics of wire, three: what is laid are bytes, and how many they are.
-/
import Derived.Test.YtbbmngabbbehcaaG20
import Derived.Test.YtbbmngabbbehcaaG27
import Derived.Test.YtbbmngabbbehcaaG24
namespace Go.Proofs.Ytbbmngabbbehcaa
open Go.RowKit

/-- Bytes in memory of the call's own, and the error's number. -/
def GivesB2 (l : List Int) (k : Int) (w : World) (e : Ending) (w' : World) : Prop :=
  ∃ v, e = .returned (.tuple #[v, .int .i64 k]) ∧ w'.ownsRow w.heap.size 5 1 v l.length (bCells l) ∧ Below w.heap.size w w'
/-- What laid answers. -/
def LaidB (f : Bool) (l : List Int) (w : World) (e : Ending) (w' : World) : Prop := GivesB2 (if f then l else []) (if f then 0 else 1) w e w'
theorem laid_none (w w' : World) (hb : Below w.heap.size w w') : GivesB2 [] 1 w (.returned (.tuple #[.slice none 0 0, .int .i64 1])) w' := ⟨_, rfl, ⟨rfl, .inl ⟨rfl, rfl⟩⟩, hb⟩

set_option maxHeartbeats 6400000 in
theorem dlaid_st (A : Option Addr) (c : Nat) (b : List Int) (X : Option Addr) (cx : Nat) (l : List (Int × Int)) (f : Bool) (w : World) (hA : OneB w A c b) (hpl : b.length + (Wi.elist Wi.est l).length ≤ 70368744177664) (hfh : f = true → ∀ s ∈ l, Wi.fit s.1 ∧ Wi.fit s.2) (h : OneL w X cx l) (hll : l.length ≤ 1099511627776) :
    Calls Try.prog 48 #[.slice A b.length c, .slice X l.length cx, .bool f, .func (.func 50) #[] #[]] w (LaidB f (b ++ Wi.elist Wi.est l) w) := by
  cases f with
  | false =>
    have hb1 : Below w.heap.size w w := Below.refl _ _
    have HB1 := Lib.hid hb1
    show Calls _ _ _ _ (GivesB2 [] 1 w)
    clear hA h hfh hpl hb1
    go_enter Try.func48, Try.ntmps48
    go_wp2
    go_ret2
    exact laid_none w _ HB1.out
  | true =>
    have hf := hfh rfl
    show Calls _ _ _ _ (GivesB2 (b ++ Wi.elist Wi.est l) 0 w)
    have HF := Lib.hid hf; have H := Lib.hid h
    have CL := Lib.hid (fun wx (hb : Below w.heap.size w wx) => cloneB_any A c b wx (by omega) (hA.later hb))
    have CY := Lib.hid (fun (y : Value) (w1 : World) (o1 : w1.ownsRow w.heap.size 5 1 y b.length (bCells b)) (b1 : Below w.heap.size w w1) => dvec_any w y b X cx l w1 hpl hll HF.out H.out o1 b1)
    clear hf h hfh hA
    obtain ⟨full, hfull⟩ : ∃ p, b ++ Wi.elist Wi.est l = p := ⟨_, rfl⟩
    rw [hfull] at CY ⊢
    clear hfull hpl
    go_enter Try.func48, Try.ntmps48
    go_wp2_with fail
    refine (CL.out _ (Below.refl _ _)).mono ?_
    rintro e w1 ⟨y, rfl, o1, b1⟩
    have C2 := Lib.hid (CY.out y w1 o1 b1)
    have O1 := Lib.hid o1; have B1 := Lib.hid b1
    clear CL CY o1 b1
    go_wp2_with fail
    refine C2.out.mono ?_
    rintro e w2 ⟨v2, rfl, q1, q2, q3⟩
    have Q1 := Lib.hid q1; have Q2 := Lib.hid (below_grown B1.out q2 O1.out)
    clear q1 q2 q3 C2
    go_wp2
    go_ret2
    exact ⟨_, rfl, Q1.out, Q2.out⟩

set_option maxHeartbeats 6400000 in
theorem dlaid_sp (A : Option Addr) (c : Nat) (b : List Int) (X : Option Addr) (cx : Nat) (l : List (Int × Int)) (f : Bool) (w : World) (hA : OneB w A c b) (hpl : b.length + (Wi.elist Wi.etwo l).length ≤ 70368744177664) (hfh : f = true → ∀ s ∈ l, Wi.fit s.1 ∧ Wi.fit s.2) (h : OneL w X cx l) (hll : l.length ≤ 1099511627776) :
    Calls Try.prog 56 #[.slice A b.length c, .slice X l.length cx, .bool f, .func (.func 58) #[] #[]] w (LaidB f (b ++ Wi.elist Wi.etwo l) w) := by
  cases f with
  | false =>
    have hb1 : Below w.heap.size w w := Below.refl _ _
    have HB1 := Lib.hid hb1
    show Calls _ _ _ _ (GivesB2 [] 1 w)
    clear hA h hfh hpl hb1
    go_enter Try.func56, Try.ntmps56
    go_wp2
    go_ret2
    exact laid_none w _ HB1.out
  | true =>
    have hf := hfh rfl
    show Calls _ _ _ _ (GivesB2 (b ++ Wi.elist Wi.etwo l) 0 w)
    have HF := Lib.hid hf; have H := Lib.hid h
    have CL := Lib.hid (fun wx (hb : Below w.heap.size w wx) => cloneB_any A c b wx (by omega) (hA.later hb))
    have CY := Lib.hid (fun (y : Value) (w1 : World) (o1 : w1.ownsRow w.heap.size 5 1 y b.length (bCells b)) (b1 : Below w.heap.size w w1) => dset_any w y b X cx l w1 hpl hll HF.out H.out o1 b1)
    clear hf h hfh hA
    obtain ⟨full, hfull⟩ : ∃ p, b ++ Wi.elist Wi.etwo l = p := ⟨_, rfl⟩
    rw [hfull] at CY ⊢
    clear hfull hpl
    go_enter Try.func56, Try.ntmps56
    go_wp2_with fail
    refine (CL.out _ (Below.refl _ _)).mono ?_
    rintro e w1 ⟨y, rfl, o1, b1⟩
    have C2 := Lib.hid (CY.out y w1 o1 b1)
    have O1 := Lib.hid o1; have B1 := Lib.hid b1
    clear CL CY o1 b1
    go_wp2_with fail
    refine C2.out.mono ?_
    rintro e w2 ⟨v2, rfl, q1, q2, q3⟩
    have Q1 := Lib.hid q1; have Q2 := Lib.hid (below_grown B1.out q2 O1.out)
    clear q1 q2 q3 C2
    go_wp2
    go_ret2
    exact ⟨_, rfl, Q1.out, Q2.out⟩

set_option maxHeartbeats 6400000 in
theorem dlaid_nt (A : Option Addr) (c : Nat) (b : List Int) (S E B V : Option Addr) (cs ce cb cv : Nat) (n : Note) (f : Bool) (w : World) (hA : OneB w A c b) (hpl : b.length + (Wi.enote n).length ≤ 70368744177664) (hfh : f = true → Wi.fitN n) (h : NoteAt w S E B V cs ce cb cv n) (k1 : n.s.length ≤ 1099511627776) (k2 : n.e.length ≤ 1099511627776) (k3 : n.b.length ≤ 1099511627776) (k4 : n.ws.length ≤ 1099511627776) :
    Calls Try.prog 64 #[.slice A b.length c, .agg (noteCells S E B V cs ce cb cv n), .bool f, .func (.func 66) #[] #[]] w (LaidB f (b ++ Wi.enote n) w) := by
  cases f with
  | false =>
    have hb1 : Below w.heap.size w (w.alloc (.cells #[.slice S n.s.length cs, .slice E n.e.length ce, .slice B n.b.length cb, .slice V n.ws.length cv] 51)) := below_new (Below.refl _ _) _
    have HB1 := Lib.hid hb1
    show Calls _ _ _ _ (GivesB2 [] 1 w)
    clear hA h hfh hpl hb1
    unfold noteCells
    go_enter Try.func64, Try.ntmps64
    go_wp2
    go_ret2
    exact laid_none w _ HB1.out
  | true =>
    have hf := hfh rfl
    show Calls _ _ _ _ (GivesB2 (b ++ Wi.enote n) 0 w)
    have HF := Lib.hid hf; have H := Lib.hid h
    have CL := Lib.hid (fun wx (hb : Below w.heap.size w wx) => cloneB_any A c b wx (by omega) (hA.later hb))
    have CY := Lib.hid (fun (y : Value) (w1 : World) (o1 : w1.ownsRow w.heap.size 5 1 y b.length (bCells b)) (b1 : Below w.heap.size w w1) => dnote_any w y b S E B V cs ce cb cv n w1 hpl k1 k2 k3 k4 HF.out H.out o1 b1)
    clear hf h hfh hA
    obtain ⟨full, hfull⟩ : ∃ p, b ++ Wi.enote n = p := ⟨_, rfl⟩
    rw [hfull] at CY ⊢
    clear hfull hpl
    unfold noteCells
    obtain ⟨bx, hbx⟩ : ∃ bx, w.heap.size = bx := ⟨_, rfl⟩
    have hB0 := Blk.new w 51 #[.slice S n.s.length cs, .slice E n.e.length ce, .slice B n.b.length cb, .slice V n.ws.length cv]
    have b0 := below_new (Below.refl w.heap.size w) (.cells #[.slice S n.s.length cs, .slice E n.e.length ce, .slice B n.b.length cb, .slice V n.ws.length cv] 51)
    obtain ⟨W, hW⟩ : ∃ W, w.alloc (.cells #[.slice S n.s.length cs, .slice E n.e.length ce, .slice B n.b.length cb, .slice V n.ws.length cv] 51) = W := ⟨_, rfl⟩
    rw [hW] at hB0 b0
    rw [hbx] at hB0
    have HX := Lib.hid hbx; have HWW := Lib.hid hW; have HB0 := Lib.hid b0; have HBX := Lib.hid hB0
    clear hW b0 hB0
    go_enter Try.func64, Try.ntmps64
    go_wp2_with fail
    rw [HWW.out]
    try rw [HX.out]
    clear hbx
    refine wp_region_facts 4 (by kernel_rfl) (by kernel_rfl) (fun v => { tmps := #[.slice A b.length c, .agg #[.slice S n.s.length cs, .slice E n.e.length ce, .slice B n.b.length cb, .slice V n.ws.length cv], .bool true, .func (.func 66) #[] #[], undef, .pointer (some ⟨bx, 0, none⟩), undef, undef, .slice none 0 0, .int .i64 0, .bool true, .bool false, v 0, v 1, v 2, v 3, undef], defers := [] }) (fun _ => undef)
      (fun i z wx => match i with | 0 => z = .func (.func 66) #[] #[] | 1 => z = .slice A b.length c | 2 => wx.ownsRow w.heap.size 5 1 z b.length (bCells b) | 3 => z = .agg #[.slice S n.s.length cs, .slice E n.e.length ce, .slice B n.b.length cb, .slice V n.ws.length cv] | _ => True)
      (fun wa wb => Below wa.heap.size wa wb) (fun h1 h2 => below_on h1 h2) (fun _ => Below.refl _ _) (Below.refl _ _).drew ?stab ?step ?done
    case stab =>
      intro i x wa wb h1 h2
      match i, h1 with
      | 0, h1 => exact h1
      | 1, h1 => exact h1
      | 2, h1 => exact own_later h1 h2
      | 3, h1 => exact h1
      | k + 4, _ => trivial
    case step =>
      intro i hi v w' hb hd
      match i, hi with
      | 0, _ =>
        refine wpOp_one rfl ?_
        clear hd hb
        go_wp2
        first | exact ⟨_, (by simp [upd]; done), Below.refl _ _, rfl⟩ | exact ⟨(by simp [upd]; done), Below.refl _ _, rfl⟩ | exact ⟨(by simp [upd]; done), Below.refl _ _⟩
      | 1, _ =>
        refine wpOp_one rfl ?_
        clear hd hb
        go_wp2
        first | exact ⟨_, (by simp [upd]; done), Below.refl _ _, rfl⟩ | exact ⟨(by simp [upd]; done), Below.refl _ _, rfl⟩ | exact ⟨(by simp [upd]; done), Below.refl _ _⟩
      | 2, _ =>
        have h1 : v 1 = _ := hd 1 (List.elem_iff.1 (by kernel_rfl))
        have CC := Lib.hid (CL.out w' (below_on HB0.out hb))
        have hsz : w.heap.size ≤ w'.heap.size := (below_on HB0.out hb).size
        refine wpOp_one rfl ?_
        clear hd hb
        rw [h1]
        go_wp2_with fail
        refine CC.out.mono ?_
        rintro e w'' ⟨y, rfl, o1, b1⟩
        have O1 := Lib.hid (own_base o1 hsz); have B1 := Lib.hid b1
        clear o1 b1 CC
        go_wp2
        exact ⟨_, (by simp [upd, h1]; done), B1.out, O1.out⟩
      | 3, _ =>
        have hBx := HBX.out.later hb
        have q0 := hBx.cell (i := 0) rfl
        have q1 := hBx.cell (i := 1) rfl
        have q2 := hBx.cell (i := 2) rfl
        have q3 := hBx.cell (i := 3) rfl
        refine wpOp_one rfl ?_
        clear hd hb hBx
        go_wp2
        first | exact ⟨_, (by simp [upd]; done), Below.refl _ _, rfl⟩ | exact ⟨(by simp [upd]; done), Below.refl _ _, rfl⟩ | exact ⟨(by simp [upd]; done), Below.refl _ _⟩
      | k + 4, hk => exact absurd hk (by omega)
    case done =>
      intro v w' hb hf
      have h0 : v 0 = _ := hf 0 (by omega)
      have o1 : w'.ownsRow w.heap.size 5 1 (v 2) b.length (bCells b) := hf 2 (by omega)
      have h3 : v 3 = _ := hf 3 (by omega)
      obtain ⟨y, hy⟩ : ∃ y, v 2 = y := ⟨_, rfl⟩
      rw [hy] at o1
      have b1 := below_on HB0.out hb
      have C2 := CY.out y w' o1 b1
      unfold noteCells at C2
      have C2 := Lib.hid C2
      have O1 := Lib.hid o1; have B1 := Lib.hid b1
      clear CL CY o1 b1 hb hf
      rw [h0, h3, hy]
      clear h0 h3 hy
      go_wp2_with fail
      refine C2.out.mono ?_
      rintro e w2 ⟨v2, rfl, q1, q2, q3⟩
      have Q1 := Lib.hid q1; have Q2 := Lib.hid (below_grown B1.out q2 O1.out)
      clear q1 q2 q3 C2
      go_wp2
      go_ret2
      exact ⟨_, rfl, Q1.out, Q2.out⟩

set_option maxHeartbeats 6400000 in
theorem dlaid_bd (A : Option Addr) (c : Nat) (b : List Int) (D : Option Addr) (d : Nat) (x : Bd) (f : Bool) (w : World) (hA : OneB w A c b) (hpl : b.length + (Wi.ebody x).length ≤ 70368744177664) (hfh : f = true → Wi.fit x.o ∧ Wi.fit x.c ∧ Wi.fit x.n) (h : OneB w D d x.v) :
    Calls Try.prog 71 #[.slice A b.length c, .agg (bdCells D d x), .bool f, .func (.func 73) #[] #[]] w (LaidB f (b ++ Wi.ebody x) w) := by
  cases f with
  | false =>
    have hb1 : Below w.heap.size w (w.alloc (.cells #[.int .i64 x.o, .int .i64 x.c, .int .i64 x.n, .slice D x.v.length d] 63)) := below_new (Below.refl _ _) _
    have HB1 := Lib.hid hb1
    show Calls _ _ _ _ (GivesB2 [] 1 w)
    clear hA h hfh hpl hb1
    unfold bdCells
    go_enter Try.func71, Try.ntmps71
    go_wp2
    go_ret2
    exact laid_none w _ HB1.out
  | true =>
    have hf := hfh rfl
    show Calls _ _ _ _ (GivesB2 (b ++ Wi.ebody x) 0 w)
    have HF := Lib.hid hf; have H := Lib.hid h
    have CL := Lib.hid (fun wx (hb : Below w.heap.size w wx) => cloneB_any A c b wx (by omega) (hA.later hb))
    have CY := Lib.hid (fun (y : Value) (w1 : World) (o1 : w1.ownsRow w.heap.size 5 1 y b.length (bCells b)) (b1 : Below w.heap.size w w1) => dbody_any w y b D d x w1 hpl HF.out.1 HF.out.2.1 HF.out.2.2 H.out o1 b1)
    clear hf h hfh hA
    obtain ⟨full, hfull⟩ : ∃ p, b ++ Wi.ebody x = p := ⟨_, rfl⟩
    rw [hfull] at CY ⊢
    clear hfull hpl
    unfold bdCells
    obtain ⟨bx, hbx⟩ : ∃ bx, w.heap.size = bx := ⟨_, rfl⟩
    have hB0 := Blk.new w 63 #[.int .i64 x.o, .int .i64 x.c, .int .i64 x.n, .slice D x.v.length d]
    have b0 := below_new (Below.refl w.heap.size w) (.cells #[.int .i64 x.o, .int .i64 x.c, .int .i64 x.n, .slice D x.v.length d] 63)
    obtain ⟨W, hW⟩ : ∃ W, w.alloc (.cells #[.int .i64 x.o, .int .i64 x.c, .int .i64 x.n, .slice D x.v.length d] 63) = W := ⟨_, rfl⟩
    rw [hW] at hB0 b0
    rw [hbx] at hB0
    have HX := Lib.hid hbx; have HWW := Lib.hid hW; have HB0 := Lib.hid b0; have HBX := Lib.hid hB0
    clear hW b0 hB0
    go_enter Try.func71, Try.ntmps71
    go_wp2_with fail
    rw [HWW.out]
    try rw [HX.out]
    clear hbx
    refine wp_region_facts 4 (by kernel_rfl) (by kernel_rfl) (fun v => { tmps := #[.slice A b.length c, .agg #[.int .i64 x.o, .int .i64 x.c, .int .i64 x.n, .slice D x.v.length d], .bool true, .func (.func 73) #[] #[], undef, .pointer (some ⟨bx, 0, none⟩), undef, undef, .slice none 0 0, .int .i64 0, .bool true, .bool false, v 0, v 1, v 2, v 3, undef], defers := [] }) (fun _ => undef)
      (fun i z wx => match i with | 0 => z = .func (.func 73) #[] #[] | 1 => z = .slice A b.length c | 2 => wx.ownsRow w.heap.size 5 1 z b.length (bCells b) | 3 => z = .agg #[.int .i64 x.o, .int .i64 x.c, .int .i64 x.n, .slice D x.v.length d] | _ => True)
      (fun wa wb => Below wa.heap.size wa wb) (fun h1 h2 => below_on h1 h2) (fun _ => Below.refl _ _) (Below.refl _ _).drew ?stab ?step ?done
    case stab =>
      intro i x wa wb h1 h2
      match i, h1 with
      | 0, h1 => exact h1
      | 1, h1 => exact h1
      | 2, h1 => exact own_later h1 h2
      | 3, h1 => exact h1
      | k + 4, _ => trivial
    case step =>
      intro i hi v w' hb hd
      match i, hi with
      | 0, _ =>
        refine wpOp_one rfl ?_
        clear hd hb
        go_wp2
        first | exact ⟨_, (by simp [upd]; done), Below.refl _ _, rfl⟩ | exact ⟨(by simp [upd]; done), Below.refl _ _, rfl⟩ | exact ⟨(by simp [upd]; done), Below.refl _ _⟩
      | 1, _ =>
        refine wpOp_one rfl ?_
        clear hd hb
        go_wp2
        first | exact ⟨_, (by simp [upd]; done), Below.refl _ _, rfl⟩ | exact ⟨(by simp [upd]; done), Below.refl _ _, rfl⟩ | exact ⟨(by simp [upd]; done), Below.refl _ _⟩
      | 2, _ =>
        have h1 : v 1 = _ := hd 1 (List.elem_iff.1 (by kernel_rfl))
        have CC := Lib.hid (CL.out w' (below_on HB0.out hb))
        have hsz : w.heap.size ≤ w'.heap.size := (below_on HB0.out hb).size
        refine wpOp_one rfl ?_
        clear hd hb
        rw [h1]
        go_wp2_with fail
        refine CC.out.mono ?_
        rintro e w'' ⟨y, rfl, o1, b1⟩
        have O1 := Lib.hid (own_base o1 hsz); have B1 := Lib.hid b1
        clear o1 b1 CC
        go_wp2
        exact ⟨_, (by simp [upd, h1]; done), B1.out, O1.out⟩
      | 3, _ =>
        have hBx := HBX.out.later hb
        have q0 := hBx.cell (i := 0) rfl
        have q1 := hBx.cell (i := 1) rfl
        have q2 := hBx.cell (i := 2) rfl
        have q3 := hBx.cell (i := 3) rfl
        refine wpOp_one rfl ?_
        clear hd hb hBx
        go_wp2
        first | exact ⟨_, (by simp [upd]; done), Below.refl _ _, rfl⟩ | exact ⟨(by simp [upd]; done), Below.refl _ _, rfl⟩ | exact ⟨(by simp [upd]; done), Below.refl _ _⟩
      | k + 4, hk => exact absurd hk (by omega)
    case done =>
      intro v w' hb hf
      have h0 : v 0 = _ := hf 0 (by omega)
      have o1 : w'.ownsRow w.heap.size 5 1 (v 2) b.length (bCells b) := hf 2 (by omega)
      have h3 : v 3 = _ := hf 3 (by omega)
      obtain ⟨y, hy⟩ : ∃ y, v 2 = y := ⟨_, rfl⟩
      rw [hy] at o1
      have b1 := below_on HB0.out hb
      have C2 := CY.out y w' o1 b1
      unfold bdCells at C2
      have C2 := Lib.hid C2
      have O1 := Lib.hid o1; have B1 := Lib.hid b1
      clear CL CY o1 b1 hb hf
      rw [h0, h3, hy]
      clear h0 h3 hy
      go_wp2_with fail
      refine C2.out.mono ?_
      rintro e w2 ⟨v2, rfl, q1, q2, q3⟩
      have Q1 := Lib.hid q1; have Q2 := Lib.hid (below_grown B1.out q2 O1.out)
      clear q1 q2 q3 C2
      go_wp2
      go_ret2
      exact ⟨_, rfl, Q1.out, Q2.out⟩

set_option maxHeartbeats 6400000 in
theorem dlaid_ms (A : Option Addr) (c : Nat) (b : List Int) (I V N D : Option Addr) (ci cv cn d : Nat) (m : Ms) (f : Bool) (w : World) (hA : OneB w A c b) (hplf : f = true → b.length + (Wi.emsg m).length ≤ 70368744177664) (hfh : f = true → Wi.fitM m ∧ Wi.kinds m) (h : MsAt w I V N D ci cv cn d m) :
    Calls Try.prog 77 #[.slice A b.length c, .agg (msCells I V N D ci cv cn d m), .bool f, .func (.func 78) #[] #[]] w (LaidB f (b ++ Wi.emsg m) w) := by
  cases f with
  | false =>
    have hb1 : Below w.heap.size w (w.alloc (.cells #[.int .i64 m.k, .int .i64 m.f, .int .i64 m.t, .int .i64 m.s, .int .i64 m.q, .slice I m.it.length ci, .slice V m.vc.length cv, .slice N m.ns.length cn, .int .i64 m.bd.o, .int .i64 m.bd.c, .int .i64 m.bd.n, .slice D m.bd.v.length d] 74)) := below_new (Below.refl _ _) _
    have HB1 := Lib.hid hb1
    show Calls _ _ _ _ (GivesB2 [] 1 w)
    clear hA h hfh hplf hb1
    unfold msCells
    go_enter Try.func77, Try.ntmps77
    go_wp2
    go_ret2
    exact laid_none w _ HB1.out
  | true =>
    have hf := hfh rfl
    have hpl := hplf rfl
    clear hplf
    show Calls _ _ _ _ (GivesB2 (b ++ Wi.emsg m) 0 w)
    have HF := Lib.hid hf; have H := Lib.hid h
    have CL := Lib.hid (fun wx (hb : Below w.heap.size w wx) => cloneB_any A c b wx (by omega) (hA.later hb))
    have CY := Lib.hid (fun (y : Value) (w1 : World) (o1 : w1.ownsRow w.heap.size 5 1 y b.length (bCells b)) (b1 : Below w.heap.size w w1) => dmsg_any w y b I V N D ci cv cn d m w1 HF.out.2 hpl HF.out.1 H.out o1 b1)
    clear hf h hfh hA
    obtain ⟨full, hfull⟩ : ∃ p, b ++ Wi.emsg m = p := ⟨_, rfl⟩
    rw [hfull] at CY ⊢
    clear hfull hpl
    unfold msCells
    obtain ⟨bx, hbx⟩ : ∃ bx, w.heap.size = bx := ⟨_, rfl⟩
    have hB0 := Blk.new w 74 #[.int .i64 m.k, .int .i64 m.f, .int .i64 m.t, .int .i64 m.s, .int .i64 m.q, .slice I m.it.length ci, .slice V m.vc.length cv, .slice N m.ns.length cn, .int .i64 m.bd.o, .int .i64 m.bd.c, .int .i64 m.bd.n, .slice D m.bd.v.length d]
    have b0 := below_new (Below.refl w.heap.size w) (.cells #[.int .i64 m.k, .int .i64 m.f, .int .i64 m.t, .int .i64 m.s, .int .i64 m.q, .slice I m.it.length ci, .slice V m.vc.length cv, .slice N m.ns.length cn, .int .i64 m.bd.o, .int .i64 m.bd.c, .int .i64 m.bd.n, .slice D m.bd.v.length d] 74)
    obtain ⟨W, hW⟩ : ∃ W, w.alloc (.cells #[.int .i64 m.k, .int .i64 m.f, .int .i64 m.t, .int .i64 m.s, .int .i64 m.q, .slice I m.it.length ci, .slice V m.vc.length cv, .slice N m.ns.length cn, .int .i64 m.bd.o, .int .i64 m.bd.c, .int .i64 m.bd.n, .slice D m.bd.v.length d] 74) = W := ⟨_, rfl⟩
    rw [hW] at hB0 b0
    rw [hbx] at hB0
    have HX := Lib.hid hbx; have HWW := Lib.hid hW; have HB0 := Lib.hid b0; have HBX := Lib.hid hB0
    clear hW b0 hB0
    go_enter Try.func77, Try.ntmps77
    go_wp2_with fail
    rw [HWW.out]
    try rw [HX.out]
    clear hbx
    refine wp_region_facts 4 (by kernel_rfl) (by kernel_rfl) (fun v => { tmps := #[.slice A b.length c, .agg #[.int .i64 m.k, .int .i64 m.f, .int .i64 m.t, .int .i64 m.s, .int .i64 m.q, .slice I m.it.length ci, .slice V m.vc.length cv, .slice N m.ns.length cn, .int .i64 m.bd.o, .int .i64 m.bd.c, .int .i64 m.bd.n, .slice D m.bd.v.length d], .bool true, .func (.func 78) #[] #[], undef, .pointer (some ⟨bx, 0, none⟩), undef, undef, .slice none 0 0, .int .i64 0, .bool true, .bool false, v 0, v 1, v 2, v 3, undef], defers := [] }) (fun _ => undef)
      (fun i z wx => match i with | 0 => z = .func (.func 78) #[] #[] | 1 => z = .slice A b.length c | 2 => wx.ownsRow w.heap.size 5 1 z b.length (bCells b) | 3 => z = .agg #[.int .i64 m.k, .int .i64 m.f, .int .i64 m.t, .int .i64 m.s, .int .i64 m.q, .slice I m.it.length ci, .slice V m.vc.length cv, .slice N m.ns.length cn, .int .i64 m.bd.o, .int .i64 m.bd.c, .int .i64 m.bd.n, .slice D m.bd.v.length d] | _ => True)
      (fun wa wb => Below wa.heap.size wa wb) (fun h1 h2 => below_on h1 h2) (fun _ => Below.refl _ _) (Below.refl _ _).drew ?stab ?step ?done
    case stab =>
      intro i x wa wb h1 h2
      match i, h1 with
      | 0, h1 => exact h1
      | 1, h1 => exact h1
      | 2, h1 => exact own_later h1 h2
      | 3, h1 => exact h1
      | k + 4, _ => trivial
    case step =>
      intro i hi v w' hb hd
      match i, hi with
      | 0, _ =>
        refine wpOp_one rfl ?_
        clear hd hb
        go_wp2
        first | exact ⟨_, (by simp [upd]; done), Below.refl _ _, rfl⟩ | exact ⟨(by simp [upd]; done), Below.refl _ _, rfl⟩ | exact ⟨(by simp [upd]; done), Below.refl _ _⟩
      | 1, _ =>
        refine wpOp_one rfl ?_
        clear hd hb
        go_wp2
        first | exact ⟨_, (by simp [upd]; done), Below.refl _ _, rfl⟩ | exact ⟨(by simp [upd]; done), Below.refl _ _, rfl⟩ | exact ⟨(by simp [upd]; done), Below.refl _ _⟩
      | 2, _ =>
        have h1 : v 1 = _ := hd 1 (List.elem_iff.1 (by kernel_rfl))
        have CC := Lib.hid (CL.out w' (below_on HB0.out hb))
        have hsz : w.heap.size ≤ w'.heap.size := (below_on HB0.out hb).size
        refine wpOp_one rfl ?_
        clear hd hb
        rw [h1]
        go_wp2_with fail
        refine CC.out.mono ?_
        rintro e w'' ⟨y, rfl, o1, b1⟩
        have O1 := Lib.hid (own_base o1 hsz); have B1 := Lib.hid b1
        clear o1 b1 CC
        go_wp2
        exact ⟨_, (by simp [upd, h1]; done), B1.out, O1.out⟩
      | 3, _ =>
        have hBx := HBX.out.later hb
        have q0 := hBx.cell (i := 0) rfl
        have q1 := hBx.cell (i := 1) rfl
        have q2 := hBx.cell (i := 2) rfl
        have q3 := hBx.cell (i := 3) rfl
        have q4 := hBx.cell (i := 4) rfl
        have q5 := hBx.cell (i := 5) rfl
        have q6 := hBx.cell (i := 6) rfl
        have q7 := hBx.cell (i := 7) rfl
        have q8 := hBx.cell (i := 8) rfl
        have q9 := hBx.cell (i := 9) rfl
        have q10 := hBx.cell (i := 10) rfl
        have q11 := hBx.cell (i := 11) rfl
        refine wpOp_one rfl ?_
        clear hd hb hBx
        go_wp2
        first | exact ⟨_, (by simp [upd]; done), Below.refl _ _, rfl⟩ | exact ⟨(by simp [upd]; done), Below.refl _ _, rfl⟩ | exact ⟨(by simp [upd]; done), Below.refl _ _⟩
      | k + 4, hk => exact absurd hk (by omega)
    case done =>
      intro v w' hb hf
      have h0 : v 0 = _ := hf 0 (by omega)
      have o1 : w'.ownsRow w.heap.size 5 1 (v 2) b.length (bCells b) := hf 2 (by omega)
      have h3 : v 3 = _ := hf 3 (by omega)
      obtain ⟨y, hy⟩ : ∃ y, v 2 = y := ⟨_, rfl⟩
      rw [hy] at o1
      have b1 := below_on HB0.out hb
      have C2 := CY.out y w' o1 b1
      unfold msCells at C2
      have C2 := Lib.hid C2
      have O1 := Lib.hid o1; have B1 := Lib.hid b1
      clear CL CY o1 b1 hb hf
      rw [h0, h3, hy]
      clear h0 h3 hy
      go_wp2_with fail
      refine C2.out.mono ?_
      rintro e w2 ⟨v2, rfl, q1, q2, q3⟩
      have Q1 := Lib.hid q1; have Q2 := Lib.hid (below_grown B1.out q2 O1.out)
      clear q1 q2 q3 C2
      go_wp2
      go_ret2
      exact ⟨_, rfl, Q1.out, Q2.out⟩

end Go.Proofs.Ytbbmngabbbehcaa
namespace Go.Proofs.Ytbbmngabbbehcaa
open Go.RowKit

/-- Numbers that came as ints. -/
def Ints (l : List (Int × Int)) : Prop := ∀ s ∈ l, s.1 ≤ 9223372036854775807 ∧ s.2 ≤ 9223372036854775807
namespace Wi
theorem fit_vec {l : List (Int × Int)} (h : Ints l) (hf : Ve.fmd l = true) : ∀ s ∈ l, fit s.1 ∧ fit s.2 := by
  intro s hs
  obtain ⟨k, hk, rfl⟩ := List.getElem_of_mem hs
  have h1 := ((Ve.fmd_iff l).1 hf k hk).1
  rw [List.getD_eq_getElem?_getD, List.getElem?_eq_getElem hk] at h1
  have h2 := h _ hs
  unfold St.rgt at h1
  simp at h1
  exact ⟨⟨by omega, h2.1⟩, ⟨by omega, h2.2⟩⟩
end Wi

set_option maxHeartbeats 1600000 in
theorem dappvec_any (A X : Option Addr) (c cx : Nat) (b : List Int) (l : List (Int × Int)) (w : World) (hA : OneB w A c b) (h : OneL w X cx l) (hi : Ints l) (hll : l.length ≤ 1099511627776) (hpl : b.length + (Wi.elist Wi.est l).length ≤ 70368744177664) :
    Calls Try.prog 13 #[.slice A b.length c, .slice X l.length cx] w (LaidB (Ve.fmd l) (b ++ Wi.elist Wi.est l) w) := by
  have CF := Lib.hid (formed_any X cx l w h)
  have CL := Lib.hid (fun (wx : World) (hb : Below w.heap.size w wx) => dlaid_st A c b X cx l (Ve.fmd l) wx (hA.later hb) hpl (Wi.fit_vec hi) (h.later hb) hll)
  obtain ⟨f, hf⟩ : ∃ f, Ve.fmd l = f := ⟨_, rfl⟩
  rw [hf] at CF CL ⊢
  unfold LaidB at CL ⊢
  obtain ⟨L, hL⟩ : ∃ L, (if f = true then b ++ Wi.elist Wi.est l else []) = L := ⟨_, rfl⟩
  obtain ⟨er, her⟩ : ∃ er : Int, (if f = true then 0 else 1) = er := ⟨_, rfl⟩
  rw [hL, her] at CL ⊢
  clear hA h hi hf hpl hL her
  go_enter Try.func13, Try.ntmps13
  go_wp2_with fail
  refine CF.out.mono ?_
  rintro e w1 ⟨rfl, b1⟩
  have C2 := Lib.hid (CL.out w1 b1)
  have B1 := Lib.hid b1
  clear b1 CF CL
  go_wp2_with fail
  refine C2.out.mono ?_
  rintro e w2 ⟨v, rfl, o2, b2⟩
  have O2 := Lib.hid (own_base o2 B1.out.size); have B2 := Lib.hid (below_on B1.out b2)
  clear o2 b2 C2
  go_wp2
  go_ret2
  exact ⟨_, rfl, O2.out, B2.out⟩

set_option maxHeartbeats 1600000 in
theorem dvector_any (A : Option Addr) (c : Nat) (l : List Int) (w : World) (h : OneB w A c l) :
    Calls Try.prog 15 #[.slice A l.length c] w (BegL 61 2 stCells (fun s : Int × Int => Wi.fit s.1 ∧ Wi.fit s.2) 64 (fun a => Wi.such Ve.fmd (Wi.plistm 64 (Wi.pst l) l a)) w) := by
  have CB := Lib.hid (dbeg_st formed_any A c l w h)
  clear h
  go_enter Try.func15, Try.ntmps15
  go_wp2_with fail
  refine CB.out.mono ?_
  rintro e w1 ⟨v, x, k, er, rfl, h1, h2, h3, h4, h5⟩
  have H := Lib.hid (show BegL 61 2 stCells (fun s : Int × Int => Wi.fit s.1 ∧ Wi.fit s.2) 64 (fun a => Wi.such Ve.fmd (Wi.plistm 64 (Wi.pst l) l a)) w (.returned (.tuple #[v, .int .i64 k, .int .i64 er])) w1 from ⟨v, x, k, er, rfl, h1, h2, h3, h4, h5⟩)
  clear h1 h2 h3 h4 h5 CB
  go_wp2
  go_ret3
  exact H.out
end Go.Proofs.Ytbbmngabbbehcaa
namespace Go.Proofs.Ytbbmngabbbehcaa
open Go.RowKit

namespace Wi
theorem st_up {l : List (Int × Int)} (h : Ve.fmd l = true) : ∀ j, j < l.length → (j : Int) ≤ (l.getD j (0, 0)).2 := by
  have h1 := (Ve.fmd_iff l).1 h
  intro j
  induction j with
  | zero =>
    intro hj
    have := (h1 0 hj).1
    unfold St.rgt at this
    have := of_decide_eq_true this
    omega
  | succ j ih =>
    intro hj
    have a := ih (by omega)
    have b := (h1 (j + 1) hj).2 (by omega)
    rw [Nat.add_sub_cancel] at b
    omega
theorem st_short {l : List (Int × Int)} (h : Ve.fmd l = true) : l.length ≤ 64 := by
  rcases Nat.lt_or_ge 64 l.length with h1 | h1
  · have a := st_up h 64 h1
    have b := ((Ve.fmd_iff l).1 h 64 h1).1
    unfold St.rgt at b
    have := of_decide_eq_true b
    omega
  · exact h1
theorem sp_short {l : List (Int × Int)} (h : Sp.fmd l = true) : l.length ≤ 128 := Sp.good_len ((Sp.fmd_iff l).1 h)
theorem getD_of {α : Type} {l : List α} {z : α} {x : α} (hx : x ∈ l) : ∃ j, j < l.length ∧ l.getD j z = x := by
  obtain ⟨j, hj, rfl⟩ := List.getElem_of_mem hx
  exact ⟨j, hj, by rw [List.getD_eq_getElem?_getD, List.getElem?_eq_getElem hj]; rfl⟩
theorem fit_set {l : List (Int × Int)} (h : Sp.fmd l = true) : ∀ s ∈ l, fit s.1 ∧ fit s.2 := by
  intro s hs
  obtain ⟨j, hj, rfl⟩ := getD_of (z := (0, 0)) hs
  obtain ⟨h1, h2, h3, _⟩ := (Sp.fmd_iff l).1 h j hj
  exact ⟨⟨by omega, by omega⟩, ⟨by omega, by omega⟩⟩
theorem fmd_parts {n : Note} (h : Nt.fmd n = true) : Ve.fmd n.s = true ∧ Ve.fmd n.e = true ∧ Sp.fmd n.b = true ∧ Nt.wsTo n n.ws.length := by
  unfold Nt.fmd at h
  simp only [Bool.and_eq_true] at h
  exact ⟨h.1, h.2.1, h.2.2.2.1, (Nt.wsOk_iff n).1 h.2.2.2.2⟩
theorem ws_up {n : Note} (h : Nt.wsTo n n.ws.length) : ∀ j, j < n.ws.length → (j : Int) ≤ Nt.obj n.ws j := by
  intro j
  induction j with
  | zero =>
    intro hj
    have := (h 0 hj).2.1.1
    omega
  | succ j ih =>
    intro hj
    have a := ih (by omega)
    have b := (h (j + 1) hj).2.2.2 (by omega)
    rw [Nat.add_sub_cancel] at b
    omega
theorem ws_short {n : Note} (h : Nt.wsTo n n.ws.length) : n.ws.length ≤ 256 := by
  rcases Nat.lt_or_ge 256 n.ws.length with h1 | h1
  · have a := ws_up h 256 h1
    have b := (h 256 h1).2.1.2
    omega
  · exact h1
/-- A note whose numbers came as ints. -/
structure IntsN (n : Note) : Prop where
  s : Ints n.s
  e : Ints n.e
  ws : ∀ x ∈ n.ws, x.1 ≤ 9223372036854775807
theorem back_note {n : Note} (hi : IntsN n) (h : Nt.fmd n = true) : backN n := by
  obtain ⟨h1, h2, h3, h4⟩ := fmd_parts h
  refine ⟨⟨fit_vec hi.s h1, fit_vec hi.e h2, fit_set h3, ?_⟩, st_short h1, st_short h2, sp_short h3, ws_short h4⟩
  intro x hx
  have hm := hi.ws x hx
  obtain ⟨j, hj, rfl⟩ := getD_of (z := Nt.zeroW) hx
  obtain ⟨k1, k2, _, _⟩ := h4 j hj
  unfold hasOf at k1
  simp only [Bool.and_eq_true] at k1
  have k3 := k1.1
  unfold St.rgt at k3
  have k4 := of_decide_eq_true k3
  unfold Nt.obj at k2
  exact ⟨⟨by omega, by omega⟩, ⟨by omega, by omega⟩, ⟨by omega, by omega⟩⟩
theorem len0 {α : Type} (l : List α) : ((l.length : Int) = 0) ↔ l = [] := by
  rw [← List.length_eq_zero_iff]
  omega
theorem nof_iff (m : Ms) : nof m = true ↔ (m.s = 0 ∧ m.q = 0 ∧ m.it = [] ∧ m.vc = [] ∧ m.ns = [] ∧ m.bd.o = 0 ∧ m.bd.c = 0 ∧ m.bd.n = 0 ∧ m.bd.v = []) := by
  unfold nof
  simp only [Bool.and_eq_true, decide_eq_true_eq, len0]
theorem mhdr_iff (m : Ms) : mhdr m = false ↔ (0 ≤ m.f ∧ m.f ≤ 63 ∧ 0 ≤ m.t ∧ m.t ≤ 63 ∧ 0 ≤ m.s ∧ 0 ≤ m.q ∧ m.ns.length ≤ 257) := by
  unfold mhdr
  simp only [Bool.or_eq_false_iff, decide_eq_false_iff_not]
  omega
theorem bempty_iff (x : Bd) : bempty x = true ↔ x.c = 0 ∧ x.n = 0 ∧ x.v = [] := by
  unfold bempty
  simp only [Bool.and_eq_true, decide_eq_true_eq, and_assoc]
theorem mnone_iff (m : Ms) : mnone m = true ↔ m.bd.o = 0 ∧ m.bd.c = 0 ∧ m.bd.n = 0 ∧ m.bd.v = [] := by
  unfold mnone
  rw [Bool.and_eq_true, bempty_iff, decide_eq_true_eq]
theorem msub_iff (m : Ms) : msub m = true ↔ m.it = [] ∧ m.vc = [] := by
  unfold msub
  simp only [Bool.and_eq_true, decide_eq_true_eq, len0]
theorem mrow_iff (m : Ms) : mrow m = true ↔ m.s = 0 ∧ m.q = 0 ∧ m.ns = [] := by
  unfold mrow
  simp only [Bool.and_eq_true, decide_eq_true_eq, len0]
/-- The two ways to ask are one. -/
theorem dmf_mfmd (m : Ms) : dmf m = mfmd m := by
  rw [Bool.eq_iff_iff]
  have hd : dmf m = true ↔ (0 ≤ m.f ∧ m.f ≤ 63) ∧ (0 ≤ m.t ∧ m.t ≤ 63) ∧ ff m = true := by
    unfold dmf
    simp only [Bool.and_eq_true, decide_eq_true_eq]
  have hm : ∀ b : Bool, ((if mhdr m = true then false else b) = true) ↔ ((0 ≤ m.f ∧ m.f ≤ 63 ∧ 0 ≤ m.t ∧ m.t ≤ 63 ∧ 0 ≤ m.s ∧ 0 ≤ m.q ∧ m.ns.length ≤ 257) ∧ b = true) := by
    intro b
    rw [← mhdr_iff]
    cases mhdr m <;> simp
  rw [hd]
  unfold mfmd
  rw [hm]
  unfold ff
  by_cases k1 : m.k = 1
  · rw [if_pos k1, if_pos k1]
    simp only [Bool.and_eq_true, decide_eq_true_eq, nof_iff, mnone_iff, len0]
    constructor
    · rintro ⟨⟨a1, a2⟩, ⟨a3, a4⟩, ⟨a5, a6, a7, a8⟩, _, b2, _, _, b5, b6, b7, b8, b9⟩
      exact ⟨⟨a1, a2, a3, a4, a5, by omega, by rw [b5]; simp⟩, b2, b5, ⟨b6, b7, b8, b9⟩, a6, a7, a8⟩
    · rintro ⟨⟨a1, a2, a3, a4, a5, _, _⟩, b2, b5, ⟨b6, b7, b8, b9⟩, a6, a7, a8⟩
      exact ⟨⟨a1, a2⟩, ⟨a3, a4⟩, ⟨a5, a6, a7, a8⟩, trivial, b2, trivial, trivial, b5, b6, b7, b8, b9⟩
  rw [if_neg k1, if_neg k1]
  by_cases k2 : m.k = 2
  · rw [if_pos k2, if_pos k2]
    simp only [Bool.and_eq_true, nof_iff, mnone_iff, msub_iff, mrow_iff]
    constructor
    · rintro ⟨⟨a1, a2⟩, ⟨a3, a4⟩, b1, b2, b3, b4, b5, b6, b7, b8, b9⟩
      exact ⟨⟨a1, a2, a3, a4, by omega, by omega, by rw [b5]; simp⟩, ⟨b3, b4⟩, ⟨b1, b2, b5⟩, b6, b7, b8, b9⟩
    · rintro ⟨⟨a1, a2, a3, a4, a5, _, _⟩, ⟨b3, b4⟩, ⟨b1, b2, b5⟩, b6, b7, b8, b9⟩
      exact ⟨⟨a1, a2⟩, ⟨a3, a4⟩, b1, b2, b3, b4, b5, b6, b7, b8, b9⟩
  rw [if_neg k2, if_neg k2]
  by_cases k3 : m.k = 3
  · rw [if_pos k3, if_pos k3]
    simp only [Bool.and_eq_true, decide_eq_true_eq, nof_iff, mnone_iff, msub_iff]
    constructor
    · rintro ⟨⟨a1, a2⟩, ⟨a3, a4⟩, ⟨a5, a6, a7, a8⟩, _, _, b3, b4, _, b6, b7, b8, b9⟩
      exact ⟨⟨a1, a2, a3, a4, a5, a6, a7⟩, a8, ⟨b3, b4⟩, b6, b7, b8, b9⟩
    · rintro ⟨⟨a1, a2, a3, a4, a5, a6, a7⟩, a8, ⟨b3, b4⟩, b6, b7, b8, b9⟩
      exact ⟨⟨a1, a2⟩, ⟨a3, a4⟩, ⟨a5, a6, a7, a8⟩, trivial, trivial, b3, b4, trivial, b6, b7, b8, b9⟩
  rw [if_neg k3, if_neg k3]
  by_cases k4 : m.k = 4
  · rw [if_pos k4, if_pos k4]
    simp only [Bool.and_eq_true, decide_eq_true_eq, nof_iff, bempty_iff, msub_iff, mrow_iff]
    constructor
    · rintro ⟨⟨a1, a2⟩, ⟨a3, a4⟩, ⟨c1, c2⟩, b1, b2, b3, b4, b5, _, b7, b8, b9⟩
      exact ⟨⟨a1, a2, a3, a4, by omega, by omega, by rw [b5]; simp⟩, ⟨b3, b4⟩, ⟨b1, b2, b5⟩, c1, c2, b7, b8, b9⟩
    · rintro ⟨⟨a1, a2, a3, a4, a5, _, _⟩, ⟨b3, b4⟩, ⟨b1, b2, b5⟩, c1, c2, b7, b8, b9⟩
      exact ⟨⟨a1, a2⟩, ⟨a3, a4⟩, ⟨c1, c2⟩, b1, b2, b3, b4, b5, trivial, b7, b8, b9⟩
  rw [if_neg k4, if_neg k4]
  by_cases k5 : m.k = 5
  · rw [if_pos k5, if_pos k5]
    simp only [Bool.and_eq_true, nof_iff, msub_iff, mrow_iff]
    constructor
    · rintro ⟨⟨a1, a2⟩, ⟨a3, a4⟩, c1, b1, b2, b3, b4, b5, _⟩
      exact ⟨⟨a1, a2, a3, a4, by omega, by omega, by rw [b5]; simp⟩, ⟨b3, b4⟩, ⟨b1, b2, b5⟩, c1⟩
    · rintro ⟨⟨a1, a2, a3, a4, a5, _, _⟩, ⟨b3, b4⟩, ⟨b1, b2, b5⟩, c1⟩
      exact ⟨⟨a1, a2⟩, ⟨a3, a4⟩, c1, b1, b2, b3, b4, b5, trivial, trivial, trivial, trivial⟩
  rw [if_neg k5, if_neg k5]
  simp
/-- The two ways to read are one. -/
theorem such_plistm {α : Type} {f : List α → Bool} {most : Nat} {p : Nat → Option (α × Nat)} {l : List Int} (h : ∀ r, f r = true → r.length ≤ most) (a : Nat) : such f (plistm most p l a) = such f (plist p l a) := by
  unfold plistm plist such
  cases hn : pnum l a with
  | none => rfl
  | some x =>
    simp only [Option.bind_some]
    by_cases hx : x.1 ≤ most
    · rw [if_pos hx]
    · rw [if_neg hx]
      cases hr : rep p x.1 x.2 with
      | none => rfl
      | some r =>
        have := rep_len x.1 x.2 r.1 r.2 hr
        have hf : ¬ f r.1 = true := fun hf => by have := h r.1 hf; omega
        simp [hf]
theorem such_bind {α β : Type} {F : β → Bool} {g : α → Bool} (A : Option (α × Nat)) (B : α × Nat → Option (β × Nat)) (h : ∀ s y, B s = some y → F y.1 = true → g s.1 = true) : such F (A.bind B) = such F ((such g A).bind B) := by
  unfold such
  cases A with
  | none => rfl
  | some s =>
    simp only [Option.bind_some]
    cases hg : g s.1 with
    | true => simp
    | false =>
      cases hB : B s with
      | none => simp
      | some y =>
        have : ¬ F y.1 = true := fun hF => by rw [h s y hB hF] at hg; cases hg
        simp [this]
theorem such_congr {α β : Type} {F : β → Bool} (A : Option (α × Nat)) {B C : α × Nat → Option (β × Nat)} (h : ∀ s, such F (B s) = such F (C s)) : such F (A.bind B) = such F (A.bind C) := by
  cases A with
  | none => rfl
  | some s => exact h s
theorem pvec_m (l : List Int) (a : Nat) : such Ve.fmd (plistm 64 (pst l) l a) = pvec l a := such_plistm (fun _ h => st_short h) a
theorem pset_m (l : List Int) (a : Nat) : such Sp.fmd (plistm 128 (ptwo l) l a) = pset l a := such_plistm (fun _ h => sp_short h) a
theorem pnote_m (l : List Int) (a : Nat) : such Nt.fmd (pnotr l a) = pnote l a := by
  unfold pnotr pnote
  rw [such_bind (g := Ve.fmd) _ _ (by
    intro s y hB hF
    obtain ⟨e, _, hB⟩ := bind_some hB
    obtain ⟨b, _, hB⟩ := bind_some hB
    obtain ⟨v, _, hB⟩ := map_some hB
    subst hB
    exact (fmd_parts hF).1), pvec_m]
  refine such_congr _ fun s => ?_
  rw [such_bind (g := Ve.fmd) _ _ (by
    intro e y hB hF
    obtain ⟨b, _, hB⟩ := bind_some hB
    obtain ⟨v, _, hB⟩ := map_some hB
    subst hB
    exact (fmd_parts hF).2.1), pvec_m]
  refine such_congr _ fun e => ?_
  rw [such_bind (g := Sp.fmd) _ _ (by
    intro b y hB hF
    obtain ⟨v, _, hB⟩ := map_some hB
    subst hB
    exact (fmd_parts hF).2.2.1), pset_m]
  refine such_congr _ fun b => ?_
  unfold plistm plist
  cases hn : pnum l b.2 with
  | none => rfl
  | some x =>
    simp only [Option.bind_some]
    by_cases hx : x.1 ≤ 256
    · rw [if_pos hx]
    · rw [if_neg hx]
      cases hr : rep (pwr l) x.1 x.2 with
      | none => rfl
      | some r =>
        have := rep_len x.1 x.2 r.1 r.2 hr
        have hf : ¬ Nt.fmd ⟨s.1, e.1, b.1, r.1⟩ = true := fun hf => by
          have : r.1.length ≤ 256 := ws_short (fmd_parts hf).2.2.2
          omega
        unfold such
        simp [hf]
theorem pbody_m (l : List Int) (a : Nat) : such bright (pbod l a) = pbody l a := (congrFun (pbody_pbod l) a).symm
theorem bright_iff (x : Bd) : bright x = true ↔ 0 ≤ x.o ∧ x.o ≤ 255 ∧ St.rgt x.c x.n = true ∧ x.v.length ≤ 256 := by
  unfold bright
  simp only [Bool.and_eq_true, decide_eq_true_eq]
/-- A message whose numbers came as ints. -/
structure IntsM (m : Ms) : Prop where
  s : m.s ≤ 9223372036854775807
  q : m.q ≤ 9223372036854775807
  vc : Ints m.vc
  ns : ∀ x ∈ m.ns, IntsN x
  c : m.bd.c ≤ 9223372036854775807
theorem fit_body {x : Bd} (hc : x.c ≤ 9223372036854775807) (h : bright x = true) : fit x.o ∧ fit x.c ∧ fit x.n ∧ x.v.length ≤ 256 := by
  obtain ⟨h1, h2, h3, h4⟩ := (bright_iff x).1 h
  unfold St.rgt at h3
  have h5 := of_decide_eq_true h3
  exact ⟨⟨h1, by omega⟩, ⟨by omega, hc⟩, ⟨by omega, by omega⟩, h4⟩
theorem fit0 : fit 0 := ⟨by omega, by omega⟩
theorem fit_lit (x : Int) (h1 : 0 ≤ x) (h2 : x ≤ 9223372036854775807) : fit x := ⟨h1, h2⟩
/-- What a message that is as it must be is, kind by kind. -/
theorem dmf_kinds {m : Ms} (h : dmf m = true) : ((0 ≤ m.f ∧ m.f ≤ 63) ∧ (0 ≤ m.t ∧ m.t ≤ 63)) ∧
    ((∃ f t s it vc, m = ⟨1, f, t, s, 0, it, vc, [], zeroBd⟩ ∧ 0 ≤ s ∧ Sp.fmd it = true ∧ Ve.fmd vc = true) ∨ (∃ f t, m = ⟨2, f, t, 0, 0, [], [], [], zeroBd⟩) ∨
     (∃ f t s q ns, m = ⟨3, f, t, s, q, [], [], ns, zeroBd⟩ ∧ 0 ≤ s ∧ 0 ≤ q ∧ ns.length ≤ 257 ∧ ns.all Nt.fmd = true) ∨ (∃ f t o, m = ⟨4, f, t, 0, 0, [], [], [], ⟨o, 0, 0, []⟩⟩ ∧ 0 ≤ o ∧ o ≤ 255) ∨ (∃ f t b, m = ⟨5, f, t, 0, 0, [], [], [], b⟩ ∧ bright b = true)) := by
  obtain ⟨k, f, t, s, q, it, vc, ns, ⟨o, c, n, v⟩⟩ := m
  unfold dmf at h
  simp only [Bool.and_eq_true, decide_eq_true_eq] at h
  obtain ⟨h1, h2, h3⟩ := h
  refine ⟨⟨h1, h2⟩, ?_⟩
  unfold ff at h3
  dsimp only at h3
  by_cases k1 : k = 1
  · rw [if_pos k1] at h3
    simp only [Bool.and_eq_true, decide_eq_true_eq, nof_iff] at h3
    obtain ⟨⟨a5, a6, a7, a8⟩, _, b2, _, _, b5, b6, b7, b8, b9⟩ := h3
    subst k1 b2 b5 b6 b7 b8 b9
    exact .inl ⟨_, _, _, _, _, rfl, a5, a7, a8⟩
  rw [if_neg k1] at h3
  by_cases k2 : k = 2
  · rw [if_pos k2] at h3
    simp only [nof_iff] at h3
    obtain ⟨b1, b2, b3, b4, b5, b6, b7, b8, b9⟩ := h3
    subst k2 b1 b2 b3 b4 b5 b6 b7 b8 b9
    exact .inr (.inl ⟨_, _, rfl⟩)
  rw [if_neg k2] at h3
  by_cases k3 : k = 3
  · rw [if_pos k3] at h3
    simp only [Bool.and_eq_true, decide_eq_true_eq, nof_iff] at h3
    obtain ⟨⟨a5, a6, a7, a8⟩, _, _, b3, b4, _, b6, b7, b8, b9⟩ := h3
    subst k3 b3 b4 b6 b7 b8 b9
    exact .inr (.inr (.inl ⟨_, _, _, _, _, rfl, a5, a6, a7, a8⟩))
  rw [if_neg k3] at h3
  by_cases k4 : k = 4
  · rw [if_pos k4] at h3
    simp only [Bool.and_eq_true, decide_eq_true_eq, nof_iff] at h3
    obtain ⟨⟨c1, c2⟩, b1, b2, b3, b4, b5, _, b7, b8, b9⟩ := h3
    subst k4 b1 b2 b3 b4 b5 b7 b8 b9
    exact .inr (.inr (.inr (.inl ⟨_, _, _, rfl, c1, c2⟩)))
  rw [if_neg k4] at h3
  by_cases k5 : k = 5
  · rw [if_pos k5] at h3
    simp only [Bool.and_eq_true, nof_iff] at h3
    obtain ⟨c1, b1, b2, b3, b4, b5, _⟩ := h3
    subst k5 b1 b2 b3 b4 b5
    exact .inr (.inr (.inr (.inr ⟨_, _, _, rfl, c1⟩)))
  rw [if_neg k5] at h3
  cases h3
theorem nil_fit : ∀ x ∈ ([] : List (Int × Int)), fit x.1 ∧ fit x.2 := fun _ h => by cases h
theorem all_mem {l : List Note} (h : l.all Nt.fmd = true) : ∀ x ∈ l, Nt.fmd x = true := fun x hx => List.all_eq_true.1 h x hx
/-- What is formed can be laid. -/
theorem fit_msg {m : Ms} (hi : IntsM m) (h : dmf m = true) : fitM m ∧ kinds m := by
  obtain ⟨⟨hf, ht⟩, hk⟩ := dmf_kinds h
  have ff' : fit m.f := ⟨by omega, by omega⟩
  have ft' : fit m.t := ⟨by omega, by omega⟩
  have fkk : fit m.k := by
    rcases hk with ⟨f, t, s, it, vc, rfl, -⟩ | ⟨f, t, rfl⟩ | ⟨f, t, s, q, ns, rfl, -⟩ | ⟨f, t, o, rfl, -⟩ | ⟨f, t, b, rfl, -⟩
    · exact fit_lit 1 (by decide) (by decide)
    · exact fit_lit 2 (by decide) (by decide)
    · exact fit_lit 3 (by decide) (by decide)
    · exact fit_lit 4 (by decide) (by decide)
    · exact fit_lit 5 (by decide) (by decide)
  rcases hk with ⟨f, t, s, it, vc, rfl, h1, h2, h3⟩ | ⟨f, t, rfl⟩ | ⟨f, t, s, q, ns, rfl, h1, h2, h3, h4⟩ | ⟨f, t, o, rfl, h1, h2⟩ | ⟨f, t, b, rfl, h1⟩
  · have z1 := sp_short h2
    have z2 := st_short h3
    refine ⟨⟨fkk, ff', ft', ⟨h1, hi.s⟩, fit0, fit_set h2, fit_vec hi.vc h3, (fun _ h => by cases h), fit0, fit0, fit0, ?_, ?_, Nat.zero_le _, Nat.zero_le _⟩, .inl rfl⟩
    · show it.length ≤ _
      omega
    · show vc.length ≤ _
      omega
  · exact ⟨⟨fkk, ff', ft', fit0, fit0, nil_fit, nil_fit, (fun _ h => by cases h), fit0, fit0, fit0, Nat.zero_le _, Nat.zero_le _, Nat.zero_le _, Nat.zero_le _⟩, .inr (.inl rfl)⟩
  · refine ⟨⟨fkk, ff', ft', ⟨h1, hi.s⟩, ⟨h2, hi.q⟩, nil_fit, nil_fit, fun x hx => ?_, fit0, fit0, fit0, Nat.zero_le _, Nat.zero_le _, ?_, Nat.zero_le _⟩, .inr (.inr (.inl rfl))⟩
    · have hb := back_note (hi.ns x hx) (all_mem h4 x hx)
      have := hb.s
      have := hb.e
      have := hb.b
      have := hb.v
      exact ⟨hb.fit, by omega, by omega, by omega, by omega⟩
    · show ns.length ≤ _
      omega
  · exact ⟨⟨fkk, ff', ft', fit0, fit0, nil_fit, nil_fit, (fun _ h => by cases h), ⟨h1, by show o ≤ _; omega⟩, fit0, fit0, Nat.zero_le _, Nat.zero_le _, Nat.zero_le _, Nat.zero_le _⟩, .inr (.inr (.inr (.inl rfl)))⟩
  · obtain ⟨g1, g2, g3, g4⟩ := fit_body hi.c h1
    exact ⟨⟨fkk, ff', ft', fit0, fit0, nil_fit, nil_fit, (fun _ h => by cases h), g1, g2, g3, Nat.zero_le _, Nat.zero_le _, Nat.zero_le _, Nat.le_trans g4 (by decide)⟩, .inr (.inr (.inr (.inr rfl)))⟩
/-- A message that is laid is read as it was, whatever stands behind. -/
theorem fw_msg {m : Ms} (hi : IntsM m) (h : dmf m = true) : Fw pmsgr emsg m := by
  intro l a post hd
  obtain ⟨⟨hf, ht⟩, hk⟩ := dmf_kinds h
  have ff' : fit m.f := ⟨by omega, by omega⟩
  have ft' : fit m.t := ⟨by omega, by omega⟩
  have fk' : fit m.k := (fit_msg hi h).1.k
  unfold emsg ehead at hd
  simp only [List.append_assoc] at hd
  obtain ⟨k0, hk0, p1⟩ := fw_fit fk' hd
  have g1 := drop_on hd
  obtain ⟨f0, hf0, p2⟩ := fw_fit ff' g1
  have g2 := drop_on g1
  obtain ⟨t0, ht0, p3⟩ := fw_fit ft' g2
  have g3 := drop_on g2
  unfold pmsgr
  rw [p1]
  simp only [Option.bind_some]
  rw [p2]
  simp only [Option.bind_some]
  rw [p3]
  simp only [Option.bind_some]
  have hlen : a + (emsg m).length = a + (by_ m.k).length + (by_ m.f).length + (by_ m.t).length + (etail m).length := by
    unfold emsg ehead
    simp only [List.length_append]
    omega
  rw [hlen]
  generalize a + (by_ m.k).length + (by_ m.f).length + (by_ m.t).length = c at g3
  clear p1 p2 p3 g1 g2 hd hlen
  unfold ptail
  rcases hk with ⟨f, t, s, it, vc, rfl, h1, h2, h3⟩ | ⟨f, t, rfl⟩ | ⟨f, t, s, q, ns, rfl, h1, h2, h3, h4⟩ | ⟨f, t, o, rfl, h1, h2⟩ | ⟨f, t, b, rfl, h1⟩
  · dsimp only at hk0 hf0 ht0
    rw [if_pos (by omega)]
    have he : etail (⟨1, f, t, s, 0, it, vc, [], zeroBd⟩ : Ms) = by_ s ++ elist etwo it ++ elist est vc := rfl
    rw [he] at g3 ⊢
    simp only [List.append_assoc] at g3
    obtain ⟨s0, hs0, q1⟩ := fw_fit (x := s) ⟨h1, hi.s⟩ g3
    have e1 := drop_on g3
    have q2 := fw_list (p := ptwo) (most := 128) (by omega) (sp_short h2) (fun x hx => fw_two (fit_set h2 x hx).1 (fit_set h2 x hx).2) l _ _ e1
    have e2 := drop_on e1
    have q3 := fw_list (p := pst) (most := 64) (by omega) (st_short h3) (fun x hx => fw_st (fit_vec hi.vc h3 x hx).1 (fit_vec hi.vc h3 x hx).2) l _ _ e2
    rw [q1]
    simp only [Option.bind_some]
    rw [q2]
    simp only [Option.bind_some]
    rw [q3]
    simp only [Option.map_some, hk0, hf0, ht0, hs0, List.length_append, Nat.add_assoc]
  · dsimp only at hk0 hf0 ht0
    rw [if_neg (by omega), if_neg (by omega), if_neg (by omega), if_neg (by omega), hk0, hf0, ht0]
    rfl
  · dsimp only at hk0 hf0 ht0
    rw [if_neg (by omega), if_pos (by omega)]
    have he : etail (⟨3, f, t, s, q, [], [], ns, zeroBd⟩ : Ms) = by_ s ++ by_ q ++ elist enote ns := rfl
    rw [he] at g3 ⊢
    simp only [List.append_assoc] at g3
    obtain ⟨s0, hs0, q1⟩ := fw_fit (x := s) ⟨h1, hi.s⟩ g3
    have e1 := drop_on g3
    obtain ⟨n0, hn0, q2⟩ := fw_fit (x := q) ⟨h2, hi.q⟩ e1
    have e2 := drop_on e1
    have q3 := fw_list (p := pnotr) (most := 257) (by omega) h3 (fun x hx => fw_note (back_note (hi.ns x hx) (all_mem h4 x hx))) l _ _ e2
    rw [q1]
    simp only [Option.bind_some]
    rw [q2]
    simp only [Option.bind_some]
    rw [q3]
    simp only [Option.map_some, hk0, hf0, ht0, hs0, hn0, List.length_append, Nat.add_assoc]
  · dsimp only at hk0 hf0 ht0
    rw [if_neg (by omega), if_neg (by omega), if_pos (by omega)]
    have he : etail (⟨4, f, t, 0, 0, [], [], [], ⟨o, 0, 0, []⟩⟩ : Ms) = by_ o := rfl
    rw [he] at g3 ⊢
    obtain ⟨o0, ho0, q1⟩ := fw_fit (x := o) ⟨h1, by omega⟩ g3
    rw [q1]
    simp only [Option.map_some, hk0, hf0, ht0, ho0]
  · dsimp only at hk0 hf0 ht0
    obtain ⟨z1, z2, z3, z4⟩ := fit_body hi.c h1
    rw [if_neg (by omega), if_neg (by omega), if_neg (by omega), if_pos (by omega)]
    have he : etail (⟨5, f, t, 0, 0, [], [], [], b⟩ : Ms) = ebody b := rfl
    rw [he] at g3 ⊢
    rw [fw_bod z1 z2 z3 z4 l c post g3]
    simp only [Option.map_some, hk0, hf0, ht0]
end Wi
end Go.Proofs.Ytbbmngabbbehcaa
namespace Go.Proofs.Ytbbmngabbbehcaa
open Go.RowKit

namespace Wi
theorem est_byte {s : Int × Int} (h : fit s.1 ∧ fit s.2) : ∀ y ∈ est s, isB y := by
  intro y hy
  unfold est at hy
  rcases List.mem_append.1 hy with k | k
  · exact by_byte h.2 y k
  · exact by_byte h.1 y k
theorem etwo_byte {s : Int × Int} (h : fit s.1 ∧ fit s.2) : ∀ y ∈ etwo s, isB y := by
  intro y hy
  unfold etwo at hy
  rcases List.mem_append.1 hy with k | k
  · exact by_byte h.1 y k
  · exact by_byte h.2 y k
theorem elist_byte {α : Type} {f : α → List Int} {l : List α} (hl : l.length ≤ 9223372036854775807) (h : ∀ x ∈ l, ∀ y ∈ f x, isB y) : ∀ y ∈ elist f l, isB y := by
  intro y hy
  unfold elist at hy
  rcases List.mem_append.1 hy with k | k
  · exact bytesOf_byte l.length hl y k
  · obtain ⟨x, hx, hy⟩ := List.mem_flatMap.1 k
    exact h x hx y hy
theorem ewr_byte {x : Wr} (h : fit x.1 ∧ fit x.2.1 ∧ fit x.2.2.1) : ∀ y ∈ ewr x, isB y := by
  intro y hy
  unfold ewr at hy
  simp only [List.mem_append, List.mem_singleton] at hy
  rcases hy with ((k | k) | k) | k
  · exact by_byte h.2.2 y k
  · exact by_byte h.2.1 y k
  · exact by_byte h.1 y k
  · subst k
    unfold isB
    split <;> omega
theorem enote_list (n : Note) : enote n = ((elist est n.s ++ elist est n.e) ++ elist etwo n.b) ++ elist ewr n.ws := by
  simp only [enote, elist, List.append_assoc]
theorem enote_byte {n : Note} (h : backN n) : ∀ y ∈ enote n, isB y := by
  intro y hy
  rw [enote_list] at hy
  have := h.s
  have := h.e
  have := h.b
  have := h.v
  simp only [List.mem_append] at hy
  rcases hy with ((k | k) | k) | k
  · exact elist_byte (by omega) (fun x hx => est_byte (h.fit.s x hx)) y k
  · exact elist_byte (by omega) (fun x hx => est_byte (h.fit.e x hx)) y k
  · exact elist_byte (by omega) (fun x hx => etwo_byte (h.fit.b x hx)) y k
  · exact elist_byte (by omega) (fun x hx => ewr_byte (h.fit.ws x hx)) y k
theorem ebody_byte {x : Bd} (ho : fit x.o) (hc : fit x.c) (hn : fit x.n) (hl : x.v.length ≤ 256) (hv : ∀ y ∈ x.v, isB y) : ∀ y ∈ ebody x, isB y := by
  intro y hy
  unfold ebody Pk.laid at hy
  simp only [List.mem_append] at hy
  rcases hy with ((k | k) | k) | k | k
  · exact by_byte ho y k
  · exact by_byte hn y k
  · exact by_byte hc y k
  · exact bytesOf_byte x.v.length (by omega) y k
  · exact hv y k
theorem emsg_byte {m : Ms} (hi : IntsM m) (hd : dmf m = true) (hv : ∀ y ∈ m.bd.v, isB y) : ∀ y ∈ emsg m, isB y := by
  intro y hy
  obtain ⟨hf, -⟩ := fit_msg hi hd
  unfold emsg ehead at hy
  simp only [List.mem_append] at hy
  rcases hy with (k | k | k) | k
  · exact by_byte hf.k y k
  · exact by_byte hf.f y k
  · exact by_byte hf.t y k
  obtain ⟨-, hk⟩ := dmf_kinds hd
  rcases hk with ⟨f, t, s, it, vc, rfl, h1, h2, h3⟩ | ⟨f, t, rfl⟩ | ⟨f, t, s, q, ns, rfl, h1, h2, h3, h4⟩ | ⟨f, t, o, rfl, h1, h2⟩ | ⟨f, t, b, rfl, h1⟩
  · have he : etail (⟨1, f, t, s, 0, it, vc, [], zeroBd⟩ : Ms) = by_ s ++ elist etwo it ++ elist est vc := rfl
    rw [he] at k
    simp only [List.mem_append] at k
    have z1 := sp_short h2
    have z2 := st_short h3
    rcases k with (k | k) | k
    · exact by_byte hf.s y k
    · exact elist_byte (by omega) (fun x hx => etwo_byte (fit_set h2 x hx)) y k
    · exact elist_byte (Nat.le_trans z2 (by decide)) (fun x hx => est_byte (fit_vec hi.vc h3 x hx)) y k
  · cases k
  · have he : etail (⟨3, f, t, s, q, [], [], ns, zeroBd⟩ : Ms) = by_ s ++ by_ q ++ elist enote ns := rfl
    rw [he] at k
    simp only [List.mem_append] at k
    rcases k with (k | k) | k
    · exact by_byte hf.s y k
    · exact by_byte hf.q y k
    · exact elist_byte (Nat.le_trans h3 (by decide)) (fun x hx => enote_byte (back_note (hi.ns x hx) (all_mem h4 x hx))) y k
  · exact by_byte hf.o y k
  · obtain ⟨z1, z2, z3, z4⟩ := fit_body hi.c h1
    exact ebody_byte z1 z2 z3 z4 hv y k
/-- How many they are. -/
theorem est_max (l : List (Int × Int)) : (elist est l).length ≤ 10 + l.length * 20 := elist_len est 20 est_len l
theorem etwo_max (l : List (Int × Int)) : (elist etwo l).length ≤ 10 + l.length * 20 := elist_len etwo 20 etwo_len l
theorem enote_max (n : Note) : (enote n).length ≤ 40 + n.s.length * 20 + n.e.length * 20 + n.b.length * 20 + n.ws.length * 31 := by
  rw [enote_list]
  simp only [List.length_append]
  have := est_max n.s
  have := est_max n.e
  have := etwo_max n.b
  have := elist_len ewr 31 ewr_len n.ws
  omega
theorem ebody_max (x : Bd) : (ebody x).length ≤ 40 + x.v.length := by
  unfold ebody Pk.laid
  simp only [List.length_append]
  have := by_len x.o
  have := by_len x.n
  have := by_len x.c
  have := (Pk.nb_len 9 x.v.length).2
  unfold Pk.bytesOf
  omega
theorem flat_max (l : List Note) (h : ∀ n ∈ l, backN n) : (l.flatMap enote).length ≤ l.length * 16384 := by
  induction l with
  | nil => simp
  | cons x r ih =>
    rw [List.flatMap_cons, List.length_append, List.length_cons]
    have h1 := enote_max x
    have hx := h x (by simp)
    have := hx.s
    have := hx.e
    have := hx.b
    have := hx.v
    have := ih (fun n hn => h n (by simp [hn]))
    omega
/-- A message that is as it must be has few bytes. -/
theorem emsg_max {m : Ms} (hi : IntsM m) (hd : dmf m = true) : (emsg m).length ≤ 8388608 := by
  have hh : (emsg m).length ≤ 30 + (etail m).length := by
    unfold emsg ehead
    simp only [List.length_append]
    have := by_len m.k
    have := by_len m.f
    have := by_len m.t
    omega
  obtain ⟨-, hk⟩ := dmf_kinds hd
  rcases hk with ⟨f, t, s, it, vc, rfl, h1, h2, h3⟩ | ⟨f, t, rfl⟩ | ⟨f, t, s, q, ns, rfl, h1, h2, h3, h4⟩ | ⟨f, t, o, rfl, h1, h2⟩ | ⟨f, t, b, rfl, h1⟩
  · have he : etail (⟨1, f, t, s, 0, it, vc, [], zeroBd⟩ : Ms) = by_ s ++ elist etwo it ++ elist est vc := rfl
    rw [he] at hh
    simp only [List.length_append] at hh
    have z1 := sp_short h2
    have z2 := st_short h3
    have := by_len s
    have := etwo_max it
    have := est_max vc
    omega
  · have he : etail (⟨2, f, t, 0, 0, [], [], [], zeroBd⟩ : Ms) = [] := rfl
    rw [he] at hh
    simp at hh
    omega
  · have he : etail (⟨3, f, t, s, q, [], [], ns, zeroBd⟩ : Ms) = by_ s ++ by_ q ++ elist enote ns := rfl
    rw [he] at hh
    simp only [List.length_append] at hh
    have := by_len s
    have := by_len q
    have h5 := flat_max ns (fun x hx => back_note (hi.ns x hx) (all_mem h4 x hx))
    have h6 : (elist enote ns).length ≤ 10 + (ns.flatMap enote).length := by
      unfold elist
      rw [List.length_append]
      have := (Pk.nb_len 9 ns.length).2
      unfold Pk.bytesOf
      omega
    omega
  · have he : etail (⟨4, f, t, 0, 0, [], [], [], ⟨o, 0, 0, []⟩⟩ : Ms) = by_ o := rfl
    rw [he] at hh
    have := by_len o
    omega
  · obtain ⟨z1, z2, z3, z4⟩ := fit_body hi.c h1
    have he : etail (⟨5, f, t, 0, 0, [], [], [], b⟩ : Ms) = ebody b := rfl
    rw [he] at hh
    have := ebody_max b
    have z5 : b.v.length ≤ 256 := z4
    omega
end Wi
end Go.Proofs.Ytbbmngabbbehcaa
