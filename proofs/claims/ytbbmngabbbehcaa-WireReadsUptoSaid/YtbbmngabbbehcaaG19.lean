/-
  Messages in memory; what telltaleref06's Same answers.
  What wire's layList answers.
  What telltaleref06's Body answers: a body's bytes.
  What wire's layBody answers.
-/
import Derived.Test.YtbbmngabbbehcaaG16
import Derived.Test.YtbbmngabbbehcaaG18
import Derived.Test.YtbbmngabbbehcaaG13
import Derived.Test.YtbbmngabbbehcaaG14
import Derived.Test.YtbbmngabbbehcaaG12
namespace Go.Proofs.Ytbbmngabbbehcaa
open Go.RowKit

/-- A message: its kind, from, to, session, number, interest, vector, notes, body. -/
structure Ms where
  k : Int
  f : Int
  t : Int
  s : Int
  q : Int
  it : List (Int × Int)
  vc : List (Int × Int)
  ns : List Note
  bd : Bd
/-- A message by value. -/
structure MsAt (w : World) (I V N D : Option Addr) (ci cv cn d : Nat) (m : Ms) : Prop where
  hi : OneL w I ci m.it
  hv : OneL w V cv m.vc
  hn : OneN w N cn m.ns
  hb : OneB w D d m.bd.v
theorem MsAt.later {w w' : World} {I V N D : Option Addr} {ci cv cn d : Nat} {m : Ms} (h : MsAt w I V N D ci cv cn d m) (hb : Below w.heap.size w w') : MsAt w' I V N D ci cv cn d m := ⟨h.hi.later hb, h.hv.later hb, h.hn.later hb, h.hb.later hb⟩
def msCells (I V N D : Option Addr) (ci cv cn d : Nat) (m : Ms) : Array Value := #[.int .i64 m.k, .int .i64 m.f, .int .i64 m.t, .int .i64 m.s, .int .i64 m.q, .slice I m.it.length ci, .slice V m.vc.length cv, .slice N m.ns.length cn, .int .i64 m.bd.o, .int .i64 m.bd.c, .int .i64 m.bd.n, .slice D m.bd.v.length d]
namespace Wi
noncomputable def msame (a b : Ms) : Bool := decide (a.k = b.k) && (decide (a.f = b.f) && (decide (a.t = b.t) && (decide (a.s = b.s) && (decide (a.q = b.q) && (decide (a.it = b.it) && (decide (a.vc = b.vc) && (nsame a.ns b.ns && bsame a.bd b.bd)))))))
theorem msame_iff (a b : Ms) : msame a b = true ↔ a = b := by
  obtain ⟨a1, a2, a3, a4, a5, a6, a7, a8, a9⟩ := a
  obtain ⟨b1, b2, b3, b4, b5, b6, b7, b8, b9⟩ := b
  unfold msame
  simp only [Bool.and_eq_true, decide_eq_true_eq, nsame_iff, bsame_iff, Ms.mk.injEq]
end Wi

set_option maxHeartbeats 12800000 in
set_option maxRecDepth 100000 in
theorem msame_any (I V N D I' V' N' D' : Option Addr) (ci cv cn d ci' cv' cn' d' : Nat) (m m' : Ms) (w : World) (h : MsAt w I V N D ci cv cn d m) (h' : MsAt w I' V' N' D' ci' cv' cn' d' m') :
    Calls Try.prog 45 #[.agg (msCells I V N D ci cv cn d m), .agg (msCells I' V' N' D' ci' cv' cn' d' m')] w (Says (.bool (Wi.msame m m')) w) := by
  obtain ⟨k, f, t, s, q, i, v, n, ⟨bo, bc, bn, bl⟩⟩ := m
  obtain ⟨k', f', t', s', q', i', v', n', ⟨bo', bc', bn', bl'⟩⟩ := m'
  unfold msCells
  simp only
  obtain ⟨W, hW⟩ : ∃ W, (w.alloc (.cells #[.int .i64 k, .int .i64 f, .int .i64 t, .int .i64 s, .int .i64 q, .slice I i.length ci, .slice V v.length cv, .slice N n.length cn, .int .i64 bo, .int .i64 bc, .int .i64 bn, .slice D bl.length d] 74)).alloc (.cells #[.int .i64 k', .int .i64 f', .int .i64 t', .int .i64 s', .int .i64 q', .slice I' i'.length ci', .slice V' v'.length cv', .slice N' n'.length cn', .int .i64 bo', .int .i64 bc', .int .i64 bn', .slice D' bl'.length d'] 74) = W := ⟨_, rfl⟩
  have b1 := below_new (Below.refl w.heap.size w) (.cells #[.int .i64 k, .int .i64 f, .int .i64 t, .int .i64 s, .int .i64 q, .slice I i.length ci, .slice V v.length cv, .slice N n.length cn, .int .i64 bo, .int .i64 bc, .int .i64 bn, .slice D bl.length d] 74)
  have hb0 : Below w.heap.size w W := by rw [← hW]; exact below_new b1 _
  have hB : Blk W w.heap.size 74 #[.int .i64 k, .int .i64 f, .int .i64 t, .int .i64 s, .int .i64 q, .slice I i.length ci, .slice V v.length cv, .slice N n.length cn, .int .i64 bo, .int .i64 bc, .int .i64 bn, .slice D bl.length d] := by rw [← hW]; exact (Blk.new w _ _).alloc _
  have hB' : Blk W (w.heap.size + 1) 74 #[.int .i64 k', .int .i64 f', .int .i64 t', .int .i64 s', .int .i64 q', .slice I' i'.length ci', .slice V' v'.length cv', .slice N' n'.length cn', .int .i64 bo', .int .i64 bc', .int .i64 bn', .slice D' bl'.length d'] := by
    rw [← hW]
    have := Blk.new (w.alloc (.cells #[.int .i64 k, .int .i64 f, .int .i64 t, .int .i64 s, .int .i64 q, .slice I i.length ci, .slice V v.length cv, .slice N n.length cn, .int .i64 bo, .int .i64 bc, .int .i64 bn, .slice D bl.length d] 74)) 74 #[.int .i64 k', .int .i64 f', .int .i64 t', .int .i64 s', .int .i64 q', .slice I' i'.length ci', .slice V' v'.length cv', .slice N' n'.length cn', .int .i64 bo', .int .i64 bc', .int .i64 bn', .slice D' bl'.length d']
    simpa using this
  have NI := Lib.hid (ssame_any I I' ci ci' i i' W (h.hi.later hb0).len (h.hi.later hb0).stamps (h'.hi.later hb0).stamps)
  have NVx := Lib.hid (fun wx (hb : Below W.heap.size W wx) => rsame_any V V' cv cv' v v' wx ((h.hv.later hb0).later hb).len ((h.hv.later hb0).later hb).stamps ((h'.hv.later hb0).later hb).stamps)
  have NNx := Lib.hid (fun wx (hb : Below W.heap.size W wx) => nall_any N N' cn cn' n n' wx ((h.hn.later hb0).later hb) ((h'.hn.later hb0).later hb))
  have NB := Lib.hid (fun wx (hb : Below W.heap.size W wx) => bsamebody_any D D' d d' ⟨bo, bc, bn, bl⟩ ⟨bo', bc', bn', bl'⟩ wx ((h.hb.later hb0).later hb) ((h'.hb.later hb0).later hb))
  have HR := Lib.hid (show Wi.msame ⟨k, f, t, s, q, i, v, n, ⟨bo, bc, bn, bl⟩⟩ ⟨k', f', t', s', q', i', v', n', ⟨bo', bc', bn', bl'⟩⟩ = (decide (k = k') && (decide (f = f') && (decide (t = t') && (decide (s = s') && (decide (q = q') && (decide (i = i') && (decide (v = v') && (Wi.nsame n n' && Wi.bsame ⟨bo, bc, bn, bl⟩ ⟨bo', bc', bn', bl'⟩)))))))) from rfl)
  have HW := Lib.hid hW; have HB := Lib.hid hB; have HB' := Lib.hid hB'
  obtain ⟨xi, hxi⟩ : ∃ x, decide (i = i') = x := ⟨_, rfl⟩
  obtain ⟨xv, hxv⟩ : ∃ x, decide (v = v') = x := ⟨_, rfl⟩
  obtain ⟨xn, hxn⟩ : ∃ x, Wi.nsame n n' = x := ⟨_, rfl⟩
  obtain ⟨xb, hxb⟩ : ∃ x, Wi.bsame ⟨bo, bc, bn, bl⟩ ⟨bo', bc', bn', bl'⟩ = x := ⟨_, rfl⟩
  rw [hxi] at NI HR; rw [hxv] at NVx HR; rw [hxn] at NNx HR; rw [hxb] at NB HR
  clear hW hB hB' h h' b1 hxi hxv hxn hxb
  by_cases hk : k = k'
  · subst hk
    by_cases hf : f = f'
    · subst hf
      by_cases ht : t = t'
      · subst ht
        by_cases hs : s = s'
        · subst hs
          by_cases hq : q = q'
          · subst hq
            have e12 : ∀ {b : Bool}, (decide (k = k) && (decide (f = f) && (decide (t = t) && (decide (s = s) && (decide (q = q) && b))))) = b := by intro b; simp
            rw [e12] at HR
            have H8 : ∀ wx, Below W.heap.size W wx → Blk wx w.heap.size 74 _ := fun wx hb => HB.out.later hb
            have H9 : ∀ wx, Below W.heap.size W wx → Blk wx (w.heap.size + 1) 74 _ := fun wx hb => HB'.out.later hb
            cases xi with
            | false =>
              have c0 := HB.out.cell (i := 0) rfl; have d0 := HB'.out.cell (i := 0) rfl
              have c1 := HB.out.cell (i := 1) rfl; have d1 := HB'.out.cell (i := 1) rfl
              have c2 := HB.out.cell (i := 2) rfl; have d2 := HB'.out.cell (i := 2) rfl
              have c3 := HB.out.cell (i := 3) rfl; have d3 := HB'.out.cell (i := 3) rfl
              have c4 := HB.out.cell (i := 4) rfl; have d4 := HB'.out.cell (i := 4) rfl
              have c5 := HB.out.cell (i := 5) rfl; have d5 := HB'.out.cell (i := 5) rfl
              go_enter Try.func45, Try.ntmps45
              go_wp2_with fail
              rw [HW.out]
              refine NI.out.mono ?_
              rintro e w1 ⟨rfl, bb1⟩
              clear c0 d0 c1 d1 c2 d2 c3 d3 c4 d4 c5 d5
              go_wp2
              go_ret
              exact ⟨by rw [HR.out]; first | rfl | simp, below_on hb0 bb1⟩
            | true =>
              cases xv with
              | false =>
                have c0 := HB.out.cell (i := 0) rfl; have d0 := HB'.out.cell (i := 0) rfl
                have c1 := HB.out.cell (i := 1) rfl; have d1 := HB'.out.cell (i := 1) rfl
                have c2 := HB.out.cell (i := 2) rfl; have d2 := HB'.out.cell (i := 2) rfl
                have c3 := HB.out.cell (i := 3) rfl; have d3 := HB'.out.cell (i := 3) rfl
                have c4 := HB.out.cell (i := 4) rfl; have d4 := HB'.out.cell (i := 4) rfl
                have c5 := HB.out.cell (i := 5) rfl; have d5 := HB'.out.cell (i := 5) rfl
                go_enter Try.func45, Try.ntmps45
                go_wp2_with fail
                rw [HW.out]
                refine NI.out.mono ?_
                rintro e w1 ⟨rfl, bb1⟩
                clear c0 d0 c1 d1 c2 d2 c3 d3 c4 d4 c5 d5
                have c6 := (H8 w1 bb1).cell (i := 6) rfl; have d6 := (H9 w1 bb1).cell (i := 6) rfl
                go_wp2_with fail
                refine (NVx.out _ bb1).mono ?_
                rintro e w2 ⟨rfl, b2⟩
                have bb2 := below_on bb1 b2
                clear c6 d6
                go_wp2
                go_ret
                exact ⟨by rw [HR.out]; first | rfl | simp, below_on hb0 bb2⟩
              | true =>
                cases xn with
                | false =>
                  have c0 := HB.out.cell (i := 0) rfl; have d0 := HB'.out.cell (i := 0) rfl
                  have c1 := HB.out.cell (i := 1) rfl; have d1 := HB'.out.cell (i := 1) rfl
                  have c2 := HB.out.cell (i := 2) rfl; have d2 := HB'.out.cell (i := 2) rfl
                  have c3 := HB.out.cell (i := 3) rfl; have d3 := HB'.out.cell (i := 3) rfl
                  have c4 := HB.out.cell (i := 4) rfl; have d4 := HB'.out.cell (i := 4) rfl
                  have c5 := HB.out.cell (i := 5) rfl; have d5 := HB'.out.cell (i := 5) rfl
                  go_enter Try.func45, Try.ntmps45
                  go_wp2_with fail
                  rw [HW.out]
                  refine NI.out.mono ?_
                  rintro e w1 ⟨rfl, bb1⟩
                  clear c0 d0 c1 d1 c2 d2 c3 d3 c4 d4 c5 d5
                  have c6 := (H8 w1 bb1).cell (i := 6) rfl; have d6 := (H9 w1 bb1).cell (i := 6) rfl
                  go_wp2_with fail
                  refine (NVx.out _ bb1).mono ?_
                  rintro e w2 ⟨rfl, b2⟩
                  have bb2 := below_on bb1 b2
                  clear c6 d6
                  have c7 := (H8 w2 bb2).cell (i := 7) rfl; have d7 := (H9 w2 bb2).cell (i := 7) rfl
                  go_wp2_with fail
                  refine (NNx.out _ bb2).mono ?_
                  rintro e w3 ⟨rfl, b3⟩
                  have bb3 := below_on bb2 b3
                  clear c7 d7
                  go_wp2
                  go_ret
                  exact ⟨by rw [HR.out]; first | rfl | simp, below_on hb0 bb3⟩
                | true =>
                  have c0 := HB.out.cell (i := 0) rfl; have d0 := HB'.out.cell (i := 0) rfl
                  have c1 := HB.out.cell (i := 1) rfl; have d1 := HB'.out.cell (i := 1) rfl
                  have c2 := HB.out.cell (i := 2) rfl; have d2 := HB'.out.cell (i := 2) rfl
                  have c3 := HB.out.cell (i := 3) rfl; have d3 := HB'.out.cell (i := 3) rfl
                  have c4 := HB.out.cell (i := 4) rfl; have d4 := HB'.out.cell (i := 4) rfl
                  have c5 := HB.out.cell (i := 5) rfl; have d5 := HB'.out.cell (i := 5) rfl
                  go_enter Try.func45, Try.ntmps45
                  go_wp2_with fail
                  rw [HW.out]
                  refine NI.out.mono ?_
                  rintro e w1 ⟨rfl, bb1⟩
                  clear c0 d0 c1 d1 c2 d2 c3 d3 c4 d4 c5 d5
                  have c6 := (H8 w1 bb1).cell (i := 6) rfl; have d6 := (H9 w1 bb1).cell (i := 6) rfl
                  go_wp2_with fail
                  refine (NVx.out _ bb1).mono ?_
                  rintro e w2 ⟨rfl, b2⟩
                  have bb2 := below_on bb1 b2
                  clear c6 d6
                  have c7 := (H8 w2 bb2).cell (i := 7) rfl; have d7 := (H9 w2 bb2).cell (i := 7) rfl
                  go_wp2_with fail
                  refine (NNx.out _ bb2).mono ?_
                  rintro e w3 ⟨rfl, b3⟩
                  have bb3 := below_on bb2 b3
                  clear c7 d7
                  have c8 := (H8 w3 bb3).cell (i := 8) rfl; have d8 := (H9 w3 bb3).cell (i := 8) rfl
                  have c9 := (H8 w3 bb3).cell (i := 9) rfl; have d9 := (H9 w3 bb3).cell (i := 9) rfl
                  have c10 := (H8 w3 bb3).cell (i := 10) rfl; have d10 := (H9 w3 bb3).cell (i := 10) rfl
                  have c11 := (H8 w3 bb3).cell (i := 11) rfl; have d11 := (H9 w3 bb3).cell (i := 11) rfl
                  go_wp2_with fail
                  refine (NB.out _ bb3).mono ?_
                  rintro e w4 ⟨rfl, b4⟩
                  have bb4 := below_on bb3 b4
                  go_wp2
                  go_ret
                  exact ⟨by rw [HR.out]; first | rfl | simp, below_on hb0 bb4⟩
          · have e0 : (q == q') = false := beq_eq_false_iff_ne.2 hq
            have e1 : decide (q = q') = false := decide_eq_false hq
            rw [e1] at HR; clear e1
            have c0 := HB.out.cell (i := 0) rfl; have d0 := HB'.out.cell (i := 0) rfl
            have c1 := HB.out.cell (i := 1) rfl; have d1 := HB'.out.cell (i := 1) rfl
            have c2 := HB.out.cell (i := 2) rfl; have d2 := HB'.out.cell (i := 2) rfl
            have c3 := HB.out.cell (i := 3) rfl; have d3 := HB'.out.cell (i := 3) rfl
            have c4 := HB.out.cell (i := 4) rfl; have d4 := HB'.out.cell (i := 4) rfl
            go_enter Try.func45, Try.ntmps45
            go_wp2_with fail
            rw [HW.out]
            go_wp2
            go_ret
            exact ⟨by rw [HR.out]; first | rfl | simp, hb0⟩
        · have e0 : (s == s') = false := beq_eq_false_iff_ne.2 hs
          have e1 : decide (s = s') = false := decide_eq_false hs
          rw [e1] at HR; clear e1
          have c0 := HB.out.cell (i := 0) rfl; have d0 := HB'.out.cell (i := 0) rfl
          have c1 := HB.out.cell (i := 1) rfl; have d1 := HB'.out.cell (i := 1) rfl
          have c2 := HB.out.cell (i := 2) rfl; have d2 := HB'.out.cell (i := 2) rfl
          have c3 := HB.out.cell (i := 3) rfl; have d3 := HB'.out.cell (i := 3) rfl
          go_enter Try.func45, Try.ntmps45
          go_wp2_with fail
          rw [HW.out]
          go_wp2
          go_ret
          exact ⟨by rw [HR.out]; first | rfl | simp, hb0⟩
      · have e0 : (t == t') = false := beq_eq_false_iff_ne.2 ht
        have e1 : decide (t = t') = false := decide_eq_false ht
        rw [e1] at HR; clear e1
        have c0 := HB.out.cell (i := 0) rfl; have d0 := HB'.out.cell (i := 0) rfl
        have c1 := HB.out.cell (i := 1) rfl; have d1 := HB'.out.cell (i := 1) rfl
        have c2 := HB.out.cell (i := 2) rfl; have d2 := HB'.out.cell (i := 2) rfl
        go_enter Try.func45, Try.ntmps45
        go_wp2_with fail
        rw [HW.out]
        go_wp2
        go_ret
        exact ⟨by rw [HR.out]; first | rfl | simp, hb0⟩
    · have e0 : (f == f') = false := beq_eq_false_iff_ne.2 hf
      have e1 : decide (f = f') = false := decide_eq_false hf
      rw [e1] at HR; clear e1
      have c0 := HB.out.cell (i := 0) rfl; have d0 := HB'.out.cell (i := 0) rfl
      have c1 := HB.out.cell (i := 1) rfl; have d1 := HB'.out.cell (i := 1) rfl
      go_enter Try.func45, Try.ntmps45
      go_wp2_with fail
      rw [HW.out]
      go_wp2
      go_ret
      exact ⟨by rw [HR.out]; first | rfl | simp, hb0⟩
  · have e0 : (k == k') = false := beq_eq_false_iff_ne.2 hk
    have e1 : decide (k = k') = false := decide_eq_false hk
    rw [e1] at HR; clear e1
    have c0 := HB.out.cell (i := 0) rfl; have d0 := HB'.out.cell (i := 0) rfl
    go_enter Try.func45, Try.ntmps45
    go_wp2_with fail
    rw [HW.out]
    go_wp2
    go_ret
    exact ⟨by rw [HR.out]; first | rfl | simp, hb0⟩

end Go.Proofs.Ytbbmngabbbehcaa
namespace Go.Proofs.Ytbbmngabbbehcaa
open Go.RowKit

set_option maxHeartbeats 3200000 in
theorem dlnt_any (w0 : World) (v : Value) (pre : List Int) (A : Option Addr) (c : Nat) (l : List Note) (w : World) (hpl : pre.length + (Wi.elist Wi.enote l).length ≤ 70368744177664) (hll : l.length ≤ 1099511627776) (hf : ∀ x ∈ l, Wi.fitN x ∧ x.s.length ≤ 1099511627776 ∧ x.e.length ≤ 1099511627776 ∧ x.b.length ≤ 1099511627776 ∧ x.ws.length ≤ 1099511627776) (h : OneN w0 A c l)
    (ho : w.ownsRow w0.heap.size 5 1 v pre.length (bCells pre)) (hb : Below w0.heap.size w0 w) :
    Calls Try.prog 111 #[v, .slice A l.length c, .func (.func 66) #[] #[]] w (Lays w0 v (pre ++ Wi.elist Wi.enote l) w) := by
  have hel : Wi.elist Wi.enote l = Wi.by_ (l.length : Int) ++ l.flatMap Wi.enote := rfl
  rw [hel] at hpl ⊢
  rw [← List.append_assoc, List.length_append] at *
  have b1 := below_new (Below.refl w.heap.size w) (.cells #[.int .i64 (l.length : Int)] 3)
  have hs0 := hb.size
  have HK := Lib.hid (dnums1_any w0 v pre w.heap.size (l.length : Int) _ (by omega) ⟨by omega, by omega⟩ (Blk.new w 3 #[.int .i64 (l.length : Int)]) (own_ne ho (.inr (Nat.le_refl _))) (own_later ho b1) (Nat.le_trans hs0 b1.size))
  have B1 := Lib.hid b1; have HO := Lib.hid ho; have HB := Lib.hid hb; have H := Lib.hid h; have HF := Lib.hid hf
  have HFL := Lib.hid (Wi.flat_le Wi.enote l)
  have HFT := Lib.hid (fun k hk => Wi.flat_take Wi.enote l k zeroN hk)
  obtain ⟨hd, hhd⟩ : ∃ q, Wi.by_ (l.length : Int) = q := ⟨_, rfl⟩
  rw [hhd] at HK hpl ⊢
  clear b1 ho hb h hf hel hhd
  go_enter Try.func111, Try.ntmps111
  go_wp2_with fail
  refine HK.out.mono ?_
  rintro e w1 ⟨v1, rfl, h1, h2, h3⟩
  have H1 := Lib.hid h1
  have H2 := Lib.hid (grown_on (grown_of v.ownBlock B1.out) h2 (.inl rfl))
  have H3 := Lib.hid ((Moved.refl w v).on B1.out.size h3)
  clear h1 h2 h3 HK
  go_wp2_with fail
  go_loopw [0, 16] (fun s0 s16 wr => ∃ k : Nat, k ≤ l.length ∧ s16 = .int .i64 (k : Int) ∧ wr.ownsRow w0.heap.size 5 1 s0 (pre ++ hd ++ (l.take k).flatMap Wi.enote).length (bCells (pre ++ hd ++ (l.take k).flatMap Wi.enote)) ∧ w.grownBy wr v.ownBlock ∧ Moved w v s0) (fun _ s16 _ => l.length - (intOf s16).toNat)
  case atStart => exact ⟨0, by omega, rfl, by simpa using H1.out, H2.out, H3.out⟩
  case round =>
    obtain ⟨k, hk, rfl, hown, hgw, hmv⟩ := hrel
    have hsz := hgw.size
    by_cases hkl : k < l.length
    · have hdk : decide ((k : Int) < (l.length : Int)) = true := decide_eq_true (by omega)
      have hbr := below_grown HB.out hgw HO.out
      have hsr := hbr.size
      have hne : l ≠ [] := fun e => by rw [e] at hkl; simp at hkl
      obtain ⟨b, off, hA, hcA⟩ := H.out.lies hne
      obtain ⟨S, E, B, V, cs, ce, cb, cv, c0, c1, c2, c3, hna⟩ := hcA k hkl
      have dd := And.intro (cell_later hbr c0) (And.intro (cell_later hbr c1) (And.intro (cell_later hbr c2) (cell_later hbr c3)))
      subst hA
      have hmem : l.getD k zeroN ∈ l := by rw [List.getD_eq_getElem?_getD, List.getElem?_eq_getElem hkl]; exact List.getElem_mem hkl
      have g0 := HF.out _ hmem
      have hft := HFT.out k hkl
      have htl := HFL.out (k + 1)
      rw [hft, List.length_append] at htl
      obtain ⟨q, hq⟩ : ∃ q, pre ++ hd ++ (l.take k).flatMap Wi.enote = q := ⟨_, rfl⟩
      have hql : q.length = pre.length + hd.length + ((l.take k).flatMap Wi.enote).length := by rw [← hq, List.length_append, List.length_append]
      have hnew : pre ++ hd ++ (l.take (k + 1)).flatMap Wi.enote = q ++ Wi.enote (l.getD k zeroN) := by rw [hft, ← hq]; simp only [List.append_assoc]
      rw [hq] at hown
      obtain ⟨x, hx⟩ : ∃ x, l.getD k zeroN = x := ⟨_, rfl⟩
      rw [hx] at dd g0 htl hnew
      rw [hx] at hna
      obtain ⟨d0, d1, d2, d3⟩ := dd
      obtain ⟨g1, g2, g3, g4, g5⟩ := g0
      obtain ⟨P, cp, hs3, -⟩ := own_form hown
      rw [hs3] at hown hmv
      subst hs3
      have hi1 : (0 : Int) ≤ (k : Int) := by omega
      have hi2 : (k : Int) < (l.length : Int) := by omega
      have CE := Lib.hid (fun (wx : World) (hx : Below wr.heap.size wr wx) => dnote_any w0 (.slice P q.length cp) q S E B V cs ce cb cv x wx (by omega) g2 g3 g4 g5 g1 hna (own_later hown hx) (hbr.trans (hx.mono hsr)))
      have HNEW := Lib.hid hnew; have HOW := Lib.hid hown; have HGW := Lib.hid hgw; have HMV := Lib.hid hmv
      clear hmem g1 hna c0 c1 c2 c3 hft htl hx hnew hown hgw hmv hq hbr HO HB HF H1 H2 H3 HFL HFT hql hpl
      go_wp2_with fail
      refine (CE.out _ (below_new (Below.refl _ _) _)).mono ?_
      rintro e w2 ⟨v2, rfl, h1, h2, h3⟩
      have hx1 := below_new (Below.refl wr.heap.size wr) (.cells #[.slice S x.s.length cs, .slice E x.e.length ce, .slice B x.b.length cb, .slice V x.ws.length cv] 51)
      rw [← HNEW.out] at h1
      have H1 := Lib.hid h1
      have H2 := Lib.hid (grown_on HGW.out (grown_on (grown_of (Value.slice P q.length cp).ownBlock hx1) h2 (.inl rfl)) HMV.out)
      have H3 := Lib.hid (HMV.out.on hsz ((Moved.refl wr (Value.slice P q.length cp)).on hx1.size h3))
      clear h1 h2 h3 CE d0 d1 d2 d3 hx1
      go_wp2_with fail
      go_roundw
      case rel => exact ⟨k + 1, by omega, by first | rfl | (congr 1; omega), H1.out, H2.out, H3.out⟩
      case measure => simp [intOf]; omega
    · obtain rfl : k = l.length := by omega
      have hdk : decide ((l.length : Int) < (l.length : Int)) = false := decide_eq_false (by omega)
      rw [List.take_of_length_le (Nat.le_refl _)] at hown
      have H1 := Lib.hid hown; have H2 := Lib.hid hgw; have H3 := Lib.hid hmv
      clear hown hgw hmv
      go_wp2
      go_ret
      exact ⟨_, rfl, H1.out, H2.out, H3.out⟩

end Go.Proofs.Ytbbmngabbbehcaa
namespace Go.Proofs.Ytbbmngabbbehcaa
open Go.RowKit

namespace Wi
def ebody (x : Bd) : List Int := ((by_ x.o ++ by_ x.n) ++ by_ x.c) ++ Pk.laid x.v
end Wi

set_option maxHeartbeats 6400000 in
set_option maxRecDepth 100000 in
theorem ebody_any (D : Option Addr) (d : Nat) (x : Bd) (w : World) (hl : x.v.length ≤ 1099511627776) (ho : Wi.fit x.o) (hc : Wi.fit x.c) (hn : Wi.fit x.n) (h : OneB w D d x.v) :
    Calls Try.prog 32 #[.agg (bdCells D d x)] w (GivesB (Wi.ebody x) w) := by
  obtain ⟨i0, hi0, hz0, hz1, hz2⟩ := info_parts infoBy
  obtain ⟨xo, xc, xn, l⟩ := x
  unfold bdCells Wi.ebody
  simp only at hl ho hc hn h ⊢
  obtain ⟨W, hW⟩ : ∃ W, w.alloc (.cells #[.int .i64 xo, .int .i64 xc, .int .i64 xn, .slice D l.length d] 63) = W := ⟨_, rfl⟩
  have hb0 : Below w.heap.size w W := by rw [← hW]; exact below_new (Below.refl _ _) _
  have hB0 : Blk W w.heap.size 63 #[.int .i64 xo, .int .i64 xc, .int .i64 xn, .slice D l.length d] := by rw [← hW]; exact Blk.new w _ _
  have c0 := hB0.cell (i := 0) rfl
  have c1 := hB0.cell (i := 1) rfl
  have c2 := hB0.cell (i := 2) rfl
  have c3 := hB0.cell (i := 3) rfl
  have hWs : w.heap.size + 1 = W.heap.size := by rw [← hW]; simp
  have HW := Lib.hid hW; have H := Lib.hid h; have GO := Lib.hid ho; have GC := Lib.hid hc; have GN := Lib.hid hn
  have q1 := Wi.by_len xo; have q2 := Wi.by_len xn; have q3 := Wi.by_len xc
  have NL := Lib.hid (fun wx (hx : OneB wx D d l) => blaid_any D d l wx (by omega) hx)
  have hll : (Pk.laid l).length ≤ 10 + l.length := by unfold Pk.laid; rw [List.length_append]; have := (Pk.nb_len 9 l.length).2; unfold Pk.bytesOf; omega
  have hlb : ∀ y ∈ Pk.laid l, isB y := fun y hy => (List.mem_append.1 hy).elim (bytesOf_byte l.length (by omega) y) (H.out.byte y)
  have HLB := Lib.hid hlb
  have HBB := Lib.hid hB0
  clear hW h ho hc hn hlb hB0
  go_enter Try.func32, Try.ntmps32
  go_wp2_with fail
  rw [HW.out]

  refine wp_region_rows 13 (by kernel_rfl) (by kernel_rfl)
    (fun v => { tmps := #[.agg #[.int .i64 xo, .int .i64 xc, .int .i64 xn, .slice D l.length d], .pointer (some ⟨w.heap.size, 0, none⟩), .slice none 0 0, undef, v 0, v 1, v 2, v 3, v 4, v 5, v 6, v 7, v 8, v 9, v 10, v 11, v 12, undef, undef, undef, undef, undef], defers := [] }) (fun _ => undef) W.heap.size 5
    (fun i x => match i with | 0 => x = .pointer (some ⟨w.heap.size, 0, none⟩) | 1 => x = .int .i64 xo | 3 => x = .pointer (some ⟨w.heap.size, 1, none⟩) | 4 => x = .pointer (some ⟨w.heap.size, 2, none⟩) | 5 => x = .int .i64 xn | 8 => x = .pointer (some ⟨w.heap.size, 1, none⟩) | 9 => x = .pointer (some ⟨w.heap.size, 1, none⟩) | 10 => x = .int .i64 xc | _ => True)
    (fun i => match i with | 2 => some (Wi.by_ xo) | 6 => some (Wi.by_ xn) | 7 => some (Wi.by_ xo ++ Wi.by_ xn) | 11 => some (Wi.by_ xc) | 12 => some ((Wi.by_ xo ++ Wi.by_ xn) ++ Wi.by_ xc) | _ => none)
    (fun i => match i with | 2 => 7 | 6 => 7 | 7 => 12 | 11 => 12 | 12 => 13 | _ => 0) none ?start ?step ?done
  case start =>
    refine RowsInv.start (m := 14) ?_ (fun i hi => ?_) (fun i hi hr => ?_) (fun r hr => ?_) (fun hr k hk => ?_)
    · first | exact Nat.le_refl _ | omega
    · match i, hi with
      | j + 14, _ => trivial
    · match i, hi, hr with
      | j + 14, _, hr => exact absurd rfl hr
    · cases hr
    · exact absurd rfl hr
  case step =>
    intro i hi L v w' hI hun hd htl hex
    match i, hi with
    | 0, _ =>
      refine wpOp_one rfl ?_
      clear hd htl hex
      go_wp2
      first | exact ⟨_, (by simp [upd]; done), RowStep.still rfl rfl⟩ | exact ⟨(by simp [upd]; done), RowStep.still rfl rfl⟩
    | 1, _ =>
      have l0 : L 0 = true := hd 0 (List.elem_iff.1 (by kernel_rfl))
      have h0 : v 0 = _ := hI.c 0 l0
      have q0 := hI.cell c0 (by intro e; cases e)
      refine wpOp_one rfl ?_
      clear hd htl hex
      rw [h0]
      go_wp2
      first | exact ⟨_, (by simp [upd, h0]; done), RowStep.still rfl rfl⟩ | exact ⟨(by simp [upd, h0]; done), RowStep.still rfl rfl⟩
    | 2, _ =>
      have l1 : L 1 = true := hd 1 (List.elem_iff.1 (by kernel_rfl))
      have h1 : v 1 = _ := hI.c 1 l1
      refine wpOp_one rfl ?_
      clear hd htl hex
      rw [h1]
      go_wp2_with fail
      refine (by_any xo w' GO.out).mono ?_
      rintro e w'' ⟨x, rfl, ho, bb⟩
      have ST := Lib.hid (fun (Lx : Nat → Bool) (vx : Nat → Value) => RowStep.made (C := fun i x => match i with | 0 => x = .pointer (some ⟨w.heap.size, 0, none⟩) | 1 => x = .int .i64 xo | 3 => x = .pointer (some ⟨w.heap.size, 1, none⟩) | 4 => x = .pointer (some ⟨w.heap.size, 2, none⟩) | 5 => x = .int .i64 xn | 8 => x = .pointer (some ⟨w.heap.size, 1, none⟩) | 9 => x = .pointer (some ⟨w.heap.size, 1, none⟩) | 10 => x = .int .i64 xc | _ => True) (row := fun i => match i with | 2 => some (Wi.by_ xo) | 6 => some (Wi.by_ xn) | 7 => some (Wi.by_ xo ++ Wi.by_ xn) | 11 => some (Wi.by_ xc) | 12 => some ((Wi.by_ xo ++ Wi.by_ xn) ++ Wi.by_ xc) | _ => none) (cons := fun i => match i with | 2 => 7 | 6 => 7 | 7 => 12 | 11 => 12 | 12 => 13 | _ => 0) (i := 2) (L := Lx) (v := vx) trivial rfl bb hI.hbase ho)
      clear ho bb
      go_wp2
      exact ⟨_, (by simp [upd, h1]; done), ST.out _ _⟩
    | 3, _ =>
      refine wpOp_one rfl ?_
      clear hd htl hex
      go_wp2
      first | exact ⟨_, (by simp [upd]; done), RowStep.still rfl rfl⟩ | exact ⟨(by simp [upd]; done), RowStep.still rfl rfl⟩
    | 4, _ =>
      have l3 : L 3 = true := hd 3 (List.elem_iff.1 (by kernel_rfl))
      have h3 : v 3 = _ := hI.c 3 l3
      refine wpOp_one rfl ?_
      clear hd htl hex
      rw [h3]
      go_wp2
      first | exact ⟨_, (by simp [upd, h3]; done), RowStep.still rfl rfl⟩ | exact ⟨(by simp [upd, h3]; done), RowStep.still rfl rfl⟩
    | 5, _ =>
      have l4 : L 4 = true := hd 4 (List.elem_iff.1 (by kernel_rfl))
      have h4 : v 4 = _ := hI.c 4 l4
      have q0 := hI.cell c2 (by intro e; cases e)
      refine wpOp_one rfl ?_
      clear hd htl hex
      rw [h4]
      go_wp2
      first | exact ⟨_, (by simp [upd, h4]; done), RowStep.still rfl rfl⟩ | exact ⟨(by simp [upd, h4]; done), RowStep.still rfl rfl⟩
    | 6, _ =>
      have l5 : L 5 = true := hd 5 (List.elem_iff.1 (by kernel_rfl))
      have h5 : v 5 = _ := hI.c 5 l5
      refine wpOp_one rfl ?_
      clear hd htl hex
      rw [h5]
      go_wp2_with fail
      refine (by_any xn w' GN.out).mono ?_
      rintro e w'' ⟨x, rfl, ho, bb⟩
      have ST := Lib.hid (fun (Lx : Nat → Bool) (vx : Nat → Value) => RowStep.made (C := fun i x => match i with | 0 => x = .pointer (some ⟨w.heap.size, 0, none⟩) | 1 => x = .int .i64 xo | 3 => x = .pointer (some ⟨w.heap.size, 1, none⟩) | 4 => x = .pointer (some ⟨w.heap.size, 2, none⟩) | 5 => x = .int .i64 xn | 8 => x = .pointer (some ⟨w.heap.size, 1, none⟩) | 9 => x = .pointer (some ⟨w.heap.size, 1, none⟩) | 10 => x = .int .i64 xc | _ => True) (row := fun i => match i with | 2 => some (Wi.by_ xo) | 6 => some (Wi.by_ xn) | 7 => some (Wi.by_ xo ++ Wi.by_ xn) | 11 => some (Wi.by_ xc) | 12 => some ((Wi.by_ xo ++ Wi.by_ xn) ++ Wi.by_ xc) | _ => none) (cons := fun i => match i with | 2 => 7 | 6 => 7 | 7 => 12 | 11 => 12 | 12 => 13 | _ => 0) (i := 6) (L := Lx) (v := vx) trivial rfl bb hI.hbase ho)
      clear ho bb
      go_wp2
      exact ⟨_, (by simp [upd, h5]; done), ST.out _ _⟩
    | 7, _ =>
      have l2 : L 2 = true := hd 2 (List.elem_iff.1 (by kernel_rfl))
      have l6 : L 6 = true := hd 6 (List.elem_iff.1 (by kernel_rfl))
      have ld : L 2 = true := l2
      have od := hI.own 2 _ ld hun rfl
      have os := hI.own 6 _ l6 hun rfl
      obtain ⟨Ax, cx, hs, hsl, hsc, hsn, hsi⟩ := own_form os
      refine wpOp_one rfl ?_
      have hbs := hI.hbase
      clear hd htl hex os
      rw [hs]
      refine wpList_append_lies _ rfl _ _ 23 rfl W.heap.size 5 i0 (.int .u8 0) 1 1 Try.underlying23 hi0 hz0 hz1 hz2 rfl (by decide) _ (Wi.by_ xo).length (bCells (Wi.by_ xo)) rfl od Ax (Wi.by_ xn).length cx hsn (bCells (Wi.by_ xn)) rfl (by rw [bCells_length, Nat.mul_one]) hsi (bCells_one _) ?c3 ?c4 ?c5 ?_
      case c3 => unfold maxLen; omega
      case c4 => omega
      case c5 => exact hbs
      intro v2 w2 ho2 hg2 hx2
      rw [← bCells_append, ← List.length_append] at ho2
      have ST := Lib.hid (RowStep.grown (C := fun i x => match i with | 0 => x = .pointer (some ⟨w.heap.size, 0, none⟩) | 1 => x = .int .i64 xo | 3 => x = .pointer (some ⟨w.heap.size, 1, none⟩) | 4 => x = .pointer (some ⟨w.heap.size, 2, none⟩) | 5 => x = .int .i64 xn | 8 => x = .pointer (some ⟨w.heap.size, 1, none⟩) | 9 => x = .pointer (some ⟨w.heap.size, 1, none⟩) | 10 => x = .int .i64 xc | _ => True) (row := fun i => match i with | 2 => some (Wi.by_ xo) | 6 => some (Wi.by_ xn) | 7 => some (Wi.by_ xo ++ Wi.by_ xn) | 11 => some (Wi.by_ xc) | 12 => some ((Wi.by_ xo ++ Wi.by_ xn) ++ Wi.by_ xc) | _ => none) (cons := fun i => match i with | 2 => 7 | 6 => 7 | 7 => 12 | 11 => 12 | 12 => 13 | _ => 0) (i := 7) (d := 2) (L := L) (v := v) trivial rfl rfl (by simp) ld rfl hg2 ho2 hx2)
      clear ho2 hg2 hx2 od
      go_wp2
      exact ⟨_, (by simp [upd, Act.put, hs]; done), ST.out⟩
    | 8, _ =>
      refine wpOp_one rfl ?_
      clear hd htl hex
      go_wp2
      first | exact ⟨_, (by simp [upd]; done), RowStep.still rfl rfl⟩ | exact ⟨(by simp [upd]; done), RowStep.still rfl rfl⟩
    | 9, _ =>
      have l8 : L 8 = true := hd 8 (List.elem_iff.1 (by kernel_rfl))
      have h8 : v 8 = _ := hI.c 8 l8
      refine wpOp_one rfl ?_
      clear hd htl hex
      rw [h8]
      go_wp2
      first | exact ⟨_, (by simp [upd, h8]; done), RowStep.still rfl rfl⟩ | exact ⟨(by simp [upd, h8]; done), RowStep.still rfl rfl⟩
    | 10, _ =>
      have l9 : L 9 = true := hd 9 (List.elem_iff.1 (by kernel_rfl))
      have h9 : v 9 = _ := hI.c 9 l9
      have q0 := hI.cell c1 (by intro e; cases e)
      refine wpOp_one rfl ?_
      clear hd htl hex
      rw [h9]
      go_wp2
      first | exact ⟨_, (by simp [upd, h9]; done), RowStep.still rfl rfl⟩ | exact ⟨(by simp [upd, h9]; done), RowStep.still rfl rfl⟩
    | 11, _ =>
      have l10 : L 10 = true := hd 10 (List.elem_iff.1 (by kernel_rfl))
      have h10 : v 10 = _ := hI.c 10 l10
      refine wpOp_one rfl ?_
      clear hd htl hex
      rw [h10]
      go_wp2_with fail
      refine (by_any xc w' GC.out).mono ?_
      rintro e w'' ⟨x, rfl, ho, bb⟩
      have ST := Lib.hid (fun (Lx : Nat → Bool) (vx : Nat → Value) => RowStep.made (C := fun i x => match i with | 0 => x = .pointer (some ⟨w.heap.size, 0, none⟩) | 1 => x = .int .i64 xo | 3 => x = .pointer (some ⟨w.heap.size, 1, none⟩) | 4 => x = .pointer (some ⟨w.heap.size, 2, none⟩) | 5 => x = .int .i64 xn | 8 => x = .pointer (some ⟨w.heap.size, 1, none⟩) | 9 => x = .pointer (some ⟨w.heap.size, 1, none⟩) | 10 => x = .int .i64 xc | _ => True) (row := fun i => match i with | 2 => some (Wi.by_ xo) | 6 => some (Wi.by_ xn) | 7 => some (Wi.by_ xo ++ Wi.by_ xn) | 11 => some (Wi.by_ xc) | 12 => some ((Wi.by_ xo ++ Wi.by_ xn) ++ Wi.by_ xc) | _ => none) (cons := fun i => match i with | 2 => 7 | 6 => 7 | 7 => 12 | 11 => 12 | 12 => 13 | _ => 0) (i := 11) (L := Lx) (v := vx) trivial rfl bb hI.hbase ho)
      clear ho bb
      go_wp2
      exact ⟨_, (by simp [upd, h10]; done), ST.out _ _⟩
    | 12, _ =>
      have l7 : L 7 = true := hd 7 (List.elem_iff.1 (by kernel_rfl))
      have l11 : L 11 = true := hd 11 (List.elem_iff.1 (by kernel_rfl))
      have ld : L 7 = true := l7
      have od := hI.own 7 _ ld hun rfl
      have os := hI.own 11 _ l11 hun rfl
      obtain ⟨Ax, cx, hs, hsl, hsc, hsn, hsi⟩ := own_form os
      refine wpOp_one rfl ?_
      have hbs := hI.hbase
      clear hd htl hex os
      rw [hs]
      refine wpList_append_lies _ rfl _ _ 23 rfl W.heap.size 5 i0 (.int .u8 0) 1 1 Try.underlying23 hi0 hz0 hz1 hz2 rfl (by decide) _ (Wi.by_ xo ++ Wi.by_ xn).length (bCells (Wi.by_ xo ++ Wi.by_ xn)) rfl od Ax (Wi.by_ xc).length cx hsn (bCells (Wi.by_ xc)) rfl (by rw [bCells_length, Nat.mul_one]) hsi (bCells_one _) ?c3 ?c4 ?c5 ?_
      case c3 => rw [List.length_append]; unfold maxLen; omega
      case c4 => rw [List.length_append]; omega
      case c5 => exact hbs
      intro v2 w2 ho2 hg2 hx2
      rw [← bCells_append, ← List.length_append] at ho2
      have ST := Lib.hid (RowStep.grown (C := fun i x => match i with | 0 => x = .pointer (some ⟨w.heap.size, 0, none⟩) | 1 => x = .int .i64 xo | 3 => x = .pointer (some ⟨w.heap.size, 1, none⟩) | 4 => x = .pointer (some ⟨w.heap.size, 2, none⟩) | 5 => x = .int .i64 xn | 8 => x = .pointer (some ⟨w.heap.size, 1, none⟩) | 9 => x = .pointer (some ⟨w.heap.size, 1, none⟩) | 10 => x = .int .i64 xc | _ => True) (row := fun i => match i with | 2 => some (Wi.by_ xo) | 6 => some (Wi.by_ xn) | 7 => some (Wi.by_ xo ++ Wi.by_ xn) | 11 => some (Wi.by_ xc) | 12 => some ((Wi.by_ xo ++ Wi.by_ xn) ++ Wi.by_ xc) | _ => none) (cons := fun i => match i with | 2 => 7 | 6 => 7 | 7 => 12 | 11 => 12 | 12 => 13 | _ => 0) (i := 12) (d := 7) (L := L) (v := v) trivial rfl rfl (by simp) ld rfl hg2 ho2 hx2)
      clear ho2 hg2 hx2 od
      go_wp2
      exact ⟨_, (by simp [upd, Act.put, hs]; done), ST.out⟩
    | k + 13, hk => exact absurd hk (by omega)
  case done =>
    intro L v w5 hI hall htl5 hex
    have o12 := hI.own 12 _ (hall 12 (by omega)) (htl5 13 (by omega) (by simp)) rfl
    have b5 := hI.rel
    have k5 : Blk w5 w.heap.size 63 _ := (b5.block w.heap.size (by omega)).trans HBB.out
    have e3 := k5.cell (i := 3) rfl
    have hbz := hI.hbase
    have bw := hb0.trans (b5.mono (by omega))
    have O12 := Lib.hid o12; have BW := Lib.hid bw; have B5 := Lib.hid b5
    clear o12 bw b5 hI hall htl5 hex k5 c0 c1 c2 c3
    go_wp2_with fail
    refine (NL.out w5 (H.out.later BW.out)).mono ?_
    rintro e w6 ⟨u, rfl, hou, b6⟩
    have hou2 := own_base hou (show w.heap.size ≤ w5.heap.size by omega)
    obtain ⟨U, cu, rfl, hsl, hsc, hsn, hsi⟩ := own_form hou
    have o6 := own_later O12.out b6
    have hz6 := b6.size
    clear hou hou2
    go_wp2_with (at_builtin; refine wpList_append_lies _ rfl _ _ 23 rfl W.heap.size 5 i0 (.int .u8 0) 1 1 Try.underlying23 hi0 hz0 hz1 hz2 rfl (by decide) _ ((Wi.by_ xo ++ Wi.by_ xn) ++ Wi.by_ xc).length (bCells ((Wi.by_ xo ++ Wi.by_ xn) ++ Wi.by_ xc)) rfl o6 U (Pk.laid l).length cu hsn (bCells (Pk.laid l)) rfl (by rw [bCells_length, Nat.mul_one]) hsi (bCells_one _) ?c3 ?c4 ?c5 ?_)
    case c3 => rw [List.length_append, List.length_append]; unfold maxLen; omega
    case c4 => rw [List.length_append, List.length_append]; omega
    case c5 => omega
    intro v7 w7 ho7 hg7 _
    replace ho7 : w7.ownsRow W.heap.size 5 1 v7 ((((Wi.by_ xo ++ Wi.by_ xn) ++ Wi.by_ xc) ++ Pk.laid l)).length (bCells (((Wi.by_ xo ++ Wi.by_ xn) ++ Wi.by_ xc) ++ Pk.laid l)) := own_cast ho7 (by simp only [List.length_append]; omega) (by rw [← bCells_append]; simp only [List.append_assoc])
    have b7 := (BW.out.trans (b6.mono (by omega))).grown hg7 (by omega) (fun k' hk' => by have := own_ge o6 k' hk'; omega)
    have HO7 := Lib.hid (own_base ho7 (show w.heap.size ≤ W.heap.size by omega)); have B7 := Lib.hid b7
    clear ho7 hg7 b7 o6 hsi
    go_wp2
    go_ret
    exact ⟨_, rfl, HO7.out, B7.out⟩

end Go.Proofs.Ytbbmngabbbehcaa
namespace Go.Proofs.Ytbbmngabbbehcaa
open Go.RowKit

set_option maxHeartbeats 6400000 in
theorem dbody_any (w0 : World) (rv : Value) (pre : List Int) (D : Option Addr) (d : Nat) (x : Bd) (w : World) (hpl : pre.length + (Wi.ebody x).length ≤ 70368744177664) (h3 : Wi.fit x.o) (h1 : Wi.fit x.c) (h2 : Wi.fit x.n) (h : OneB w0 D d x.v) (ho : w.ownsRow w0.heap.size 5 1 rv pre.length (bCells pre)) (hb : Below w0.heap.size w0 w) :
    Calls Try.prog 73 #[rv, .agg (bdCells D d x)] w (Lays w0 rv (pre ++ Wi.ebody x) w) := by
  obtain ⟨o, c, n, q⟩ := x
  unfold bdCells
  simp only at h1 h2 h3 h ⊢
  obtain ⟨i0, hi0, hz0, hz1, hz2⟩ := info_parts infoBy
  have he : Wi.ebody ⟨o, c, n, q⟩ = (Wi.by_ o ++ Wi.est (c, n)) ++ Pk.laid q := by
    simp [Wi.ebody, Wi.est]
  rw [he] at hpl ⊢
  rw [← List.append_assoc, ← List.append_assoc, List.length_append, List.length_append] at *
  have hlq : q.length ≤ (Pk.laid q).length := by unfold Pk.laid; rw [List.length_append]; omega
  clear he
  have hB0 := Blk.new w 63 #[.int .i64 o, .int .i64 c, .int .i64 n, .slice D q.length d]
  have b0 := below_new (Below.refl w.heap.size w) (.cells #[.int .i64 o, .int .i64 c, .int .i64 n, .slice D q.length d] 63)
  have how := own_later ho b0
  have hne := own_ne ho (.inr (Nat.le_refl _))
  have hs0 := hb.size
  obtain ⟨bx, hbx⟩ : ∃ bx, w.heap.size = bx := ⟨_, rfl⟩
  obtain ⟨W, hW⟩ : ∃ W, w.alloc (.cells #[.int .i64 o, .int .i64 c, .int .i64 n, .slice D q.length d] 63) = W := ⟨_, rfl⟩
  rw [hW] at hB0 b0 how
  have hsW := b0.size
  rw [hbx] at hB0 hne
  have HB0 := Lib.hid b0; have HBX := Lib.hid hB0; have HOW := Lib.hid how; have HNE := Lib.hid hne; have HX := Lib.hid hbx; have HWW := Lib.hid hW
  have H1 := Lib.hid h1; have H2 := Lib.hid h2; have H3 := Lib.hid h3; have H := Lib.hid h; have HB := Lib.hid hb; have HO := Lib.hid ho
  clear hW b0 hB0 how hne ho h1 h2 h3 h hb
  go_enter Try.func73, Try.ntmps73
  go_wp2_with fail
  rw [HWW.out]
  try rw [HX.out]
  refine wp_region_gen 7 (by kernel_rfl) (by kernel_rfl) (fun v => { tmps := #[rv, .agg #[.int .i64 o, .int .i64 c, .int .i64 n, .slice D q.length d], undef, .pointer (some ⟨bx, 0, none⟩), .slice none 0 0, v 0, v 1, v 2, v 3, v 4, v 5, v 6, undef, undef, undef, undef, undef, undef], defers := [] }) (fun _ => undef)
    (ChInv w0 W rv pre (pre ++ Wi.by_ o) [o] (fun i x => match i with | 0 => x = rv | 1 => x = .pointer (some ⟨bx, 0, none⟩) | 2 => x = .int .i64 o | 5 => x = .pointer (some ⟨bx, 1, none⟩) | 6 => x = .agg #[.int .i64 c, .int .i64 n] | _ => True) 3 4 7) ?start ?step ?done
  case start => exact fun L hL => ChInv.start HOW.out (by decide) (by decide) hL
  case step =>
    intro i hi L v w' hI hun hd
    match i, hi with
    | 0, _ =>
      have ST := Lib.hid (hI.still (i := 0) (x := rv) rfl (by decide) (by decide))
      refine wpOp_one rfl ?_
      clear hd hI
      go_wp2
      first | exact ⟨_, (by simp [upd]; done), ST.out⟩ | exact ⟨(by simp [upd]; done), ST.out⟩
    | 1, _ =>
      have ST := Lib.hid (hI.still (i := 1) (x := .pointer (some ⟨bx, 0, none⟩)) rfl (by decide) (by decide))
      refine wpOp_one rfl ?_
      clear hd hI
      go_wp2
      first | exact ⟨_, (by simp [upd]; done), ST.out⟩ | exact ⟨(by simp [upd]; done), ST.out⟩
    | 2, _ =>
      have h1 : v 1 = _ := hI.c 1 (by decide) (hd 1 (List.elem_iff.1 (by kernel_rfl)))
      have hBx := grown_blk hI.grown HBX.out HNE.out
      have q0 := hBx.cell (i := 0) rfl
      have ST := Lib.hid (hI.still (i := 2) (x := .int .i64 o) rfl (by decide) (by decide))
      refine wpOp_one rfl ?_
      clear hd hI hBx
      rw [h1]
      go_wp2
      first | exact ⟨_, (by simp [upd, h1]; done), ST.out⟩ | exact ⟨(by simp [upd, h1]; done), ST.out⟩
    | 3, _ =>
      have h2 : v 2 = _ := hI.c 2 (by decide) (hd 2 (List.elem_iff.1 (by kernel_rfl)))
      have ST := Lib.hid (hI.made (by decide) hun (fun k hk => own_lt HOW.out k hk) (g := w'.heap.size) trivial rfl)
      refine wpOp_one rfl ?_
      clear hd hI
      rw [h2]
      go_wp2
      exact ⟨_, (by simp [upd, h2]; done), ST.out⟩
    | 4, _ =>
      have h0 : v 0 = _ := hI.c 0 (by decide) (hd 0 (List.elem_iff.1 (by kernel_rfl)))
      obtain ⟨g, h3, hg, hBg⟩ := hI.blk (hd 3 (List.elem_iff.1 (by kernel_rfl)))
      have ow := hI.old hun
      have hsw := hI.grown.size
      have CK := Lib.hid (dnums1_any w0 rv pre g o w' (by omega) H3.out hBg hg ow (by have := hsw; omega))
      have LA := Lib.hid (fun (x : Value) (w'' : World) q1 q2 q3 => hI.laid (w' := w'') (by decide) (hd 3 (List.elem_iff.1 (by kernel_rfl))) (x := x) trivial q1 q2 q3)
      refine wpOp_one rfl ?_
      clear hd hI hBg ow
      rw [h0, h3]
      go_wp2_with fail
      refine CK.out.mono ?_
      rintro e w'' ⟨x, rfl, q1, q2, q3⟩
      have ST := Lib.hid (LA.out x w'' q1 q2 q3)
      clear q1 q2 q3 CK LA
      go_wp2
      exact ⟨_, (by simp [upd, h0, h3]; done), ST.out⟩
    | 5, _ =>
      have ST := Lib.hid (hI.still (i := 5) (x := .pointer (some ⟨bx, 1, none⟩)) rfl (by decide) (by decide))
      refine wpOp_one rfl ?_
      clear hd hI
      go_wp2
      first | exact ⟨_, (by simp [upd]; done), ST.out⟩ | exact ⟨(by simp [upd]; done), ST.out⟩
    | 6, _ =>
      have h5 : v 5 = _ := hI.c 5 (by decide) (hd 5 (List.elem_iff.1 (by kernel_rfl)))
      have hBx := grown_blk hI.grown HBX.out HNE.out
      have q0 := hBx.cell (i := 1) rfl
      have q1 := hBx.cell (i := 2) rfl
      have ST := Lib.hid (hI.still (i := 6) (x := .agg #[.int .i64 c, .int .i64 n]) rfl (by decide) (by decide))
      refine wpOp_one rfl ?_
      clear hd hI hBx
      rw [h5]
      go_wp2
      first | exact ⟨_, (by simp [upd, h5]; done), ST.out⟩ | exact ⟨(by simp [upd, h5]; done), ST.out⟩
    | k + 7, hk => exact absurd hk (by omega)
  case done =>
    intro L v w5 hI hall
    have h6 : v 6 = _ := hI.c 6 (by decide) (hall 6 (by decide))
    obtain ⟨o4, m4⟩ := hI.out (hall 4 (by decide))
    obtain ⟨y, hy⟩ : ∃ y, v 4 = y := ⟨_, rfl⟩
    rw [hy] at o4 m4
    have hs5 := hI.grown.size
    have CK := Lib.hid (dst_any w0 y _ (c, n) w5 (by rw [List.length_append]; omega) H1.out H2.out o4 (by omega))
    have G5 := Lib.hid (grown_on (grown_of rv.ownBlock HB0.out) hI.grown (.inl rfl))
    have M5 := Lib.hid ((Moved.refl w rv).on hsW m4)
    have hsz5 : w.heap.size ≤ w5.heap.size := by omega
    have hBx := grown_blk hI.grown HBX.out HNE.out
    have HB5 := Lib.hid hBx
    have hne5 := m4.ne HNE.out HBX.out.lt
    have HN5 := Lib.hid hne5
    clear hI hall o4 m4 hBx hne5
    rw [h6, hy]
    clear h6 hy
    go_wp2_with fail
    refine CK.out.mono ?_
    rintro e w6 ⟨v6, rfl, q1, q2, q3⟩
    have hs6 := q2.size
    have hB6 := grown_blk q2 HB5.out HN5.out
    have c3 := hB6.cell (i := 3) rfl
    have g6 := grown_on G5.out q2 M5.out
    have m6 := M5.out.on hsz5 q3
    have hb6 := below_grown HB.out g6 HO.out
    have hsz6 : w0.heap.size ≤ w6.heap.size := hb6.size
    have CL := Lib.hid (dappro_any none 0 [] D d q w6 (by simp; omega) (OneB.nil _) (H.out.later hb6))
    rw [List.nil_append] at CL
    obtain ⟨lq, hlq2⟩ : ∃ lq, Pk.laid q = lq := ⟨_, rfl⟩
    rw [hlq2] at CL hpl hlq
    have HLQ := Lib.hid hlq2
    obtain ⟨pp, hpp⟩ : ∃ pp, pre ++ Wi.by_ o ++ Wi.est (c, n) = pp := ⟨_, rfl⟩
    have hppl : pp.length = pre.length + (Wi.by_ o).length + (Wi.est (c, n)).length := by rw [← hpp, List.length_append, List.length_append]
    rw [hpp] at q1
    have HPP := Lib.hid hpp
    have G6 := Lib.hid g6; have M6 := Lib.hid m6; have Q1 := Lib.hid q1
    clear q1 q2 q3 CK hB6 g6 m6 hb6 hlq2 hpp
    go_wp2_with fail
    refine CL.out.mono ?_
    rintro e w7 ⟨v7, rfl, q4, b7⟩
    obtain ⟨A7, c7, hs7, hl7, hc7, hn7, hli7⟩ := own_form q4
    subst hs7
    have hsz7 := b7.size
    have o7 := own_later Q1.out b7
    have HO7 := Lib.hid o7; have HN7 := Lib.hid hn7; have HL7 := Lib.hid hli7
    have G7 := Lib.hid (grown_on G6.out (grown_of v6.ownBlock b7) M6.out)
    clear q4 b7 o7 hn7 hli7 c3
    go_wp2_with (at_builtin; refine wpList_append_lies _ rfl _ _ 23 rfl w0.heap.size 5 i0 (.int .u8 0) 1 1 Try.underlying23 hi0 hz0 hz1 hz2 rfl (by decide) _ pp.length (bCells pp) rfl HO7.out A7 lq.length c7 HN7.out (bCells lq) rfl (by rw [bCells_length, Nat.mul_one]) HL7.out (bCells_one _) ?c3 ?c4 (by omega) ?_)
    case c3 => unfold maxLen; omega
    case c4 => omega
    intro v8 w8 ho8 hg8 hx8
    have ho8 := own_cast (r := pp ++ lq) ho8 (by rw [List.length_append]; omega) (by rw [bCells_append])
    have G8 := Lib.hid (grown_on G7.out hg8 M6.out)
    have M8 := Lib.hid (M6.out.on (show w.heap.size ≤ w6.heap.size by omega) (show Moved w6 v6 v8 from hx8.elim .inl (fun e => .inr ⟨_, e, hsz7⟩)))
    have HO8 := Lib.hid ho8
    clear ho8 hg8 hx8
    go_wp2
    go_ret
    exact ⟨_, rfl, by have hz := HO8.out; rw [← HPP.out, ← HLQ.out] at hz; exact hz, G8.out, M8.out⟩

end Go.Proofs.Ytbbmngabbbehcaa
