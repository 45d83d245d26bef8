/-
  What telltaleref08's Cut answers.
-/
import Derived.Test.YtgjcpdcepmgafaaDkRefB
import Derived.Test.YtgjcpdcepmgafaaDkDevC
namespace Go.Proofs.Ytgjcpdcepmgafaa
open Go.RowKit

/-- With the numbers rising, the file of a number is the only one. -/
theorem only_one {room n : Int} {L : List Fc} {at_ : Nat} {x : Fc} (hq : Dk.fmd room (L.map Fc.fi) = true) (hx : L[at_]? = some x) (hn : x.num = n) : ∀ (i : Nat) (y : Fc), i ≠ at_ → L[i]? = some y → y.num ≠ n := fun i y hi hy => by
  have hup := List.pairwise_iff_getElem.1 (Dk.fmd_facts hq).up
  obtain ⟨i1, i2⟩ := List.getElem?_eq_some_iff.1 hy
  obtain ⟨j1, j2⟩ := List.getElem?_eq_some_iff.1 hx
  have l1 : i < (L.map Fc.fi).length := by rw [List.length_map]; exact i1
  have l2 : at_ < (L.map Fc.fi).length := by rw [List.length_map]; exact j1
  rcases Nat.lt_or_gt_of_ne hi with q | q
  · have := hup i at_ l1 l2 q
    simp only [List.getElem_map, i2, j2] at this
    have h1 : y.num < x.num := this
    omega
  · have := hup at_ i l2 l1 q
    simp only [List.getElem_map, i2, j2] at this
    have h1 : x.num < y.num := this
    omega
/-- What becomes of the one file of that number. -/
theorem map_one {room n : Int} {L L2 : List Fc} {at_ : Nat} {x f' : Fc} {G : Fi → Fi} (hq : Dk.fmd room (L.map Fc.fi) = true) (hx : L[at_]? = some x) (hn : x.num = n) (hfi : L2.map Fc.fi = L.map Fc.fi) (h1 : f'.fi = G x.fi) (h2 : ∀ f : Fi, f.1 ≠ n → G f = f) : (L2.set at_ f').map Fc.fi = (L.map Fc.fi).map G := by
  apply List.ext_getElem?
  intro j
  have hl : L2.length = L.length := by have := congrArg List.length hfi; simpa using this
  have hat := (List.getElem?_eq_some_iff.1 hx).1
  have hj : (L2.map Fc.fi)[j]? = (L.map Fc.fi)[j]? := by rw [hfi]
  rw [List.getElem?_map, List.getElem?_map] at hj
  rw [List.getElem?_map, List.getElem?_map, List.getElem?_map]
  by_cases e : at_ = j
  · subst e
    rw [List.getElem?_set_self (by omega), hx]
    simp [h1]
  · rw [List.getElem?_set_ne e, hj]
    cases hLj : L[j]? with
    | none => rfl
    | some y =>
      have := only_one hq hx hn j y (fun e2 => e e2.symm) hLj
      simp [h2 y.fi this]

set_option maxRecDepth 100000 in
set_option maxHeartbeats 6400000 in
theorem rcutD_any (room n k : Int) (A : Option Addr) (c : Nat) (L : List Fc) (w : World) (h : OneD w A c L) :
    Calls Try.prog 20 #[.agg #[.int .i64 room, .slice A L.length c], .int .i64 n, .int .i64 k] w (GivesDE (Dk.cutR room (L.map Fc.fi) n k) w) := by
  have bn := below_new (below_new (Below.refl w.heap.size w) (.cells #[.int .i64 room, .slice A L.length c] 24)) (.cells #[.int .i64 0, .slice none 0 0] 24)
  have N := Lib.hid (rformed_any room A c L _ (h.later bn))
  have B1 := Lib.hid (show Blk _ (w.heap.size + 1) 24 #[.int .i64 0, .slice none 0 0] from by simpa using Blk.new (w.alloc (.cells #[.int .i64 room, .slice A L.length c] 24)) 24 #[.int .i64 0, .slice none 0 0])
  have B0 := Lib.hid ((Blk.new w 24 #[.int .i64 room, .slice A L.length c]).alloc (.cells #[.int .i64 0, .slice none 0 0] 24))
  have HD := Lib.hid h
  clear h
  cases hq : Dk.fmd room (L.map Fc.fi) with
  | false =>
    have hR : Dk.cutR room (L.map Fc.fi) n k = (0, [], 1) := by unfold Dk.cutR; rw [if_neg (by rw [hq]; exact Bool.false_ne_true)]
    rw [hR]
    rw [hq] at N
    clear hq hR HD
    go_enter Try.func20, Try.ntmps20
    go_wp2_with fail
    refine N.out.mono ?_
    rintro e w1 ⟨rfl, b1⟩
    have z' := B1.out.later b1
    have y0 := z'.cell (i := 0) rfl
    have y1 := z'.cell (i := 1) rfl
    have s0 := z'.free 0
    have s1 := z'.free 1
    have hz := (z'.put 0 (.int .i64 0)).put 1 (.slice none 0 0)
    have z0 := Lib.hid (hz.cell (i := 0) rfl)
    have z1 := Lib.hid (hz.cell (i := 1) rfl)
    have hbz := ((below_on bn b1).setCell (p := ⟨w.heap.size + 1, 0, none⟩) (by show w.heap.size ≤ w.heap.size + 1; omega) (.int .i64 0)).setCell (p := ⟨w.heap.size + 1, 1, none⟩) (by show w.heap.size ≤ w.heap.size + 1; omega) (.slice none 0 0)
    have FIN := Lib.hid (GivesDE.err 1 hbz)
    clear z' hz hbz 
    go_wp2
    have z0 := z0.out
    have z1 := z1.out
    exact bodyPost_ret (v := .tuple #[.agg #[.int .i64 0, .slice none 0 0], .int .i64 1]) (by simp [results, Try.results20, go_sem, z0, z1]) rfl FIN.out
  | true =>
    rw [hq] at N
    rcases Dk.ways n hq with ⟨at_, -, hf, hp⟩ | ⟨at_, x, -, hx, hxn, hf, hp⟩
    · have hR : Dk.cutR room (L.map Fc.fi) n k = (0, [], 16) := by unfold Dk.cutR; rw [if_pos hq, hf]
      rw [hR]
      have HP := Lib.hid hp
      clear hq hf hR hp
      go_enter Try.func20, Try.ntmps20
      go_wp2_with fail
      refine N.out.mono ?_
      rintro e w1 ⟨rfl, b1⟩
      have bb := below_on bn b1
      have c0 := (B0.out.later b1).cell (i := 0) rfl
      have c1 := (B0.out.later b1).cell (i := 1) rfl
      have N2 := Lib.hid (rplace_any room n (-1) A c L w1 (HD.out.later bb) HP.out)
      go_wp2_with fail
      refine N2.out.mono ?_
      rintro e w2 ⟨rfl, b2⟩
      have z' := (B1.out.later b1).later b2
      have y0 := z'.cell (i := 0) rfl
      have y1 := z'.cell (i := 1) rfl
      have s0 := z'.free 0
      have s1 := z'.free 1
      have hz := (z'.put 0 (.int .i64 0)).put 1 (.slice none 0 0)
      have z0 := Lib.hid (hz.cell (i := 0) rfl)
      have z1 := Lib.hid (hz.cell (i := 1) rfl)
      have hbz := ((below_on bb b2).setCell (p := ⟨w.heap.size + 1, 0, none⟩) (by show w.heap.size ≤ w.heap.size + 1; omega) (.int .i64 0)).setCell (p := ⟨w.heap.size + 1, 1, none⟩) (by show w.heap.size ≤ w.heap.size + 1; omega) (.slice none 0 0)
      have FIN := Lib.hid (GivesDE.err 16 hbz)
      clear z' hz hbz 
      go_wp2
      have z0 := z0.out
      have z1 := z1.out
      exact bodyPost_ret (v := .tuple #[.agg #[.int .i64 0, .slice none 0 0], .int .i64 16]) (by simp [results, Try.results20, go_sem, z0, z1]) rfl FIN.out
    · have HP := Lib.hid hp
      have HX := Lib.hid hx
      have HFT := Lib.hid (Dk.fit hq)
      have hlen := Dk.len_le hq
      have hlt := (List.getElem?_eq_some_iff.1 hx).1
      have hxl := (HD.out.one hx).len
      have hne : L ≠ [] := fun e => by subst e; simp at hlt
      by_cases hwin : Dk.win k (x.l.length : Int) = true
      · have hR : Dk.cutR room (L.map Fc.fi) n k = (room, (L.map Fc.fi).map (Dk.cut1 n k.toNat), 0) := by unfold Dk.cutR; rw [if_pos hq, hf]; dsimp only; rw [if_pos (show Dk.win k ((x.fi).2.1.length : Int) = true from hwin)]
        rw [hR]
        obtain ⟨k0, k1⟩ := Dk.win_yes hwin
        obtain ⟨kn, rfl⟩ : ∃ kn : Nat, k = (kn : Int) := ⟨k.toNat, by omega⟩
        rw [Int.toNat_natCast]
        have dk0 : decide ((kn : Int) < 0) = false := decide_eq_false (by omega)
        have dk1 : decide ((x.l.length : Int) < (kn : Int)) = false := decide_eq_false (by omega)
        have dk2 : decide (x.l.length < kn) = false := decide_eq_false (by omega)
        have HMO := Lib.hid (fun (L2 : List Fc) (f' : Fc) (h1 : L2.map Fc.fi = L.map Fc.fi) (h2 : f'.fi = Dk.cut1 n kn x.fi) => map_one (G := Dk.cut1 n kn) hq hx hxn h1 h2 (fun f hf => by unfold Dk.cut1; rw [if_neg hf]))
        have HXN := Lib.hid hxn
        clear hq hf hR hwin hp hx hxn
        go_enter Try.func20, Try.ntmps20
        go_wp2_with fail
        refine N.out.mono ?_
        rintro e w1 ⟨rfl, b1⟩
        have bb := below_on bn b1
        have c0 := (B0.out.later b1).cell (i := 0) rfl
        have c1 := (B0.out.later b1).cell (i := 1) rfl
        have N2 := Lib.hid (rplace_any room n (at_ : Int) A c L w1 (HD.out.later bb) HP.out)
        go_wp2_with fail
        refine N2.out.mono ?_
        rintro e w2 ⟨rfl, b2⟩
        have bb2 := below_on bb b2
        have d0 := cell_later b2 c0
        have d1 := cell_later b2 c1
        have hi0 : (0 : Int) ≤ (at_ : Int) := by omega
        have hi1 : (at_ : Int) < (L.length : Int) := by omega
        have hi2 : ¬ ((at_ : Int) < 0) := by omega
        clear c0 c1
        obtain ⟨b, off, hA, hc⟩ := (HD.out.later bb2).at hne
        obtain ⟨e0, e1, e2⟩ := hc at_ x HX.out
        subst hA
        clear hc hne
        have N3 := Lib.hid (rcopyD_any room _ c L w2 (HD.out.later bb2) HFT.out)
        have Z := Lib.hid ((B1.out.later b1).later b2)
        go_wp2_with fail
        refine N3.out.mono ?_
        rintro e w3 ⟨v, L2, rfl, hO, hfi, b3⟩
        have hl2 : L2.length = L.length := by have := congrArg List.length hfi; simpa using this
        obtain ⟨g, cv, rfl⟩ := own_len hO.row (by omega)
        have hcv := own_form hO.row
        have hcm : cv ≤ 9223372036854775807 := by
          obtain ⟨A', c', h1, _, h2, _⟩ := hcv
          injection h1 with _ _ h1
          subst h1
          unfold maxLen at h2
          exact h2
        have hcl : L2.length ≤ cv := by
          obtain ⟨A', c', h1, h2, _⟩ := hcv
          injection h1 with _ _ h1
          subst h1
          exact h2
        obtain ⟨y, hy⟩ : ∃ y, L2[at_]? = some y := ⟨L2[at_]'(by omega), List.getElem?_eq_getElem (by omega)⟩
        have hyx : y.fi = x.fi := by
          have h1 : (L2.map Fc.fi)[at_]? = some y.fi := by rw [List.getElem?_map, hy]; rfl
          rw [hfi, List.getElem?_map, HX.out] at h1
          exact (Option.some.inj h1).symm
        have bb3 := below_on bb2 b3
        obtain ⟨W3, hW3⟩ : ∃ W3, w3.alloc (.cells #[.int .i64 room, .slice (some ⟨g, 0, none⟩) L2.length cv] 24) = W3 := ⟨_, rfl⟩
        have b4 : Below w3.heap.size w3 W3 := by rw [← hW3]; exact below_new (Below.refl _ _) _
        have O3 := hO.later b4
        have Y3 : Blk W3 w3.heap.size 24 #[.int .i64 room, .slice (some ⟨g, 0, none⟩) L2.length cv] := by rw [← hW3]; exact Blk.new _ _ _
        have Z3 := (Z.out.later b3).later b4
        have hg := own_base_le hO.row
        have hgz : w.heap.size + 1 < g := by have := Z.out.lt; omega
        have bb4 := below_on bb3 b4
        have HW3 := Lib.hid hW3
        have hj1 : (at_ : Int) < (L2.length : Int) := by omega
        have hyl : y.l = x.l := congrArg (fun z => z.2.1) hyx
        have hylen : y.l.length = x.l.length := by rw [hyl]
        have hkc : kn ≤ y.c := by have := (O3.each y (List.mem_of_getElem? hy)).le; omega
        have hOd : OwnD W3.drew w2.heap.size 43 5 (.slice (some ⟨g, 0, none⟩) L2.length cv) L2 := O3.later (Below.refl _ _).drew
        have p1 := hOd.put1 (by decide) hy kn (by omega)
        have hy1 : (L2.set at_ { y with l := y.l.take kn })[at_]? = some { y with l := y.l.take kn } := List.getElem?_set_self (by omega)
        have hlen1 : (L2.set at_ { y with l := y.l.take kn }).length = L2.length := List.length_set
        obtain ⟨W4, hW4⟩ : ∃ W4, (W3.setCell ⟨g, at_ * 3 + 1, none⟩ (.slice y.X kn y.c)).drew = W4 := ⟨_, rfl⟩
        replace p1 : OwnD W4 w2.heap.size 43 5 (.slice (some ⟨g, 0, none⟩) L2.length cv) (L2.set at_ { y with l := y.l.take kn }) := by rw [← hW4]; exact p1
        have p1d : OwnD W4.drew w2.heap.size 43 5 (.slice (some ⟨g, 0, none⟩) (L2.set at_ { y with l := y.l.take kn }).length cv) (L2.set at_ { y with l := y.l.take kn }) := by rw [hlen1]; exact p1.later (Below.refl _ _).drew
        have p2 := p1d.put2 (by decide) hy1 (min y.s (kn : Int))
        rw [List.set_set, hlen1] at p2
        obtain ⟨W5, hW5⟩ : ∃ W5, (W4.setCell ⟨g, at_ * 3 + 2, none⟩ (.int .i64 (min y.s (kn : Int)))).drew = W5 := ⟨_, rfl⟩
        replace p2 : OwnD W5 w2.heap.size 43 5 (.slice (some ⟨g, 0, none⟩) L2.length cv) (L2.set at_ { y with l := y.l.take kn, s := min y.s (kn : Int) }) := by rw [← hW5]; exact p2
        have hw5 : ∀ b, b ≠ g → W5.heap[b]? = W4.heap[b]? := fun b hb => by rw [← hW5]; exact Below.heap_setCell W4 ⟨g, at_ * 3 + 2, none⟩ (.int .i64 (min y.s (kn : Int))) b hb
        have hz2 : w.heap.size + 1 < w2.heap.size := Z.out.lt
        obtain ⟨q0, q1, q2, q3, q4⟩ := row_cells O3.row hy
        obtain ⟨r0, r1, r2, r3, r4⟩ := row_cells p1d.row hy1
        dsimp only at r1 r2
        rw [show (y.l.take kn).length = kn from by rw [List.length_take]; omega] at r1
        have yb := Y3.cell (i := 1) rfl
        have hw4 : ∀ b, b ≠ g → W4.heap[b]? = W3.heap[b]? := fun b hb => by rw [← hW4]; exact Below.heap_setCell W3 ⟨g, at_ * 3 + 1, none⟩ (.slice y.X kn y.c) b hb
        have hgY : g ≠ w3.heap.size := by omega
        have Y4 : Blk W4 w3.heap.size 24 #[.int .i64 room, .slice (some ⟨g, 0, none⟩) L2.length cv] := (hw4 _ (by omega)).trans Y3
        have yb4 : W4.cell? ⟨w3.heap.size, 1, none⟩ = _ := Y4.cell (i := 1) rfl
        have Y5 : Blk W5 w3.heap.size 24 #[.int .i64 room, .slice (some ⟨g, 0, none⟩) L2.length cv] := (hw5 _ (by omega)).trans Y4
        have Z5 : Blk W5 (w.heap.size + 1) 24 #[.int .i64 0, .slice none 0 0] := (hw5 _ (by omega)).trans ((hw4 _ (by omega)).trans Z3)
        have bb5 : Below w.heap.size w W5 := by rw [← hW5, ← hW4]; exact ((bb4.drew.setCell (p := ⟨g, at_ * 3 + 1, none⟩) (by show w.heap.size ≤ g; omega) _).drew).setCell (p := ⟨g, at_ * 3 + 2, none⟩) (by show w.heap.size ≤ g; omega) _
        have hmo := HMO.out L2 { y with l := y.l.take kn, s := min y.s (kn : Int) } hfi (by
          unfold Dk.cut1
          rw [if_pos (show x.fi.1 = n from HXN.out), ← hyx]
          rfl)
        have HW4 := Lib.hid hW4
        have HW5 := Lib.hid hW5
        have P2 := Lib.hid p2; have HY5 := Lib.hid Y5; have HZ5 := Lib.hid Z5; have HB5 := Lib.hid bb5; have HMM := Lib.hid hmo
        have hyc : y.c ≤ 9223372036854775807 := by have := (O3.each y (List.mem_of_getElem? hy)).cap; unfold maxLen at this; exact this
        have hky0 : (0 : Int) ≤ (kn : Int) := by omega
        have hky1 : (kn : Int) ≤ (y.l.length : Int) := by omega
        have hky2 : (kn : Int) ≤ (y.c : Int) := by omega
        have R1 := Lib.hid r1; have R2 := Lib.hid r2; have R4 := Lib.hid r4; have YB4 := Lib.hid yb4
        have hb2w2 : w2.heap.size ≤ g := hg.1
        clear hl2 hylen hO hfi hy hyx O3 Y3 Z3 hOd p1 hy1 p1d p2 Y4 Y5 Z5 bb5 hmo hW4 hW5 hW3 hcv hw4 hw5 hyl r0 r1 r2 r3 r4 q0 yb4 b4
        cases hX : y.X with
        | none =>
          rw [hX] at q1 R1 HW4
          go_wp2_with fail
          rw [HW3.out]
          go_region
          all_goals
            rw [HW4.out]
            have r2' := R2.out
            have r4' := R4.out
            have yb4' := YB4.out
            go_wp2_with fail
            go_region
            all_goals
              rw [HW5.out]
              have x0 := HY5.out.cell (i := 0) rfl
              have x1 := HY5.out.cell (i := 1) rfl
              have z' := HZ5.out
              have y0 := z'.cell (i := 0) rfl
              have y1 := z'.cell (i := 1) rfl
              have s0 := z'.free 0
              have s1 := z'.free 1
              have hz := (z'.put 0 (.int .i64 room)).put 1 (.slice (some ⟨g, 0, none⟩) L2.length cv)
              have z0 := Lib.hid (hz.cell (i := 0) rfl)
              have z1 := Lib.hid (hz.cell (i := 1) rfl)
              have hbz := ((HB5.out).setCell (p := ⟨w.heap.size + 1, 0, none⟩) (by show w.heap.size ≤ w.heap.size + 1; omega) (.int .i64 room)).setCell (p := ⟨w.heap.size + 1, 1, none⟩) (by show w.heap.size ≤ w.heap.size + 1; omega) (.slice (some ⟨g, 0, none⟩) L2.length cv)
              have hO2 := (((P2.out).low (p := ⟨w.heap.size + 1, 0, none⟩) (by show w.heap.size + 1 < _; omega) (.int .i64 room)).low (p := ⟨w.heap.size + 1, 1, none⟩) (by show w.heap.size + 1 < _; omega) (.slice (some ⟨g, 0, none⟩) L2.length cv)).lower (base' := w.heap.size) (by omega)
              have FIN := Lib.hid (show GivesDE (room, (L.map Fc.fi).map (Dk.cut1 n kn), 0) w (.returned (.tuple #[.agg #[.int .i64 room, .slice (some ⟨g, 0, none⟩) L2.length cv], .int .i64 0])) _ from ⟨_, L2.set at_ { y with l := y.l.take kn, s := min y.s (kn : Int) }, rfl, hO2, HMM.out, hbz⟩)
              clear z' hz hbz  hO2
              go_wp2
              have z0 := z0.out
              have z1 := z1.out
              exact bodyPost_ret (v := .tuple #[.agg #[.int .i64 room, .slice (some ⟨g, 0, none⟩) L2.length cv], .int .i64 0]) (by simp [results, Try.results20, go_sem, z0, z1]) rfl FIN.out
        | some a =>
          rw [hX] at q1 R1 HW4
          go_wp2_with fail
          rw [HW3.out]
          go_region
          all_goals
            rw [HW4.out]
            have r2' := R2.out
            have r4' := R4.out
            have yb4' := YB4.out
            go_wp2_with fail
            go_region
            all_goals
              rw [HW5.out]
              have x0 := HY5.out.cell (i := 0) rfl
              have x1 := HY5.out.cell (i := 1) rfl
              have z' := HZ5.out
              have y0 := z'.cell (i := 0) rfl
              have y1 := z'.cell (i := 1) rfl
              have s0 := z'.free 0
              have s1 := z'.free 1
              have hz := (z'.put 0 (.int .i64 room)).put 1 (.slice (some ⟨g, 0, none⟩) L2.length cv)
              have z0 := Lib.hid (hz.cell (i := 0) rfl)
              have z1 := Lib.hid (hz.cell (i := 1) rfl)
              have hbz := ((HB5.out).setCell (p := ⟨w.heap.size + 1, 0, none⟩) (by show w.heap.size ≤ w.heap.size + 1; omega) (.int .i64 room)).setCell (p := ⟨w.heap.size + 1, 1, none⟩) (by show w.heap.size ≤ w.heap.size + 1; omega) (.slice (some ⟨g, 0, none⟩) L2.length cv)
              have hO2 := (((P2.out).low (p := ⟨w.heap.size + 1, 0, none⟩) (by show w.heap.size + 1 < _; omega) (.int .i64 room)).low (p := ⟨w.heap.size + 1, 1, none⟩) (by show w.heap.size + 1 < _; omega) (.slice (some ⟨g, 0, none⟩) L2.length cv)).lower (base' := w.heap.size) (by omega)
              have FIN := Lib.hid (show GivesDE (room, (L.map Fc.fi).map (Dk.cut1 n kn), 0) w (.returned (.tuple #[.agg #[.int .i64 room, .slice (some ⟨g, 0, none⟩) L2.length cv], .int .i64 0])) _ from ⟨_, L2.set at_ { y with l := y.l.take kn, s := min y.s (kn : Int) }, rfl, hO2, HMM.out, hbz⟩)
              clear z' hz hbz  hO2
              go_wp2
              have z0 := z0.out
              have z1 := z1.out
              exact bodyPost_ret (v := .tuple #[.agg #[.int .i64 room, .slice (some ⟨g, 0, none⟩) L2.length cv], .int .i64 0]) (by simp [results, Try.results20, go_sem, z0, z1]) rfl FIN.out
      · have hwf : Dk.win k (x.l.length : Int) = false := by simpa using hwin
        have hnw := Dk.win_no hwf
        have hR : Dk.cutR room (L.map Fc.fi) n k = (0, [], 1) := by unfold Dk.cutR; rw [if_pos hq, hf]; dsimp only; rw [if_neg (show ¬ Dk.win k ((x.fi).2.1.length : Int) = true from hwin)]
        rw [hR]
        clear hq hf hR hwin hwf hp hx hxn HFT
        by_cases hk0 : k < 0
        · have dk0 : decide (k < 0) = true := decide_eq_true hk0
          clear hnw hk0
          go_enter Try.func20, Try.ntmps20
          go_wp2_with fail
          refine N.out.mono ?_
          rintro e w1 ⟨rfl, b1⟩
          have bb := below_on bn b1
          have c0 := (B0.out.later b1).cell (i := 0) rfl
          have c1 := (B0.out.later b1).cell (i := 1) rfl
          have N2 := Lib.hid (rplace_any room n (at_ : Int) A c L w1 (HD.out.later bb) HP.out)
          go_wp2_with fail
          refine N2.out.mono ?_
          rintro e w2 ⟨rfl, b2⟩
          have bb2 := below_on bb b2
          have d0 := cell_later b2 c0
          have d1 := cell_later b2 c1
          have hi0 : (0 : Int) ≤ (at_ : Int) := by omega
          have hi1 : (at_ : Int) < (L.length : Int) := by omega
          have hi2 : ¬ ((at_ : Int) < 0) := by omega
          clear c0 c1
          have z' := (B1.out.later b1).later b2
          have y0 := z'.cell (i := 0) rfl
          have y1 := z'.cell (i := 1) rfl
          have s0 := z'.free 0
          have s1 := z'.free 1
          have hz := (z'.put 0 (.int .i64 0)).put 1 (.slice none 0 0)
          have z0 := Lib.hid (hz.cell (i := 0) rfl)
          have z1 := Lib.hid (hz.cell (i := 1) rfl)
          have hbz := ((bb2).setCell (p := ⟨w.heap.size + 1, 0, none⟩) (by show w.heap.size ≤ w.heap.size + 1; omega) (.int .i64 0)).setCell (p := ⟨w.heap.size + 1, 1, none⟩) (by show w.heap.size ≤ w.heap.size + 1; omega) (.slice none 0 0)
          have FIN := Lib.hid (GivesDE.err 1 hbz)
          clear z' hz hbz 
          go_wp2
          have z0 := z0.out
          have z1 := z1.out
          exact bodyPost_ret (v := .tuple #[.agg #[.int .i64 0, .slice none 0 0], .int .i64 1]) (by simp [results, Try.results20, go_sem, z0, z1]) rfl FIN.out
        · have dk0 : decide (k < 0) = false := decide_eq_false hk0
          have dk1 : decide ((x.l.length : Int) < k) = true := decide_eq_true (by omega)
          clear hnw
          go_enter Try.func20, Try.ntmps20
          go_wp2_with fail
          refine N.out.mono ?_
          rintro e w1 ⟨rfl, b1⟩
          have bb := below_on bn b1
          have c0 := (B0.out.later b1).cell (i := 0) rfl
          have c1 := (B0.out.later b1).cell (i := 1) rfl
          have N2 := Lib.hid (rplace_any room n (at_ : Int) A c L w1 (HD.out.later bb) HP.out)
          go_wp2_with fail
          refine N2.out.mono ?_
          rintro e w2 ⟨rfl, b2⟩
          have bb2 := below_on bb b2
          have d0 := cell_later b2 c0
          have d1 := cell_later b2 c1
          have hi0 : (0 : Int) ≤ (at_ : Int) := by omega
          have hi1 : (at_ : Int) < (L.length : Int) := by omega
          have hi2 : ¬ ((at_ : Int) < 0) := by omega
          clear c0 c1
          obtain ⟨b, off, hA, hc⟩ := (HD.out.later bb2).at hne
          obtain ⟨e0, e1, e2⟩ := hc at_ x HX.out
          subst hA
          clear hc hne
          have z' := (B1.out.later b1).later b2
          have y0 := z'.cell (i := 0) rfl
          have y1 := z'.cell (i := 1) rfl
          have s0 := z'.free 0
          have s1 := z'.free 1
          have hz := (z'.put 0 (.int .i64 0)).put 1 (.slice none 0 0)
          have z0 := Lib.hid (hz.cell (i := 0) rfl)
          have z1 := Lib.hid (hz.cell (i := 1) rfl)
          have hbz := ((bb2).setCell (p := ⟨w.heap.size + 1, 0, none⟩) (by show w.heap.size ≤ w.heap.size + 1; omega) (.int .i64 0)).setCell (p := ⟨w.heap.size + 1, 1, none⟩) (by show w.heap.size ≤ w.heap.size + 1; omega) (.slice none 0 0)
          have FIN := Lib.hid (GivesDE.err 1 hbz)
          clear z' hz hbz 
          go_wp2
          have z0 := z0.out
          have z1 := z1.out
          exact bodyPost_ret (v := .tuple #[.agg #[.int .i64 0, .slice none 0 0], .int .i64 1]) (by simp [results, Try.results20, go_sem, z0, z1]) rfl FIN.out
end Go.Proofs.Ytgjcpdcepmgafaa
