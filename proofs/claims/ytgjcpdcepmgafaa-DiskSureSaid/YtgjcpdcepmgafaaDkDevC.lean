/-
  What disk's Cut answers.
-/
import Derived.Test.YtgjcpdcepmgafaaDkDevB
namespace Go.Proofs.Ytgjcpdcepmgafaa
open Go.RowKit

theorem donly_any (n : Int) (fn : Nat) (lb : Array Value) (W : World) :
    Calls Try.prog 32 #[.int .i64 n, .func (.func fn) #[] lb] W fun e w' => e = .returned (.func (.func 46) #[] #[.pointer (some ⟨W.heap.size, 0, none⟩), .pointer (some ⟨W.heap.size + 1, 0, none⟩)]) ∧ Blk w' W.heap.size 3 #[.int .i64 n] ∧ Blk w' (W.heap.size + 1) 55 #[.func (.func fn) #[] lb] ∧ Below W.heap.size W w' ∧ w'.heap.size = W.heap.size + 2 := by
  have FIN := Lib.hid (show Blk ((W.alloc (.cells #[.int .i64 n] 3)).alloc (.cells #[.func (.func fn) #[] lb] 55)) W.heap.size 3 #[.int .i64 n] ∧ Blk ((W.alloc (.cells #[.int .i64 n] 3)).alloc (.cells #[.func (.func fn) #[] lb] 55)) (W.heap.size + 1) 55 #[.func (.func fn) #[] lb] ∧ Below W.heap.size W ((W.alloc (.cells #[.int .i64 n] 3)).alloc (.cells #[.func (.func fn) #[] lb] 55)) ∧ ((W.alloc (.cells #[.int .i64 n] 3)).alloc (.cells #[.func (.func fn) #[] lb] 55)).heap.size = W.heap.size + 2 from
    ⟨(Blk.new W _ _).alloc _, by simpa using Blk.new (W.alloc (.cells #[.int .i64 n] 3)) 55 #[.func (.func fn) #[] lb], below_new (below_new (Below.refl _ _) _) _, by simp⟩)
  go_enter Try.func32, Try.ntmps32
  go_wp2
  go_ret
  exact ⟨rfl, FIN.out⟩

set_option maxRecDepth 100000 in
set_option maxHeartbeats 3200000 in
theorem dcutD_any (room n k : Int) (A : Option Addr) (c : Nat) (L : List Fc) (w : World) (h : OneD w A c L) :
    Calls Try.prog 19 #[.agg #[.int .i64 room, .slice A L.length c], .int .i64 n, .int .i64 k] w (GivesDE (Dk.cutR room (L.map Fc.fi) n k) w) := by
  have bn := below_new (below_new (below_new (Below.refl w.heap.size w) (.cells #[.int .i64 room, .slice A L.length c] 24)) (.cells #[.int .i64 k] 3)) (.cells #[.int .i64 0, .slice none 0 0] 24)
  obtain ⟨x, er, hF, hw⟩ := Dk.file_ways room n L
  have n1 := dfile_any room n A c L x er _ (h.later bn) hF
  unfold fileV at n1
  have N := Lib.hid n1
  have B0 := Lib.hid (((Blk.new w 24 #[.int .i64 room, .slice A L.length c]).alloc (.cells #[.int .i64 k] 3)).alloc (.cells #[.int .i64 0, .slice none 0 0] 24))
  have B1 := Lib.hid (show Blk _ (w.heap.size + 1) 3 #[.int .i64 k] from by simpa using (Blk.new (w.alloc (.cells #[.int .i64 room, .slice A L.length c] 24)) 3 #[.int .i64 k]).alloc (.cells #[.int .i64 0, .slice none 0 0] 24))
  have B2 := Lib.hid (show Blk _ (w.heap.size + 1 + 1) 24 #[.int .i64 0, .slice none 0 0] from by simpa using Blk.new ((w.alloc (.cells #[.int .i64 room, .slice A L.length c] 24)).alloc (.cells #[.int .i64 k] 3)) 24 #[.int .i64 0, .slice none 0 0])
  have HD := Lib.hid h
  clear h hF n1
  rcases hw with ⟨rfl, hq⟩ | ⟨rfl, hq, hf⟩ | ⟨rfl, hq, hf, hm, hxn⟩
  · have hR : Dk.cutR room (L.map Fc.fi) n k = (0, [], 1) := by unfold Dk.cutR; rw [if_neg (by rw [hq]; exact Bool.false_ne_true)]
    rw [hR]
    clear hq hR HD B0 B1
    go_enter Try.func19, Try.ntmps19
    go_wp2_with fail
    refine N.out.mono ?_
    rintro e w1 ⟨rfl, b1⟩
    have z' := (B2.out.later b1).alloc (.cells #[.int .i64 x.num, .slice x.X x.l.length x.c, .int .i64 x.s] 43)
    have y0 := z'.cell (i := 0) rfl
    have y1 := z'.cell (i := 1) rfl
    have s0 := z'.free 0
    have s1 := z'.free 1
    have hz := (z'.put 0 (.int .i64 0)).put 1 (.slice none 0 0)
    have z0 := Lib.hid (hz.cell (i := 0) rfl)
    have z1 := Lib.hid (hz.cell (i := 1) rfl)
    have hbz := ((below_new (below_on bn b1) (.cells #[.int .i64 x.num, .slice x.X x.l.length x.c, .int .i64 x.s] 43)).setCell (p := ⟨w.heap.size + 1 + 1, 0, none⟩) (by show w.heap.size ≤ w.heap.size + 1 + 1; omega) (.int .i64 0)).setCell (p := ⟨w.heap.size + 1 + 1, 1, none⟩) (by show w.heap.size ≤ w.heap.size + 1 + 1; omega) (.slice none 0 0)
    have FIN := Lib.hid (GivesDE.err 1 hbz)
    clear z' hz hbz 
    go_wp2
    have z0 := z0.out
    have z1 := z1.out
    exact bodyPost_ret (v := .tuple #[.agg #[.int .i64 0, .slice none 0 0], .int .i64 1]) (by simp [results, Try.results19, go_sem, z0, z1]) rfl FIN.out
  · have hR : Dk.cutR room (L.map Fc.fi) n k = (0, [], 16) := by unfold Dk.cutR; rw [if_pos hq, hf]
    rw [hR]
    clear hq hf hR HD B0 B1
    go_enter Try.func19, Try.ntmps19
    go_wp2_with fail
    refine N.out.mono ?_
    rintro e w1 ⟨rfl, b1⟩
    have z' := (B2.out.later b1).alloc (.cells #[.int .i64 x.num, .slice x.X x.l.length x.c, .int .i64 x.s] 43)
    have y0 := z'.cell (i := 0) rfl
    have y1 := z'.cell (i := 1) rfl
    have s0 := z'.free 0
    have s1 := z'.free 1
    have hz := (z'.put 0 (.int .i64 0)).put 1 (.slice none 0 0)
    have z0 := Lib.hid (hz.cell (i := 0) rfl)
    have z1 := Lib.hid (hz.cell (i := 1) rfl)
    have hbz := ((below_new (below_on bn b1) (.cells #[.int .i64 x.num, .slice x.X x.l.length x.c, .int .i64 x.s] 43)).setCell (p := ⟨w.heap.size + 1 + 1, 0, none⟩) (by show w.heap.size ≤ w.heap.size + 1 + 1; omega) (.int .i64 0)).setCell (p := ⟨w.heap.size + 1 + 1, 1, none⟩) (by show w.heap.size ≤ w.heap.size + 1 + 1; omega) (.slice none 0 0)
    have FIN := Lib.hid (GivesDE.err 16 hbz)
    clear z' hz hbz 
    go_wp2
    have z0 := z0.out
    have z1 := z1.out
    exact bodyPost_ret (v := .tuple #[.agg #[.int .i64 0, .slice none 0 0], .int .i64 16]) (by simp [results, Try.results19, go_sem, z0, z1]) rfl FIN.out
  · have hfit := Dk.fit hq
    have HFT := Lib.hid hfit
    have HX := Lib.hid (HD.out.each x hm)
    have hxl := (HD.out.each x hm).len
    have HM := Lib.hid hm
    have HXN := Lib.hid hxn
    have huniq : ∀ f ∈ L.map Fc.fi, f.1 = n → f.2.1.length = x.l.length := fun f hf1 hf2 => by
      have hup := (Dk.fmd_facts hq).up
      have hx1 : x.fi ∈ L.map Fc.fi := List.mem_map.2 ⟨x, hm, rfl⟩
      by_cases e : f = x.fi
      · rw [e]; rfl
      · exfalso
        obtain ⟨i, h1⟩ := List.getElem?_of_mem hf1
        obtain ⟨j, h2⟩ := List.getElem?_of_mem hx1
        obtain ⟨i1, i2⟩ := List.getElem?_eq_some_iff.1 h1
        obtain ⟨j1, j2⟩ := List.getElem?_eq_some_iff.1 h2
        have hup' := List.pairwise_iff_getElem.1 hup
        have hxn' : x.fi.1 = n := hxn
        rcases Nat.lt_trichotomy i j with q | q | q
        · have := hup' i j i1 j1 q
          rw [i2, j2] at this
          omega
        · subst q
          exact e (i2.symm.trans j2)
        · have := hup' j i j1 i1 q
          rw [i2, j2] at this
          omega
    have HUN := Lib.hid huniq
    clear hfit hm hxn huniq
    by_cases hwin : Dk.win k (x.l.length : Int) = true
    · have hR : Dk.cutR room (L.map Fc.fi) n k = (room, (L.map Fc.fi).map (Dk.cut1 n k.toNat), 0) := by unfold Dk.cutR; rw [if_pos hq, hf]; dsimp only; rw [if_pos (show Dk.win k ((x.fi).2.1.length : Int) = true from hwin)]
      rw [hR]
      obtain ⟨k0, k1⟩ := Dk.win_yes hwin
      obtain ⟨kn, rfl⟩ : ∃ kn : Nat, k = (kn : Int) := ⟨k.toNat, by omega⟩
      rw [Int.toNat_natCast]
      have N3 := Lib.hid (fun w => within_any (kn : Int) (x.l.length : Int) w)
      rw [hwin] at N3
      clear hq hf hR hwin
      go_enter Try.func19, Try.ntmps19
      go_wp2_with fail
      refine N.out.mono ?_
      rintro e w1 ⟨rfl, b1⟩
      obtain ⟨W2, hW2⟩ : ∃ W2, w1.alloc (.cells #[.int .i64 x.num, .slice x.X x.l.length x.c, .int .i64 x.s] 43) = W2 := ⟨_, rfl⟩
      have hb2 : Below w1.heap.size w1 W2 := by rw [← hW2]; exact below_new (Below.refl _ _) _
      have hBX : Blk W2 w1.heap.size 43 #[.int .i64 x.num, .slice x.X x.l.length x.c, .int .i64 x.s] := by rw [← hW2]; exact Blk.new _ _ _
      have bb := below_on (below_on bn b1) hb2
      have E0 := (B0.out.later b1).later hb2
      have E1 := (B1.out.later b1).later hb2
      have E2 := (B2.out.later b1).later hb2
      have c0 : W2.drew.cell? ⟨w.heap.size, 0, none⟩ = _ := E0.cell (i := 0) rfl
      have c1 : W2.drew.cell? ⟨w.heap.size, 1, none⟩ = _ := E0.cell (i := 1) rfl
      have C0 := Lib.hid c0
      have C1 := Lib.hid c1
      have HE1 := Lib.hid E1
      have HE2 := Lib.hid E2
      have HBB := Lib.hid bb
      have HW2 := Lib.hid hW2
      have ON := Lib.hid (donly_any n 37 #[.pointer (some ⟨w.heap.size + 1, 0, none⟩)] W2.drew)
      have CH := Lib.hid (fun (w' : World) (b : Below W2.drew.heap.size W2.drew w') (O0 : Blk w' W2.drew.heap.size 3 #[.int .i64 n]) (O1 : Blk w' (W2.drew.heap.size + 1) 55 #[.func (.func 37) #[] #[.pointer (some ⟨w.heap.size + 1, 0, none⟩)]]) =>
        changed_any room A c L 46 #[.pointer (some ⟨W2.drew.heap.size, 0, none⟩), .pointer (some ⟨W2.drew.heap.size + 1, 0, none⟩)] (fun _ _ => rfl) (JB w'.heap.size w' (L.map Fc.fi) (Dk.cut1 n kn)) w' (HD.out.later (below_on HBB.out.drew b)) HFT.out (JB.start _ _ _ _) (fun d W W' => JB.stab d W W')
          (cutChg w'.heap.size L.length w' (L.map Fc.fi) n kn W2.drew.heap.size (W2.drew.heap.size + 1) (w.heap.size + 1) (O0.cell (i := 0) rfl) (O1.cell (i := 0) rfl) ((HE1.out.drew.later b).cell (i := 0) rfl) O0.lt O1.lt (HE1.out.drew.later b).lt (fun f hf1 hf2 => by rw [HUN.out f hf1 hf2]; omega)))
      have RT := Lib.hid (fun (w5 w6 : World) (V : Option Addr) (cv : Nat) (L2 : List Fc) (b5 : Below W2.drew.heap.size W2.drew w5) (hO : OwnD w6 w5.heap.size 43 5 (.slice V L2.length cv) L2) (hl : L2.length = L.length) (hJ : JB w5.heap.size w5 (L.map Fc.fi) (Dk.cut1 n kn) L2 w6) =>
        (show (w6.cell? ⟨w.heap.size + 1 + 1, 0, none⟩ = some (.int .i64 0) ∧ w6.cell? ⟨w.heap.size + 1 + 1, 1, none⟩ = some (.slice none 0 0) ∧ w6.frozen? ⟨w.heap.size + 1 + 1, 0, none⟩ = false ∧ w6.frozen? ⟨w.heap.size + 1 + 1, 1, none⟩ = false) ∧
          ∃ W7, W7 = (w6.setCell ⟨w.heap.size + 1 + 1, 0, none⟩ (.int .i64 room)).setCell ⟨w.heap.size + 1 + 1, 1, none⟩ (.slice V L2.length cv) ∧ W7.cell? ⟨w.heap.size + 1 + 1, 0, none⟩ = some (.int .i64 room) ∧ W7.cell? ⟨w.heap.size + 1 + 1, 1, none⟩ = some (.slice V L2.length cv) ∧ GivesDE (room, (L.map Fc.fi).map (Dk.cut1 n kn), 0) w (.returned (.tuple #[.agg #[.int .i64 room, .slice V L2.length cv], .int .i64 0])) W7 from by
            have z := (HE2.out.drew.later b5).later hJ.1
            have hlt : w.heap.size + 1 + 1 < w5.heap.size := (HE2.out.drew.later b5).lt
            have hz := (z.put 0 (.int .i64 room)).put 1 (.slice V L2.length cv)
            exact ⟨⟨z.cell (i := 0) rfl, z.cell (i := 1) rfl, z.free 0, z.free 1⟩, _, rfl, hz.cell (i := 0) rfl, hz.cell (i := 1) rfl, _, L2, rfl, ((hO.low (p := ⟨w.heap.size + 1 + 1, 0, none⟩) hlt (.int .i64 room)).low (p := ⟨w.heap.size + 1 + 1, 1, none⟩) hlt (.slice V L2.length cv)).lower (by omega), hJ.done (by simp [hl]),
              ((below_on (below_on HBB.out.drew b5) hJ.1).setCell (p := ⟨w.heap.size + 1 + 1, 0, none⟩) (by show w.heap.size ≤ w.heap.size + 1 + 1; omega) (.int .i64 room)).setCell (p := ⟨w.heap.size + 1 + 1, 1, none⟩) (by show w.heap.size ≤ w.heap.size + 1 + 1; omega) (.slice V L2.length cv)⟩))
      have x1 := (Blk.new w1 43 #[.int .i64 x.num, .slice x.X x.l.length x.c, .int .i64 x.s]).cell (i := 1) rfl
      have m0 := ((B1.out.later b1).alloc (.cells #[.int .i64 x.num, .slice x.X x.l.length x.c, .int .i64 x.s] 43)).cell (i := 0) rfl
      clear hb2 hBX bb E0 E1 E2 hW2
      go_wp2_with fail
      refine (N3.out _).mono ?_
      rintro e w' ⟨rfl, rfl⟩
      clear x1 m0
      go_wp2_with fail
      rw [HW2.out]
      go_region_with (first
        | (go_at_call 32; refine ON.out.mono ?_; rintro e w5 ⟨rfl, o0, o1, b5, -⟩; have g0 := cell_later b5 C0.out; have g1 := cell_later b5 C1.out; have O0 := Lib.hid o0; have O1 := Lib.hid o1; clear o0 o1)
        | (go_at_call 30; refine (CH.out _ b5 O0.out O1.out).mono ?_; rintro e w6 ⟨v, L2, rfl, hO, hl, hJ⟩; obtain ⟨V, cv, rfl, -, -, -, -⟩ := own_form hO.row; have rt := RT.out _ _ V cv L2 b5 hO hl hJ; have y0 := rt.1.1; have y1 := rt.1.2.1; have s0 := rt.1.2.2.1; have s1 := rt.1.2.2.2; have RR := Lib.hid rt.2; clear rt hO hl hJ))
      all_goals
        go_wp2
        obtain ⟨W7, hW7, z0, z1, fin⟩ := RR.out
        subst hW7
        exact bodyPost_ret (v := .tuple #[.agg #[.int .i64 room, .slice V L2.length cv], .int .i64 0]) (by simp [results, Try.results19, go_sem, z0, z1]) rfl fin
    · have hwf : Dk.win k (x.l.length : Int) = false := by simpa using hwin
      have hR : Dk.cutR room (L.map Fc.fi) n k = (0, [], 1) := by unfold Dk.cutR; rw [if_pos hq, hf]; dsimp only; rw [if_neg (show ¬ Dk.win k ((x.fi).2.1.length : Int) = true from hwin)]
      rw [hR]
      have N3 := Lib.hid (fun w => within_any k (x.l.length : Int) w)
      rw [hwf] at N3
      clear hq hf hR hwin hwf HD B0
      go_enter Try.func19, Try.ntmps19
      go_wp2_with fail
      refine N.out.mono ?_
      rintro e w1 ⟨rfl, b1⟩
      have x1 := (Blk.new w1 43 #[.int .i64 x.num, .slice x.X x.l.length x.c, .int .i64 x.s]).cell (i := 1) rfl
      have m0 := ((B1.out.later b1).alloc (.cells #[.int .i64 x.num, .slice x.X x.l.length x.c, .int .i64 x.s] 43)).cell (i := 0) rfl
      go_wp2_with fail
      refine (N3.out _).mono ?_
      rintro e w' ⟨rfl, rfl⟩
      clear x1 m0
      have z' := (B2.out.later b1).alloc (.cells #[.int .i64 x.num, .slice x.X x.l.length x.c, .int .i64 x.s] 43)
      have y0 := z'.cell (i := 0) rfl
      have y1 := z'.cell (i := 1) rfl
      have s0 := z'.free 0
      have s1 := z'.free 1
      have hz := (z'.put 0 (.int .i64 0)).put 1 (.slice none 0 0)
      have z0 := Lib.hid (hz.cell (i := 0) rfl)
      have z1 := Lib.hid (hz.cell (i := 1) rfl)
      have hbz := ((below_new (below_on bn b1) (.cells #[.int .i64 x.num, .slice x.X x.l.length x.c, .int .i64 x.s] 43)).setCell (p := ⟨w.heap.size + 1 + 1, 0, none⟩) (by show w.heap.size ≤ w.heap.size + 1 + 1; omega) (.int .i64 0)).setCell (p := ⟨w.heap.size + 1 + 1, 1, none⟩) (by show w.heap.size ≤ w.heap.size + 1 + 1; omega) (.slice none 0 0)
      have FIN := Lib.hid (GivesDE.err 1 hbz)
      clear z' hz hbz 
      go_wp2
      have z0 := z0.out
      have z1 := z1.out
      exact bodyPost_ret (v := .tuple #[.agg #[.int .i64 0, .slice none 0 0], .int .i64 1]) (by simp [results, Try.results19, go_sem, z0, z1]) rfl FIN.out
end Go.Proofs.Ytgjcpdcepmgafaa
