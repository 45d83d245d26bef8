/-
  What disk's Remove answers.
-/
import Derived.Test.YtgjcpdcepmgafaaDkDevB
import Derived.Test.YtgjcpdcepmgafaaDelF
namespace Go.Proofs.Ytgjcpdcepmgafaa
open Go.RowKit

theorem Lies.stays {w w' : World} {A : Option Addr} {xs : List Value} (h : Lies w A xs) (hs : ∀ a, A = some a → w'.heap[a.block]? = w.heap[a.block]?) : Lies w' A xs := fun hne => by
  obtain ⟨b, off, hA, hc⟩ := h hne
  exact ⟨b, off, hA, fun j u hu => (World.cell?_of_block (w := w) (w' := w') (a := ⟨b, off + j, none⟩) (show w'.heap[b]? = w.heap[b]? from hs ⟨b, off, none⟩ hA)).trans (hc j u hu)⟩
theorem OneB.stays {w w' : World} {A : Option Addr} {c : Nat} {l : List Int} (h : OneB w A c l) (hs : ∀ a, A = some a → w'.heap[a.block]? = w.heap[a.block]?) : OneB w' A c l := ⟨h.le, h.cap, h.noA, h.lies.stays hs, h.byte⟩
theorem OneD.stays {w w' : World} {A : Option Addr} {c : Nat} {L : List Fc} (h : OneD w A c L) (hA : ∀ a, A = some a → w'.heap[a.block]? = w.heap[a.block]?) (hs : ∀ f ∈ L, ∀ a, f.X = some a → w'.heap[a.block]? = w.heap[a.block]?) : OneD w' A c L :=
  ⟨h.le, h.cap, h.noA, h.lies.stays hA, fun f hf => (h.each f hf).stays (hs f hf)⟩
/-- A disk and an error are answered; what was there before is as it was. -/
def GivesDO (r : Dk.Ans3) (w : World) (e : Ending) (w' : World) : Prop :=
  ∃ A c L, e = .returned (.tuple #[.agg #[.int .i64 r.1, .slice A (List.length L) c], .int .i64 r.2.2]) ∧ OneD w' A c L ∧ L.map Fc.fi = r.2.1 ∧ Below w.heap.size w w'
theorem GivesDE.one {r : Dk.Ans3} {w w' : World} {e : Ending} (h : GivesDE r w e w') : GivesDO r w e w' := by
  obtain ⟨v, L, rfl, hO, h1, h2⟩ := h
  obtain ⟨A, c, rfl, h3⟩ := hO.one
  exact ⟨A, c, L, rfl, h3, h1, h2⟩

theorem remove1_any (n : Int) (pn : Nat) (x : Fc) (W : World) (h : W.cell? ⟨pn, 0, none⟩ = some (.int .i64 n)) :
    Calls Try.prog 41 (#[.agg #[.int .i64 x.num, .slice x.X x.l.length x.c, .int .i64 x.s]] ++ #[.pointer (some ⟨pn, 0, none⟩)]) W fun e w' => e = .returned (.bool (x.num == n)) ∧ Below W.heap.size W w' := by
  show Calls Try.prog 41 #[.agg #[.int .i64 x.num, .slice x.X x.l.length x.c, .int .i64 x.s], .pointer (some ⟨pn, 0, none⟩)] W _
  obtain ⟨num, X, cx, l, sr⟩ := x
  dsimp only
  have h1 := cell_later (below_new (Below.refl W.heap.size W) (.cells #[.int .i64 num, .slice X l.length cx, .int .i64 sr] 43)) h
  have hb := Lib.hid (below_new (Below.refl W.heap.size W) (.cells #[.int .i64 num, .slice X l.length cx, .int .i64 sr] 43))
  go_enter Try.func41, Try.ntmps41
  go_wp2
  go_ret
  exact ⟨rfl, hb.out⟩

set_option maxRecDepth 100000 in
set_option maxHeartbeats 3200000 in
theorem dremove_any (room n : Int) (A : Option Addr) (c : Nat) (L : List Fc) (w : World) (h : OneD w A c L) :
    Calls Try.prog 21 #[.agg #[.int .i64 room, .slice A L.length c], .int .i64 n] w (GivesDO (Dk.remR room (L.map Fc.fi) n) w) := by
  have bn := below_new (below_new (below_new (Below.refl w.heap.size w) (.cells #[.int .i64 room, .slice A L.length c] 24)) (.cells #[.int .i64 n] 3)) (.cells #[.int .i64 0, .slice none 0 0] 24)
  obtain ⟨x, er, hF, hw⟩ := Dk.file_ways room n L
  have n1 := dfile_any room n A c L x er _ (h.later bn) hF
  unfold fileV at n1
  have N := Lib.hid n1
  have B0 := Lib.hid (((Blk.new w 24 #[.int .i64 room, .slice A L.length c]).alloc (.cells #[.int .i64 n] 3)).alloc (.cells #[.int .i64 0, .slice none 0 0] 24))
  have B1 := Lib.hid (show Blk _ (w.heap.size + 1) 3 #[.int .i64 n] from by simpa using (Blk.new (w.alloc (.cells #[.int .i64 room, .slice A L.length c] 24)) 3 #[.int .i64 n]).alloc (.cells #[.int .i64 0, .slice none 0 0] 24))
  have B2 := Lib.hid (show Blk _ (w.heap.size + 1 + 1) 24 #[.int .i64 0, .slice none 0 0] from by simpa using Blk.new ((w.alloc (.cells #[.int .i64 room, .slice A L.length c] 24)).alloc (.cells #[.int .i64 n] 3)) 24 #[.int .i64 0, .slice none 0 0])
  have HD := Lib.hid h
  clear h hF n1
  rcases hw with ⟨rfl, hq⟩ | ⟨rfl, hq, hf⟩ | ⟨rfl, hq, hf, hm, hxn⟩
  · have hR : Dk.remR room (L.map Fc.fi) n = (0, [], 1) := by unfold Dk.remR; rw [if_neg (by rw [hq]; exact Bool.false_ne_true)]
    rw [hR]
    clear hq hR HD B0 B1
    go_enter Try.func21, Try.ntmps21
    go_wp2_with fail
    refine N.out.mono ?_
    rintro e w1 ⟨rfl, b1⟩
    have z' := (B2.out.later b1).alloc (.cells #[.int .i64 x.num, .slice x.X x.l.length x.c, .int .i64 x.s] 43)
    have y0 := z'.cell (i := 0) rfl
    have y1 := z'.cell (i := 1) rfl
    have s0 := z'.free 0
    have s1 := z'.free 1
    have hz := (z'.put 0 (.int .i64 0)).put 1 (.slice none 0 0)
    have z0 := Lib.hid (hz.cell (i := 0) rfl)
    have z1 := Lib.hid (hz.cell (i := 1) rfl)
    have hbz := ((below_new (below_on bn b1) (.cells #[.int .i64 x.num, .slice x.X x.l.length x.c, .int .i64 x.s] 43)).setCell (p := ⟨w.heap.size + 1 + 1, 0, none⟩) (by show w.heap.size ≤ w.heap.size + 1 + 1; omega) (.int .i64 0)).setCell (p := ⟨w.heap.size + 1 + 1, 1, none⟩) (by show w.heap.size ≤ w.heap.size + 1 + 1; omega) (.slice none 0 0)
    have FIN := Lib.hid (GivesDE.err 1 hbz).one
    clear z' hz hbz 
    go_wp2
    have z0 := z0.out
    have z1 := z1.out
    exact bodyPost_ret (v := .tuple #[.agg #[.int .i64 0, .slice none 0 0], .int .i64 1]) (by simp [results, Try.results21, go_sem, z0, z1]) rfl FIN.out
  · have hR : Dk.remR room (L.map Fc.fi) n = (0, [], 16) := by unfold Dk.remR; rw [if_pos hq, hf]
    rw [hR]
    clear hq hf hR HD B0 B1
    go_enter Try.func21, Try.ntmps21
    go_wp2_with fail
    refine N.out.mono ?_
    rintro e w1 ⟨rfl, b1⟩
    have z' := (B2.out.later b1).alloc (.cells #[.int .i64 x.num, .slice x.X x.l.length x.c, .int .i64 x.s] 43)
    have y0 := z'.cell (i := 0) rfl
    have y1 := z'.cell (i := 1) rfl
    have s0 := z'.free 0
    have s1 := z'.free 1
    have hz := (z'.put 0 (.int .i64 0)).put 1 (.slice none 0 0)
    have z0 := Lib.hid (hz.cell (i := 0) rfl)
    have z1 := Lib.hid (hz.cell (i := 1) rfl)
    have hbz := ((below_new (below_on bn b1) (.cells #[.int .i64 x.num, .slice x.X x.l.length x.c, .int .i64 x.s] 43)).setCell (p := ⟨w.heap.size + 1 + 1, 0, none⟩) (by show w.heap.size ≤ w.heap.size + 1 + 1; omega) (.int .i64 0)).setCell (p := ⟨w.heap.size + 1 + 1, 1, none⟩) (by show w.heap.size ≤ w.heap.size + 1 + 1; omega) (.slice none 0 0)
    have FIN := Lib.hid (GivesDE.err 16 hbz).one
    clear z' hz hbz 
    go_wp2
    have z0 := z0.out
    have z1 := z1.out
    exact bodyPost_ret (v := .tuple #[.agg #[.int .i64 0, .slice none 0 0], .int .i64 16]) (by simp [results, Try.results21, go_sem, z0, z1]) rfl FIN.out
  · have hR : Dk.remR room (L.map Fc.fi) n = (room, (L.map Fc.fi).filter (fun f => !decide (f.1 = n)), 0) := by unfold Dk.remR; rw [if_pos hq, hf]
    rw [hR]
    have HFT := Lib.hid (Dk.fit hq)
    have hlp : 0 < L.length := List.length_pos_iff.2 (fun e => by subst e; cases hm)
    clear hq hf hR hm hxn
    go_enter Try.func21, Try.ntmps21
    go_wp2_with fail
    refine N.out.mono ?_
    rintro e w1 ⟨rfl, b1⟩
    obtain ⟨W2, hW2⟩ : ∃ W2, w1.alloc (.cells #[.int .i64 x.num, .slice x.X x.l.length x.c, .int .i64 x.s] 43) = W2 := ⟨_, rfl⟩
    have hb2 : Below w1.heap.size w1 W2 := by rw [← hW2]; exact below_new (Below.refl _ _) _
    have bb := below_on (below_on bn b1) hb2
    have E0 := (B0.out.later b1).later hb2
    have E1 := (B1.out.later b1).later hb2
    have E2 := (B2.out.later b1).later hb2
    have c0 := ((B0.out.later b1).alloc (.cells #[.int .i64 x.num, .slice x.X x.l.length x.c, .int .i64 x.s] 43)).cell (i := 0) rfl
    have c1 := ((B0.out.later b1).alloc (.cells #[.int .i64 x.num, .slice x.X x.l.length x.c, .int .i64 x.s] 43)).cell (i := 1) rfl
    have N2 := Lib.hid (copied_any room A c L W2 (HD.out.later bb) HFT.out)
    rw [← hW2] at N2
    have HW2 := Lib.hid hW2
    have HE1 := Lib.hid E1; have HE2 := Lib.hid E2; have HBB := Lib.hid bb
    clear hb2 bb E0 E1 E2 hW2
    go_wp2_with fail
    refine N2.out.mono ?_
    rintro e w3 ⟨v, L2, rfl, hO, -, hfi, b3⟩
    rw [HW2.out] at hO b3
    have hl2 : L2.length = L.length := by have := congrArg List.length hfi; simpa using this
    obtain ⟨g, cv, rfl⟩ := own_len hO.row (by omega)
    obtain ⟨A', c', hv, hcl, hcm, -, -⟩ := own_form hO.row
    injection hv with hv1 hv2 hv3
    subst hv1 hv3
    obtain ⟨W4, hW4⟩ : ∃ W4, w3.alloc (.cells #[.int .i64 room, .slice (some ⟨g, 0, none⟩) L2.length cv] 24) = W4 := ⟨_, rfl⟩
    have b4 : Below w3.heap.size w3 W4 := by rw [← hW4]; exact below_new (Below.refl _ _) _
    have Y4 : Blk W4 w3.heap.size 24 #[.int .i64 room, .slice (some ⟨g, 0, none⟩) L2.length cv] := by rw [← hW4]; exact Blk.new _ _ _
    have hg := own_base_le hO.row
    have O4 := hO.later b4
    have b34 := below_on b3 b4
    have hpr : PredF W2 41 #[.pointer (some ⟨w.heap.size + 1, 0, none⟩)] (fun x => x.num == n) := fun W x hW => remove1_any n (w.heap.size + 1) x W ((HE1.out.later hW).cell (i := 0) rfl)
    have hgW : g < W4.heap.size := Nat.lt_of_lt_of_le hg.2 b4.size
    have ND := Lib.hid (deleteFuncF_any (fun x => x.num == n) 41 #[.pointer (some ⟨w.heap.size + 1, 0, none⟩)] (fun _ _ => rfl) W2 g 0 cv L2 W4 hpr b34 hgW hg.1 (Lay.of_own O4.row) hcl (by unfold maxLen at hcm; exact hcm))
    have y1 := Y4.cell (i := 1) rfl
    have hz2 : w.heap.size + 1 + 1 < W2.heap.size := HE2.out.lt
    have hs3 : W2.heap.size ≤ w3.heap.size := b3.size
    have hs4 : w3.heap.size ≤ W4.heap.size := b4.size
    have RT := Lib.hid (fun (w5 : World) (hL : Lay w5 g 0 (fCells (L2.filter fun x => !(x.num == n)))) (hb : Below W2.heap.size W2 w5) (ho : Oth W4 w5 g) =>
      (show w5.cell? ⟨w3.heap.size, 1, none⟩ = some (.slice (some ⟨g, 0, none⟩) L2.length cv) ∧ w5.frozen? ⟨w3.heap.size, 1, none⟩ = false ∧ Blk (w5.setCell ⟨w3.heap.size, 1, none⟩ (.slice (some ⟨g, 0, none⟩) (L2.filter fun x => !(x.num == n)).length cv)) w3.heap.size 24 #[.int .i64 room, .slice (some ⟨g, 0, none⟩) (L2.filter fun x => !(x.num == n)).length cv] ∧
          Blk (w5.setCell ⟨w3.heap.size, 1, none⟩ (.slice (some ⟨g, 0, none⟩) (L2.filter fun x => !(x.num == n)).length cv)) (w.heap.size + 1 + 1) 24 #[.int .i64 0, .slice none 0 0] ∧ Below w.heap.size w (w5.setCell ⟨w3.heap.size, 1, none⟩ (.slice (some ⟨g, 0, none⟩) (L2.filter fun x => !(x.num == n)).length cv)) ∧
          ∀ (W : World), W = ((w5.setCell ⟨w3.heap.size, 1, none⟩ (.slice (some ⟨g, 0, none⟩) (L2.filter fun x => !(x.num == n)).length cv)).setCell ⟨w.heap.size + 1 + 1, 0, none⟩ (.int .i64 room)).setCell ⟨w.heap.size + 1 + 1, 1, none⟩ (.slice (some ⟨g, 0, none⟩) (L2.filter fun x => !(x.num == n)).length cv) → OneD W (some ⟨g, 0, none⟩) cv (L2.filter fun x => !(x.num == n)) from by
        have hgz : g ≠ w3.heap.size := by omega
        have Y5 : Blk w5 w3.heap.size 24 #[.int .i64 room, .slice (some ⟨g, 0, none⟩) L2.length cv] := (ho.same _ Y4.lt (fun e => hgz e.symm)).trans Y4
        have Z5 := HE2.out.later hb
        refine ⟨Y5.cell (i := 1) rfl, Y5.free 1, Y5.put 1 _, Z5.far (by show w.heap.size + 1 + 1 ≠ w3.heap.size; omega) _, (below_on HBB.out hb).setCell (by show w.heap.size ≤ w3.heap.size; omega) _, fun W hW => ?_⟩
        have far : ∀ k, k ≠ w3.heap.size → k ≠ w.heap.size + 1 + 1 → W.heap[k]? = w5.heap[k]? := fun k h1 h2 => by
          rw [hW]
          exact (Below.heap_setCell _ _ _ _ h2).trans ((Below.heap_setCell _ _ _ _ h2).trans (Below.heap_setCell _ _ _ _ h1))
        have h0 : OneD w5 (some ⟨g, 0, none⟩) cv (L2.filter fun x => !(x.num == n)) := by
          refine ⟨Nat.le_trans (List.length_filter_le _ _) hcl, hcm, (fun h => by cases h), hL.lies, fun f hf => ?_⟩
          have hf2 := (List.mem_filter.1 hf).1
          have hOf := O4.each f hf2
          exact (hOf.stays (fun k hk => ho.same k (hOf.lt k hk).2 (fun e => by subst e; exact hOf.off_row O4.row (by decide) hk))).one
        refine h0.stays (fun a ha => ?_) (fun f hf a ha => ?_)
        · injection ha with ha
          subst ha
          exact far g hgz (by have := hg.1; omega)
        · have hf2 := (List.mem_filter.1 hf).1
          have h1 := (hO.each f hf2).lt a.block (by unfold Fc.blk; rw [ha]; rfl)
          exact far a.block (by omega) (by omega)))
    have HFI := Lib.hid (show (L2.filter fun x => !(x.num == n)).map Fc.fi = (L.map Fc.fi).filter (fun f => !decide (f.1 = n)) from by rw [← hfi, List.filter_map]; rfl)
    have HW4 := Lib.hid hW4
    clear hO hfi hl2 b3 b4 Y4 O4 b34 hpr c0 c1
    have y1' : (w3.alloc (.cells #[.int .i64 room, .slice (some ⟨g, 0, none⟩) L2.length cv] 24)).cell? ⟨w3.heap.size, 1, none⟩ = some (.slice (some ⟨g, 0, none⟩) L2.length cv) := by rw [HW4.out]; exact y1
    rw [← HW4.out] at ND
    clear hW4 y1
    go_wp2_with fail
    refine ND.out.mono ?_
    rintro e w5 ⟨rfl, hL, hb5, ho5⟩
    rw [HW4.out] at ho5
    have rt := RT.out w5 hL hb5 ho5
    obtain ⟨u1, u2, uY, uZ, uB, uF⟩ := rt
    have v0 := uY.cell (i := 0) rfl
    have v1 := uY.cell (i := 1) rfl
    obtain ⟨M, hM⟩ : ∃ M, (L2.filter fun x => !(x.num == n)) = M := ⟨_, rfl⟩
    have HF2 := HFI.out
    rw [hM] at HF2 uY uZ uB uF v0 v1 ⊢
    have UF := Lib.hid uF
    have HFF := Lib.hid HF2
    clear hL hb5 ho5 uY uF HF2 hM HFI
    have z' := uZ
    have y0 := z'.cell (i := 0) rfl
    have y1 := z'.cell (i := 1) rfl
    have s0 := z'.free 0
    have s1 := z'.free 1
    have hz := (z'.put 0 (.int .i64 room)).put 1 (.slice (some ⟨g, 0, none⟩) M.length cv)
    have z0 := Lib.hid (hz.cell (i := 0) rfl)
    have z1 := Lib.hid (hz.cell (i := 1) rfl)
    have hbz := ((uB).setCell (p := ⟨w.heap.size + 1 + 1, 0, none⟩) (by show w.heap.size ≤ w.heap.size + 1 + 1; omega) (.int .i64 room)).setCell (p := ⟨w.heap.size + 1 + 1, 1, none⟩) (by show w.heap.size ≤ w.heap.size + 1 + 1; omega) (.slice (some ⟨g, 0, none⟩) M.length cv)
    have FIN := Lib.hid (show GivesDO (room, (L.map Fc.fi).filter (fun f => !decide (f.1 = n)), 0) w (.returned (.tuple #[.agg #[.int .i64 room, .slice (some ⟨g, 0, none⟩) M.length cv], .int .i64 0])) _ from ⟨_, _, M, rfl, UF.out _ rfl, HFF.out, hbz⟩)
    clear z' hz hbz uZ uB
    go_wp2
    have z0 := z0.out
    have z1 := z1.out
    exact bodyPost_ret (v := .tuple #[.agg #[.int .i64 room, .slice (some ⟨g, 0, none⟩) M.length cv], .int .i64 0]) (by simp [results, Try.results21, go_sem, z0, z1]) rfl FIN.out
end Go.Proofs.Ytgjcpdcepmgafaa
