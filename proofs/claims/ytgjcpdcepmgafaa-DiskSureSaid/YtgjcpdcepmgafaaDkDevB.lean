/-
  What disk's file, Get, Cut answer.
-/
import Derived.Test.YtgjcpdcepmgafaaDkDevA
namespace Go.Proofs.Ytgjcpdcepmgafaa
open Go.RowKit

/-- What file answers. -/
def FileIs (room n : Int) (L : List Fc) (x : Fc) (k : Int) : Prop :=
  (Dk.fmd room (L.map Fc.fi) = false ∧ x = Fc.zero ∧ k = 1) ∨ (Dk.fmd room (L.map Fc.fi) = true ∧ ∃ at_, Dk.Low L n at_ false ∧ x = Fc.zero ∧ k = 16) ∨ (Dk.fmd room (L.map Fc.fi) = true ∧ ∃ at_, Dk.Low L n at_ true ∧ L[at_]? = some x ∧ k = 0)
def fileV (x : Fc) (k : Int) : Value := .tuple #[.agg #[.int .i64 x.num, .slice x.X x.l.length x.c, .int .i64 x.s], .int .i64 k]

set_option maxRecDepth 100000 in
set_option maxHeartbeats 3200000 in
theorem dfile_any (room n : Int) (A : Option Addr) (c : Nat) (L : List Fc) (x : Fc) (k : Int) (w : World) (h : OneD w A c L) (hx : FileIs room n L x k) :
    Calls Try.prog 35 #[.agg #[.int .i64 room, .slice A L.length c], .int .i64 n] w (Says (fileV x k) w) := by
  have bn := below_new (below_new (Below.refl w.heap.size w) (.cells #[.int .i64 room, .slice A L.length c] 24)) (.cells #[.int .i64 0, .slice none 0 0, .int .i64 0] 43)
  have N := Lib.hid (dformed_any room A c L _ (h.later bn))
  have B0 := Lib.hid ((Blk.new w 24 #[.int .i64 room, .slice A L.length c]).alloc (.cells #[.int .i64 0, .slice none 0 0, .int .i64 0] 43))
  have B1 := Lib.hid (show Blk _ (w.heap.size + 1) 43 #[.int .i64 0, .slice none 0 0, .int .i64 0] from by simpa using Blk.new (w.alloc (.cells #[.int .i64 room, .slice A L.length c] 24)) 43 #[.int .i64 0, .slice none 0 0, .int .i64 0])
  have HD := Lib.hid h
  clear h
  unfold fileV
  rcases hx with ⟨hq, rfl, rfl⟩ | ⟨hq, at_, hl, rfl, rfl⟩ | ⟨hq, at_, hl, hx, rfl⟩
  · rw [hq] at N
    unfold Fc.zero
    dsimp only
    clear hq HD B0
    go_enter Try.func35, Try.ntmps35
    go_wp2_with fail
    refine N.out.mono ?_
    rintro e w1 ⟨rfl, b1⟩
    have z' := B1.out.later b1
    have y0 := z'.cell (i := 0) rfl
    have y1 := z'.cell (i := 1) rfl
    have y2 := z'.cell (i := 2) rfl
    have s0 := z'.free 0
    have s1 := z'.free 1
    have s2 := z'.free 2
    have hz := ((z'.put 0 (.int .i64 0)).put 1 (.slice none 0 0)).put 2 (.int .i64 0)
    have z0 := Lib.hid (hz.cell (i := 0) rfl)
    have z1 := Lib.hid (hz.cell (i := 1) rfl)
    have z2 := Lib.hid (hz.cell (i := 2) rfl)
    have FIN := Lib.hid ((((below_on bn b1).setCell (p := ⟨w.heap.size + 1, 0, none⟩) (by show w.heap.size ≤ w.heap.size + 1; omega) (.int .i64 0)).setCell (p := ⟨w.heap.size + 1, 1, none⟩) (by show w.heap.size ≤ w.heap.size + 1; omega) (.slice none 0 0)).setCell (p := ⟨w.heap.size + 1, 2, none⟩) (by show w.heap.size ≤ w.heap.size + 1; omega) (.int .i64 0))
    clear z' hz 
    go_wp2
    have z0 := z0.out
    have z1 := z1.out
    have z2 := z2.out
    exact bodyPost_ret (v := .tuple #[.agg #[.int .i64 0, .slice none 0 0, .int .i64 0], .int .i64 1]) (by simp [results, Try.results35, go_sem, z0, z1, z2]) rfl ⟨rfl, FIN.out⟩
  · rw [hq] at N
    have hlen := Dk.len_le hq
    have HL := Lib.hid hl
    clear hq hl
    go_enter Try.func35, Try.ntmps35
    go_wp2_with fail
    refine N.out.mono ?_
    rintro e w1 ⟨rfl, b1⟩
    have bb := below_on bn b1
    have c0 := (B0.out.later b1).cell (i := 0) rfl
    have c1 := (B0.out.later b1).cell (i := 1) rfl
    have N2 := Lib.hid (dplace_any room n A c L at_ _ w1 (HD.out.later bb) (by omega) HL.out)
    go_wp2_with fail
    refine N2.out.mono ?_
    rintro e w2 ⟨rfl, b2⟩
    unfold Fc.zero
    dsimp only
    have z' := (B1.out.later b1).later b2
    have y0 := z'.cell (i := 0) rfl
    have y1 := z'.cell (i := 1) rfl
    have y2 := z'.cell (i := 2) rfl
    have s0 := z'.free 0
    have s1 := z'.free 1
    have s2 := z'.free 2
    have hz := ((z'.put 0 (.int .i64 0)).put 1 (.slice none 0 0)).put 2 (.int .i64 0)
    have z0 := Lib.hid (hz.cell (i := 0) rfl)
    have z1 := Lib.hid (hz.cell (i := 1) rfl)
    have z2 := Lib.hid (hz.cell (i := 2) rfl)
    have FIN := Lib.hid ((((below_on bb b2).setCell (p := ⟨w.heap.size + 1, 0, none⟩) (by show w.heap.size ≤ w.heap.size + 1; omega) (.int .i64 0)).setCell (p := ⟨w.heap.size + 1, 1, none⟩) (by show w.heap.size ≤ w.heap.size + 1; omega) (.slice none 0 0)).setCell (p := ⟨w.heap.size + 1, 2, none⟩) (by show w.heap.size ≤ w.heap.size + 1; omega) (.int .i64 0))
    clear z' hz 
    go_wp2
    have z0 := z0.out
    have z1 := z1.out
    have z2 := z2.out
    exact bodyPost_ret (v := .tuple #[.agg #[.int .i64 0, .slice none 0 0, .int .i64 0], .int .i64 16]) (by simp [results, Try.results35, go_sem, z0, z1, z2]) rfl ⟨rfl, FIN.out⟩
  · have HX := Lib.hid hx
    clear hx
    rw [hq] at N
    have hlen := Dk.len_le hq
    have HL := Lib.hid hl
    clear hq hl
    go_enter Try.func35, Try.ntmps35
    go_wp2_with fail
    refine N.out.mono ?_
    rintro e w1 ⟨rfl, b1⟩
    have bb := below_on bn b1
    have c0 := (B0.out.later b1).cell (i := 0) rfl
    have c1 := (B0.out.later b1).cell (i := 1) rfl
    have N2 := Lib.hid (dplace_any room n A c L at_ _ w1 (HD.out.later bb) (by omega) HL.out)
    go_wp2_with fail
    refine N2.out.mono ?_
    rintro e w2 ⟨rfl, b2⟩
    have c1' := cell_later b2 c1
    have hat := HL.out.le
    have hlt := (List.getElem?_eq_some_iff.1 HX.out).1
    have hne : L ≠ [] := fun e => by subst e; simp at hlt
    obtain ⟨b, off, hA, hc⟩ := (HD.out.later (below_on bb b2)).at hne
    obtain ⟨e0, e1, e2⟩ := hc at_ x HX.out
    subst hA
    have hi0 : (0 : Int) ≤ (at_ : Int) := by omega
    have hi1 : (at_ : Int) < (L.length : Int) := by omega
    obtain ⟨num, X, cx, l, sr⟩ := x
    dsimp only at e0 e1 e2 ⊢
    clear hc hne c0 c1
    have z' := (B1.out.later b1).later b2
    have y0 := z'.cell (i := 0) rfl
    have y1 := z'.cell (i := 1) rfl
    have y2 := z'.cell (i := 2) rfl
    have s0 := z'.free 0
    have s1 := z'.free 1
    have s2 := z'.free 2
    have hz := ((z'.put 0 (.int .i64 num)).put 1 (.slice X l.length cx)).put 2 (.int .i64 sr)
    have z0 := Lib.hid (hz.cell (i := 0) rfl)
    have z1 := Lib.hid (hz.cell (i := 1) rfl)
    have z2 := Lib.hid (hz.cell (i := 2) rfl)
    have FIN := Lib.hid ((((below_on bb b2).setCell (p := ⟨w.heap.size + 1, 0, none⟩) (by show w.heap.size ≤ w.heap.size + 1; omega) (.int .i64 num)).setCell (p := ⟨w.heap.size + 1, 1, none⟩) (by show w.heap.size ≤ w.heap.size + 1; omega) (.slice X l.length cx)).setCell (p := ⟨w.heap.size + 1, 2, none⟩) (by show w.heap.size ≤ w.heap.size + 1; omega) (.int .i64 sr))
    clear z' hz 
    go_wp2
    have z0 := z0.out
    have z1 := z1.out
    have z2 := z2.out
    exact bodyPost_ret (v := .tuple #[.agg #[.int .i64 num, .slice X l.length cx, .int .i64 sr], .int .i64 0]) (by simp [results, Try.results35, go_sem, z0, z1, z2]) rfl ⟨rfl, FIN.out⟩

/-- Bytes and an error are answered, in memory of the call's own. -/
def GivesG (r : List Int × Int) (w : World) (e : Ending) (w' : World) : Prop :=
  ∃ v, e = .returned (.tuple #[v, .int .i64 r.2]) ∧ w'.ownsRow w.heap.size 5 1 v r.1.length (bCells r.1) ∧ (∀ x ∈ r.1, isB x) ∧ Below w.heap.size w w'
namespace Dk
theorem file_ways (room n : Int) (L : List Fc) : ∃ x k, FileIs room n L x k ∧ ((k = 1 ∧ fmd room (L.map Fc.fi) = false) ∨ (k = 16 ∧ fmd room (L.map Fc.fi) = true ∧ fnd n (L.map Fc.fi) = none) ∨ (k = 0 ∧ fmd room (L.map Fc.fi) = true ∧ fnd n (L.map Fc.fi) = some x.fi ∧ x ∈ L ∧ x.num = n)) := by
  cases hq : fmd room (L.map Fc.fi) with
  | false => exact ⟨Fc.zero, 1, .inl ⟨hq, rfl, rfl⟩, .inl ⟨rfl, rfl⟩⟩
  | true =>
    rcases ways n hq with ⟨at_, h1, h2, -⟩ | ⟨at_, x, h1, h2, h3, h4, -⟩
    · exact ⟨Fc.zero, 16, .inr (.inl ⟨hq, at_, h1, rfl, rfl⟩), .inr (.inl ⟨rfl, rfl, h2⟩)⟩
    · exact ⟨x, 0, .inr (.inr ⟨hq, at_, h1, h2, rfl⟩), .inr (.inr ⟨rfl, rfl, h4, List.mem_of_getElem? h2, h3⟩)⟩
end Dk

set_option maxRecDepth 100000 in
set_option maxHeartbeats 3200000 in
theorem dget_any (room n : Int) (A : Option Addr) (c : Nat) (L : List Fc) (w : World) (h : OneD w A c L) :
    Calls Try.prog 17 #[.agg #[.int .i64 room, .slice A L.length c], .int .i64 n] w (GivesG (Dk.getR room (L.map Fc.fi) n) w) := by
  have bn := below_new (Below.refl w.heap.size w) (.cells #[.int .i64 room, .slice A L.length c] 24)
  obtain ⟨x, k, hF, hw⟩ := Dk.file_ways room n L
  have n1 := dfile_any room n A c L x k _ (h.later bn) hF
  unfold fileV at n1
  have N := Lib.hid n1
  have HD := Lib.hid h
  clear h hF n1
  rcases hw with ⟨rfl, hq⟩ | ⟨rfl, hq, hf⟩ | ⟨rfl, hq, hf, hm, -⟩
  · have hR : Dk.getR room (L.map Fc.fi) n = ([], 1) := by unfold Dk.getR; rw [if_neg (by rw [hq]; exact Bool.false_ne_true)]
    rw [hR]
    clear hq hR HD
    go_enter Try.func17, Try.ntmps17
    go_wp2_with fail
    refine N.out.mono ?_
    rintro e w1 ⟨rfl, b1⟩
    go_wp2
    go_ret2
    exact ⟨_, rfl, ⟨rfl, .inl ⟨rfl, rfl⟩⟩, (fun _ h => by cases h), below_new (below_on bn b1) _⟩
  · have hR : Dk.getR room (L.map Fc.fi) n = ([], 16) := by unfold Dk.getR; rw [if_pos hq, hf]
    rw [hR]
    clear hq hf hR HD
    go_enter Try.func17, Try.ntmps17
    go_wp2_with fail
    refine N.out.mono ?_
    rintro e w1 ⟨rfl, b1⟩
    go_wp2
    go_ret2
    exact ⟨_, rfl, ⟨rfl, .inl ⟨rfl, rfl⟩⟩, (fun _ h => by cases h), below_new (below_on bn b1) _⟩
  · have hR : Dk.getR room (L.map Fc.fi) n = (x.l, 0) := by unfold Dk.getR; rw [if_pos hq, hf]; rfl
    rw [hR]
    have hfit := (Dk.fit hq).each x hm
    have HX := Lib.hid (HD.out.each x hm)
    clear hq hf hR hm
    go_enter Try.func17, Try.ntmps17
    go_wp2_with fail
    refine N.out.mono ?_
    rintro e w1 ⟨rfl, b1⟩
    have bb := below_new (below_on bn b1) (.cells #[.int .i64 x.num, .slice x.X x.l.length x.c, .int .i64 x.s] 43)
    have N2 := Lib.hid (cloneB_any x.X x.c x.l _ hfit (HX.out.later bb))
    have hs := bb.size
    go_wp2_with fail
    refine N2.out.mono ?_
    rintro e w2 ⟨v, rfl, ho, b2⟩
    have HO := Lib.hid (own_base ho hs)
    clear ho
    go_wp2
    go_ret2
    exact ⟨_, rfl, HO.out, HX.out.byte, below_on bb b2⟩
end Go.Proofs.Ytgjcpdcepmgafaa
