/-
  What disk's file, Get, Cut answer.
  What disk's Cut answers.
  What disk's withFile answers.
  What becomes of a disk's files in a crash, as plain mathematics, and the change that disk's Crash makes of each.
-/
import Derived.Test.YtkhggofcbdcliaaDoorG10
import Derived.Test.YtkhggofcbdcliaaDoorG08
namespace Go.Proofs.YtkhggofcbdcliaaDoor
open Go.RowKit

/-- What file answers. -/
def FileIs (room n : Int) (L : List Fc) (x : Fc) (k : Int) : Prop :=
  (Dk.fmd room (L.map Fc.fi) = false ∧ x = Fc.zero ∧ k = 1) ∨ (Dk.fmd room (L.map Fc.fi) = true ∧ ∃ at_, Dk.Low L n at_ false ∧ x = Fc.zero ∧ k = 16) ∨ (Dk.fmd room (L.map Fc.fi) = true ∧ ∃ at_, Dk.Low L n at_ true ∧ L[at_]? = some x ∧ k = 0)
def fileV (x : Fc) (k : Int) : Value := .tuple #[.agg #[.int .i64 x.num, .slice x.X x.l.length x.c, .int .i64 x.s], .int .i64 k]

/-- Bytes and an error are answered, in memory of the call's own. -/
def GivesG (r : List Int × Int) (w : World) (e : Ending) (w' : World) : Prop :=
  ∃ v, e = .returned (.tuple #[v, .int .i64 r.2]) ∧ w'.ownsRow w.heap.size 5 1 v r.1.length (bCells r.1) ∧ (∀ x ∈ r.1, isB x) ∧ Below w.heap.size w w'
namespace Dk
theorem file_ways (room n : Int) (L : List Fc) : ∃ x k, FileIs room n L x k ∧ ((k = 1 ∧ fmd room (L.map Fc.fi) = false) ∨ (k = 16 ∧ fmd room (L.map Fc.fi) = true ∧ fnd n (L.map Fc.fi) = none) ∨ (k = 0 ∧ fmd room (L.map Fc.fi) = true ∧ fnd n (L.map Fc.fi) = some x.fi ∧ x ∈ L ∧ x.num = n)) := by
  cases hq : fmd room (L.map Fc.fi) with
  | false => exact ⟨Fc.zero, 1, .inl ⟨hq, rfl, rfl⟩, .inl ⟨rfl, rfl⟩⟩
  | true =>
    rcases ways n hq with ⟨at_, h1, h2, -⟩ | ⟨at_, x, h1, h2, h3, h4, -⟩
    · exact ⟨Fc.zero, 16, .inr (.inl ⟨hq, at_, h1, rfl, rfl⟩), .inr (.inl ⟨rfl, rfl, h2⟩)⟩
    · exact ⟨x, 0, .inr (.inr ⟨hq, at_, h1, h2, rfl⟩), .inr (.inr ⟨rfl, rfl, h4, List.mem_of_getElem? h2, h3⟩)⟩
end Dk

end Go.Proofs.YtkhggofcbdcliaaDoor
namespace Go.Proofs.YtkhggofcbdcliaaDoor
open Go.RowKit

theorem donly_any (n : Int) (fn : Nat) (lb : Array Value) (W : World) :
    Calls Tryd.prog 49 #[.int .i64 n, .func (.func fn) #[] lb] W fun e w' => e = .returned (.func (.func 63) #[] #[.pointer (some ⟨W.heap.size, 0, none⟩), .pointer (some ⟨W.heap.size + 1, 0, none⟩)]) ∧ Blk w' W.heap.size 3 #[.int .i64 n] ∧ Blk w' (W.heap.size + 1) 64 #[.func (.func fn) #[] lb] ∧ Below W.heap.size W w' ∧ w'.heap.size = W.heap.size + 2 := by
  have FIN := Lib.hid (show Blk ((W.alloc (.cells #[.int .i64 n] 3)).alloc (.cells #[.func (.func fn) #[] lb] 64)) W.heap.size 3 #[.int .i64 n] ∧ Blk ((W.alloc (.cells #[.int .i64 n] 3)).alloc (.cells #[.func (.func fn) #[] lb] 64)) (W.heap.size + 1) 64 #[.func (.func fn) #[] lb] ∧ Below W.heap.size W ((W.alloc (.cells #[.int .i64 n] 3)).alloc (.cells #[.func (.func fn) #[] lb] 64)) ∧ ((W.alloc (.cells #[.int .i64 n] 3)).alloc (.cells #[.func (.func fn) #[] lb] 64)).heap.size = W.heap.size + 2 from
    ⟨(Blk.new W _ _).alloc _, by simpa using Blk.new (W.alloc (.cells #[.int .i64 n] 3)) 64 #[.func (.func fn) #[] lb], below_new (below_new (Below.refl _ _) _) _, by simp⟩)
  go_enter Tryd.func49, Tryd.ntmps49
  go_wp2
  go_ret
  exact ⟨rfl, FIN.out⟩

end Go.Proofs.YtkhggofcbdcliaaDoor
namespace Go.Proofs.YtkhggofcbdcliaaDoor
open Go.RowKit

/-- A disk is answered; what was there before is as it was. -/
def GivesO (room : Int) (fs : List Fi) (w : World) (e : Ending) (w' : World) : Prop :=
  ∃ A c L, e = .returned (.agg #[.int .i64 room, .slice A (List.length L) c]) ∧ OneD w' A c L ∧ L.map Fc.fi = fs ∧ Below w.heap.size w w'
theorem lies_take {w : World} {A : Option Addr} {c : Nat} {L : List Fc} (h : OneD w A c L) (k : Nat) : Lies w A (fCells (L.take k)) := fun hne => by
  have hne2 : fCells L ≠ [] := fun e => hne (by rw [fCells_nil] at e; rw [e]; simp [fCells])
  obtain ⟨b, off, hA, hc⟩ := h.lies hne2
  refine ⟨b, off, hA, fun j u hu => hc j u ?_⟩
  rw [fCells_take, List.getElem?_take] at hu
  split at hu
  · exact hu
  · cases hu
theorem lies_drop {w : World} {a : Addr} {c : Nat} {L : List Fc} (h : OneD w (some a) c L) (k : Nat) : Lies w (some (a.add (k * 3))) (fCells (L.drop k)) := fun hne => by
  have hne2 : fCells L ≠ [] := fun e => hne (by rw [fCells_nil] at e; rw [e]; simp [fCells])
  obtain ⟨b, off, hA, hc⟩ := h.lies hne2
  injection hA with hA
  subst hA
  refine ⟨b, off + k * 3, by rw [Go.WideShapes.add_plain], fun j u hu => ?_⟩
  rw [fCells_drop, List.getElem?_drop] at hu
  have := hc (k * 3 + j) u hu
  rw [← Nat.add_assoc] at this
  exact this
theorem filter_low {n : Int} {L : List Fc} {at_ : Nat} {th : Bool} (h : Dk.Low L n at_ th) (hth : th = false) : (L.map Fc.fi).filter (fun f => decide (f.1 < n)) = (L.take at_).map Fc.fi ∧ (L.map Fc.fi).filter (fun f => decide (n < f.1)) = (L.drop at_).map Fc.fi := by
  have h1 : ∀ f ∈ (L.take at_).map Fc.fi, f.1 < n := fun f hf => by
    obtain ⟨x, hx, rfl⟩ := List.mem_map.1 hf
    obtain ⟨i, hi⟩ := List.getElem?_of_mem hx
    have hlt := (List.getElem?_eq_some_iff.1 hi).1
    rw [List.length_take] at hlt
    rw [List.getElem?_take_of_lt (by omega)] at hi
    exact h.lo i x (by omega) hi
  have h2 : ∀ f ∈ (L.drop at_).map Fc.fi, n < f.1 := fun f hf => by
    obtain ⟨x, hx, rfl⟩ := List.mem_map.1 hf
    obtain ⟨i, hi⟩ := List.getElem?_of_mem hx
    rw [List.getElem?_drop] at hi
    exact h.not hth (at_ + i) x (by omega) hi
  have hs : L.map Fc.fi = (L.take at_).map Fc.fi ++ (L.drop at_).map Fc.fi := by rw [← List.map_append, List.take_append_drop]
  rw [hs, List.filter_append, List.filter_append]
  constructor
  · rw [List.filter_eq_self.2 (fun f hf => decide_eq_true (h1 f hf)), List.filter_eq_nil_iff.2 (fun f hf => by have := h2 f hf; simp; omega), List.append_nil]
  · rw [List.filter_eq_nil_iff.2 (fun f hf => by have := h1 f hf; simp; omega), List.filter_eq_self.2 (fun f hf => decide_eq_true (h2 f hf)), List.nil_append]

set_option maxRecDepth 100000 in
set_option maxHeartbeats 3200000 in
theorem withFile_any (room n : Int) (A : Option Addr) (c : Nat) (L : List Fc) (w : World) (h : OneD w A c L) (hq : Dk.fmd room (L.map Fc.fi) = true) :
    Calls Tryd.prog 48 #[.agg #[.int .i64 room, .slice A L.length c], .int .i64 n] w (GivesO room (Dk.ins (L.map Fc.fi) n) w) := by
  have bn := below_new (below_new (Below.refl w.heap.size w) (.cells #[.int .i64 room, .slice A L.length c] 24)) (.cells #[.int .i64 0, .slice none 0 0] 24)
  have B0 := Lib.hid ((Blk.new w 24 #[.int .i64 room, .slice A L.length c]).alloc (.cells #[.int .i64 0, .slice none 0 0] 24))
  have B1 := Lib.hid (show Blk _ (w.heap.size + 1) 24 #[.int .i64 0, .slice none 0 0] from by simpa using Blk.new (w.alloc (.cells #[.int .i64 room, .slice A L.length c] 24)) 24 #[.int .i64 0, .slice none 0 0])
  have hlen := Dk.len_le hq
  have HD := Lib.hid h
  obtain ⟨at_, th, hl⟩ := Dk.low_of n L (Dk.fmd_facts hq).up
  have N := Lib.hid (dplace_any room n A c L at_ th _ (h.later bn) (by omega) hl)
  have hat := hl.le
  clear h hq
  cases th with
  | true =>
    obtain ⟨x, h1, h2, h3, -⟩ := Dk.fnd_some hl
    have hR : Dk.ins (L.map Fc.fi) n = L.map Fc.fi := by unfold Dk.ins; rw [h3]
    rw [hR]
    clear hl h1 h2 h3 hR
    go_enter Tryd.func48, Tryd.ntmps48
    go_wp2_with fail
    refine N.out.mono ?_
    rintro e w1 ⟨rfl, b1⟩
    have c0 := (B0.out.later b1).cell (i := 0) rfl
    have c1 := (B0.out.later b1).cell (i := 1) rfl
    have z := B1.out.later b1
    have y0 := z.cell (i := 0) rfl
    have y1 := z.cell (i := 1) rfl
    have s0 := z.free 0
    have s1 := z.free 1
    have hz := (z.put 0 (.int .i64 room)).put 1 (.slice A L.length c)
    have z0 := Lib.hid (hz.cell (i := 0) rfl)
    have z1 := Lib.hid (hz.cell (i := 1) rfl)
    have hbz := ((below_on bn b1).setCell (p := ⟨w.heap.size + 1, 0, none⟩) (by show w.heap.size ≤ w.heap.size + 1; omega) (.int .i64 room)).setCell (p := ⟨w.heap.size + 1, 1, none⟩) (by show w.heap.size ≤ w.heap.size + 1; omega) (.slice A L.length c)
    have FIN := Lib.hid (show GivesO room (L.map Fc.fi) w (.returned (.agg #[.int .i64 room, .slice A L.length c])) _ from ⟨A, c, L, rfl, HD.out.later hbz, rfl, hbz⟩)
    clear z hz hbz
    go_wp2
    have z0 := z0.out
    have z1 := z1.out
    exact bodyPost_ret (v := .agg #[.int .i64 room, .slice A L.length c]) (by simp [results, Tryd.results48, go_sem, z0, z1]) rfl FIN.out
  | false =>
    obtain ⟨h3, -⟩ := Dk.fnd_none hl
    obtain ⟨f1, f2⟩ := filter_low hl rfl
    have hR : Dk.ins (L.map Fc.fi) n = (L.take at_ ++ (⟨n, none, 0, [], 0⟩ : Fc) :: L.drop at_).map Fc.fi := by unfold Dk.ins; rw [h3, f1, f2, List.map_append, List.map_cons]; rfl
    rw [hR]
    clear hl h3 f1 f2 hR
    go_enter Tryd.func48, Tryd.ntmps48
    go_wp2_with fail
    refine N.out.mono ?_
    rintro e w1 ⟨rfl, b1⟩
    have bb := below_on bn b1
    have Z0 := B0.out.later b1
    have Z1 := B1.out.later b1
    have Z0H := Lib.hid Z0
    have c1 := Z0.cell (i := 1) rfl
    have s1 := Z0.free 1
    have hca := HD.out.le
    have hcm := HD.out.cap
    unfold maxLen at hcm
    have n3 : at_ ≤ c := by omega
    have i0 : (0 : Int) ≤ (at_ : Int) := by omega
    have i1 : (at_ : Int) ≤ (L.length : Int) := by omega
    have i2 : (at_ : Int) ≤ (c : Int) := by omega
    cases A with
    | none =>
      have hL0 : L.length = 0 := (HD.out.noA rfl).1
      have hc0 : c = 0 := (HD.out.noA rfl).2
      have hle : L.length ≤ 0 := by omega
      have hce : c ≤ 0 := by omega
      have HL0 := Lib.hid hL0
      have HC0 := Lib.hid hc0
      clear hL0 hc0
      have ba := below_new (below_new (Below.refl w1.heap.size w1) (.cells #[.int .i64 n, .slice none 0 0, .int .i64 0] 50)) (.cells #[.slice none at_ 0, .slice (some ⟨w1.heap.size, 0, none⟩) 1 1, .slice none (L.length - at_) (c - at_)] 22)
      have bd : Below w1.heap.size w1 ((w1.alloc (.cells #[.int .i64 n, .slice none 0 0, .int .i64 0] 50)).alloc (.cells #[.slice none at_ 0, .slice (some ⟨w1.heap.size, 0, none⟩) 1 1, .slice none (L.length - at_) (c - at_)] 22)).drew := ba.drew
      have hB3 : Blk ((w1.alloc (.cells #[.int .i64 n, .slice none 0 0, .int .i64 0] 50)).alloc (.cells #[.slice none at_ 0, .slice (some ⟨w1.heap.size, 0, none⟩) 1 1, .slice none (L.length - at_) (c - at_)] 22)).drew (w1.heap.size + 1) 22 #[.slice none at_ 0, .slice (some ⟨w1.heap.size, 0, none⟩) 1 1, .slice none (L.length - at_) (c - at_)] := by
        have := Blk.new (w1.alloc (.cells #[.int .i64 n, .slice none 0 0, .int .i64 0] 50)) 22 #[.slice none at_ 0, .slice (some ⟨w1.heap.size, 0, none⟩) 1 1, .slice none (L.length - at_) (c - at_)]
        have h2 : Blk ((w1.alloc (.cells #[.int .i64 n, .slice none 0 0, .int .i64 0] 50)).alloc (.cells #[.slice none at_ 0, .slice (some ⟨w1.heap.size, 0, none⟩) 1 1, .slice none (L.length - at_) (c - at_)] 22)) (w1.heap.size + 1) 22 #[.slice none at_ 0, .slice (some ⟨w1.heap.size, 0, none⟩) 1 1, .slice none (L.length - at_) (c - at_)] := by simpa using this
        exact h2.drew
      have hB1 : Blk ((w1.alloc (.cells #[.int .i64 n, .slice none 0 0, .int .i64 0] 50)).alloc (.cells #[.slice none at_ 0, .slice (some ⟨w1.heap.size, 0, none⟩) 1 1, .slice none (L.length - at_) (c - at_)] 22)).drew w1.heap.size 50 #[.int .i64 n, .slice none 0 0, .int .i64 0] := ((Blk.new w1 50 #[.int .i64 n, .slice none 0 0, .int .i64 0]).alloc _).drew
      have hD := HD.out.later (below_on bb bd)
      have l1 : Lies ((w1.alloc (.cells #[.int .i64 n, .slice none 0 0, .int .i64 0] 50)).alloc (.cells #[.slice none at_ 0, .slice (some ⟨w1.heap.size, 0, none⟩) 1 1, .slice none (L.length - at_) (c - at_)] 22)).drew none (fCells (L.take at_)) := lies_take hD at_
      have l2 : Lies ((w1.alloc (.cells #[.int .i64 n, .slice none 0 0, .int .i64 0] 50)).alloc (.cells #[.slice none at_ 0, .slice (some ⟨w1.heap.size, 0, none⟩) 1 1, .slice none (L.length - at_) (c - at_)] 22)).drew (some ⟨w1.heap.size, 0, none⟩) (fCells [(⟨n, none, 0, [], 0⟩ : Fc)]) := fun _ => ⟨w1.heap.size, 0, rfl, fun j u hu => by rw [Nat.zero_add]; exact hB1.cell (by simpa [fCells] using hu)⟩
      have l3 : Lies ((w1.alloc (.cells #[.int .i64 n, .slice none 0 0, .int .i64 0] 50)).alloc (.cells #[.slice none at_ 0, .slice (some ⟨w1.heap.size, 0, none⟩) 1 1, .slice none (L.length - at_) (c - at_)] 22)).drew none (fCells (L.drop at_)) := (by rw [List.drop_of_length_le (by omega)]; exact Lies.nil)
      have CC := Lib.hid (concatF_any (w1.heap.size + 1) none (some ⟨w1.heap.size, 0, none⟩) none 0 1 (c - at_) at_ 1 (L.length - at_) (fCells (L.take at_)) (fCells [(⟨n, none, 0, [], 0⟩ : Fc)]) (fCells (L.drop at_)) _ hB3 (fun _ => by omega) (fun h => by cases h) (fun _ => by omega) (by rw [fCells_length, List.length_take]; omega) rfl (by rw [fCells_length, List.length_drop]; first | done | omega) (fCells_one _) (fCells_one _) (fCells_one _) l1 l2 l3 (by omega))
      have FINS := Lib.hid (fun (w5 : World) (V : Option Addr) (cv : Nat) (hb : Below (((w1.alloc (.cells #[.int .i64 n, .slice none 0 0, .int .i64 0] 50)).alloc (.cells #[.slice none at_ 0, .slice (some ⟨w1.heap.size, 0, none⟩) 1 1, .slice none (L.length - at_) (c - at_)] 22)).drew).heap.size (((w1.alloc (.cells #[.int .i64 n, .slice none 0 0, .int .i64 0] 50)).alloc (.cells #[.slice none at_ 0, .slice (some ⟨w1.heap.size, 0, none⟩) 1 1, .slice none (L.length - at_) (c - at_)] 22)).drew) w5) (ho : w5.ownsRow (((w1.alloc (.cells #[.int .i64 n, .slice none 0 0, .int .i64 0] 50)).alloc (.cells #[.slice none at_ 0, .slice (some ⟨w1.heap.size, 0, none⟩) 1 1, .slice none (L.length - at_) (c - at_)] 22)).drew).heap.size 50 3 (.slice V (at_ + 1 + (L.length - at_)) cv) (at_ + 1 + (L.length - at_)) (fCells (L.take at_) ++ fCells [(⟨n, none, 0, [], 0⟩ : Fc)] ++ fCells (L.drop at_))) =>
        (show (w5.cell? ⟨w.heap.size, 1, none⟩ = some (.slice none L.length c) ∧ w5.frozen? ⟨w.heap.size, 1, none⟩ = false) ∧ ∀ W, W = w5.setCell ⟨w.heap.size, 1, none⟩ (.slice V (at_ + 1 + (L.length - at_)) cv) → Blk W w.heap.size 24 #[.int .i64 room, .slice V (at_ + 1 + (L.length - at_)) cv] ∧ Blk W (w.heap.size + 1) 24 #[.int .i64 0, .slice none 0 0] ∧ Below w.heap.size w W ∧ (∀ W', Below w.heap.size W W' → (∀ k, w.heap.size + 2 ≤ k → W'.heap[k]? = W.heap[k]?) → OneD W' V cv (L.take at_ ++ (⟨n, none, 0, [], 0⟩ : Fc) :: L.drop at_)) from by
          have z5 := (Z0.later bd).later hb
          have y5 := (Z1.later bd).later hb
          refine ⟨⟨z5.cell (i := 1) rfl, z5.free 1⟩, fun W hW => ?_⟩
          have b5 := below_on (below_on bb bd) hb
          have hbW : Below w.heap.size w W := by rw [hW]; exact b5.setCell (p := ⟨w.heap.size, 1, none⟩) (Nat.le_refl _) _
          refine ⟨by rw [hW]; exact z5.put 1 _, by rw [hW]; exact y5.far (by show w.heap.size + 1 ≠ w.heap.size; omega) _, hbW, fun W' hb' hhi => ?_⟩
          have hl : L.take at_ ++ (⟨n, none, 0, [], 0⟩ : Fc) :: L.drop at_ = L.take at_ ++ [(⟨n, none, 0, [], 0⟩ : Fc)] ++ L.drop at_ := by simp
          have hbl := hbW.trans hb'
          obtain ⟨A', c', hv, h1, h2, h3, -⟩ := own_form ho
          injection hv with hv1 hv2 hv3
          subst hv1 hv3
          have hnn : (L.take at_ ++ (⟨n, none, 0, [], 0⟩ : Fc) :: L.drop at_).length = at_ + 1 + (L.length - at_) := by rw [List.length_append, List.length_cons, List.length_take, List.length_drop]; omega
          refine ⟨by rw [hnn]; exact h1, h2, (fun h => by rw [hnn]; exact h3 h), ?_, fun f hf => ?_⟩
          · have hown : W'.ownsRow (((w1.alloc (.cells #[.int .i64 n, .slice none 0 0, .int .i64 0] 50)).alloc (.cells #[.slice none at_ 0, .slice (some ⟨w1.heap.size, 0, none⟩) 1 1, .slice none (L.length - at_) (c - at_)] 22)).drew).heap.size 50 3 (.slice V (at_ + 1 + (L.length - at_)) cv) (at_ + 1 + (L.length - at_)) (fCells (L.take at_) ++ fCells [(⟨n, none, 0, [], 0⟩ : Fc)] ++ fCells (L.drop at_)) := own_stays ho (fun k hk => by
              have hk1 := own_ge ho k hk
              have hk2 : w.heap.size + 2 ≤ k := by
                have q1 := Z1.lt
                have q2 := bd.size
                omega
              rw [hhi k hk2, hW]
              exact Below.heap_setCell _ _ _ _ (by show k ≠ w.heap.size; omega))
            obtain ⟨A', c', hv, -, -, -, h5⟩ := own_form hown
            injection hv with hv1 hv2 hv3
            subst hv1
            rw [hl, fCells_append, fCells_append]
            exact h5
          · rcases List.mem_append.1 hf with hf | hf
            · exact (HD.out.each f (List.mem_of_mem_take hf)).later hbl
            · rcases List.mem_cons.1 hf with rfl | hf
              · exact ⟨Nat.le_refl _, Nat.zero_le _, fun _ => ⟨rfl, rfl⟩, Lies.nil, fun _ h => by cases h⟩
              · exact (HD.out.each f (List.mem_of_mem_drop hf)).later hbl))
      have a1 := below_new (Below.refl w1.heap.size w1) (.cells #[.int .i64 n, .slice none 0 0, .int .i64 0] 50)
      have r1 := cell_later a1 c1
      clear l1 l2 l3 hB1 hB3 hD ba bd Z0 Z1 a1
      go_wp2_with fail
      go_region_with (go_at_call 62; refine CC.out.mono ?_; rintro e w5 ⟨v, rfl, ho, b5⟩; obtain ⟨V, cv, rfl, -, -, -, -⟩ := own_form ho; have ff := FINS.out w5 V cv b5 ho; have u1 := ff.1.1; have u2 := ff.1.2; have FF := Lib.hid ff.2; clear ff ho)
      all_goals
        obtain ⟨uZ, uY, uB, uO⟩ := FF.out _ rfl
        have c0' := uZ.cell (i := 0) rfl
        have c1' := uZ.cell (i := 1) rfl
        have y0 := uY.cell (i := 0) rfl
        have y1 := uY.cell (i := 1) rfl
        have s0 := uY.free 0
        have s1' := uY.free 1
        have hz := (uY.put 0 (.int .i64 room)).put 1 (.slice V (at_ + 1 + (L.length - at_)) cv)
        have z0 := Lib.hid (hz.cell (i := 0) rfl)
        have z1 := Lib.hid (hz.cell (i := 1) rfl)
        have hbs := ((Below.refl w.heap.size (w5.setCell ⟨w.heap.size, 1, none⟩ (.slice V (at_ + 1 + (L.length - at_)) cv))).setCell (p := ⟨w.heap.size + 1, 0, none⟩) (by show w.heap.size ≤ w.heap.size + 1; omega) (.int .i64 room)).setCell (p := ⟨w.heap.size + 1, 1, none⟩) (by show w.heap.size ≤ w.heap.size + 1; omega) (.slice V (at_ + 1 + (L.length - at_)) cv)
        have hnn : (L.take at_ ++ (⟨n, none, 0, [], 0⟩ : Fc) :: L.drop at_).length = at_ + 1 + (L.length - at_) := by rw [List.length_append, List.length_cons, List.length_take, List.length_drop]; omega
        have FIN := Lib.hid (show GivesO room ((L.take at_ ++ (⟨n, none, 0, [], 0⟩ : Fc) :: L.drop at_).map Fc.fi) w (.returned (.agg #[.int .i64 room, .slice V (at_ + 1 + (L.length - at_)) cv])) _ from ⟨V, cv, _, by rw [hnn], uO _ hbs (fun k hk => (Below.heap_setCell _ _ _ _ (by show k ≠ w.heap.size + 1; omega)).trans (Below.heap_setCell _ _ _ _ (by show k ≠ w.heap.size + 1; omega))), rfl, uB.trans hbs⟩)
        clear uZ uY uB uO hz hbs hnn FF FINS CC
        go_wp2
        have z0 := z0.out
        have z1 := z1.out
        exact bodyPost_ret (v := .agg #[.int .i64 room, .slice V (at_ + 1 + (L.length - at_)) cv]) (by simp [results, Tryd.results48, go_sem, z0, z1]) rfl FIN.out
    | some ad =>
      by_cases hcc : at_ = c
      · subst hcc
        have hLc1 : L.length ≤ at_ := by omega
        clear i2 n3 hca
        have ba := below_new (below_new (Below.refl w1.heap.size w1) (.cells #[.int .i64 n, .slice none 0 0, .int .i64 0] 50)) (.cells #[.slice (some ad) at_ at_, .slice (some ⟨w1.heap.size, 0, none⟩) 1 1, .slice (some ad) 0 0] 22)
        have bd : Below w1.heap.size w1 ((w1.alloc (.cells #[.int .i64 n, .slice none 0 0, .int .i64 0] 50)).alloc (.cells #[.slice (some ad) at_ at_, .slice (some ⟨w1.heap.size, 0, none⟩) 1 1, .slice (some ad) 0 0] 22)).drew := ba.drew
        have hB3 : Blk ((w1.alloc (.cells #[.int .i64 n, .slice none 0 0, .int .i64 0] 50)).alloc (.cells #[.slice (some ad) at_ at_, .slice (some ⟨w1.heap.size, 0, none⟩) 1 1, .slice (some ad) 0 0] 22)).drew (w1.heap.size + 1) 22 #[.slice (some ad) at_ at_, .slice (some ⟨w1.heap.size, 0, none⟩) 1 1, .slice (some ad) 0 0] := by
          have := Blk.new (w1.alloc (.cells #[.int .i64 n, .slice none 0 0, .int .i64 0] 50)) 22 #[.slice (some ad) at_ at_, .slice (some ⟨w1.heap.size, 0, none⟩) 1 1, .slice (some ad) 0 0]
          have h2 : Blk ((w1.alloc (.cells #[.int .i64 n, .slice none 0 0, .int .i64 0] 50)).alloc (.cells #[.slice (some ad) at_ at_, .slice (some ⟨w1.heap.size, 0, none⟩) 1 1, .slice (some ad) 0 0] 22)) (w1.heap.size + 1) 22 #[.slice (some ad) at_ at_, .slice (some ⟨w1.heap.size, 0, none⟩) 1 1, .slice (some ad) 0 0] := by simpa using this
          exact h2.drew
        have hB1 : Blk ((w1.alloc (.cells #[.int .i64 n, .slice none 0 0, .int .i64 0] 50)).alloc (.cells #[.slice (some ad) at_ at_, .slice (some ⟨w1.heap.size, 0, none⟩) 1 1, .slice (some ad) 0 0] 22)).drew w1.heap.size 50 #[.int .i64 n, .slice none 0 0, .int .i64 0] := ((Blk.new w1 50 #[.int .i64 n, .slice none 0 0, .int .i64 0]).alloc _).drew
        have hD := HD.out.later (below_on bb bd)
        have l1 : Lies ((w1.alloc (.cells #[.int .i64 n, .slice none 0 0, .int .i64 0] 50)).alloc (.cells #[.slice (some ad) at_ at_, .slice (some ⟨w1.heap.size, 0, none⟩) 1 1, .slice (some ad) 0 0] 22)).drew (some ad) (fCells (L.take at_)) := lies_take hD at_
        have l2 : Lies ((w1.alloc (.cells #[.int .i64 n, .slice none 0 0, .int .i64 0] 50)).alloc (.cells #[.slice (some ad) at_ at_, .slice (some ⟨w1.heap.size, 0, none⟩) 1 1, .slice (some ad) 0 0] 22)).drew (some ⟨w1.heap.size, 0, none⟩) (fCells [(⟨n, none, 0, [], 0⟩ : Fc)]) := fun _ => ⟨w1.heap.size, 0, rfl, fun j u hu => by rw [Nat.zero_add]; exact hB1.cell (by simpa [fCells] using hu)⟩
        have l3 : Lies ((w1.alloc (.cells #[.int .i64 n, .slice none 0 0, .int .i64 0] 50)).alloc (.cells #[.slice (some ad) at_ at_, .slice (some ⟨w1.heap.size, 0, none⟩) 1 1, .slice (some ad) 0 0] 22)).drew (some ad) (fCells (L.drop at_)) := (by rw [List.drop_of_length_le (by omega)]; exact Lies.nil)
        have CC := Lib.hid (concatF_any (w1.heap.size + 1) (some ad) (some ⟨w1.heap.size, 0, none⟩) (some ad) at_ 1 0 at_ 1 0 (fCells (L.take at_)) (fCells [(⟨n, none, 0, [], 0⟩ : Fc)]) (fCells (L.drop at_)) _ hB3 (fun h => by cases h) (fun h => by cases h) (fun h => by cases h) (by rw [fCells_length, List.length_take]; omega) rfl (by rw [fCells_length, List.length_drop]; first | done | omega) (fCells_one _) (fCells_one _) (fCells_one _) l1 l2 l3 (by omega))
        have FINS := Lib.hid (fun (w5 : World) (V : Option Addr) (cv : Nat) (hb : Below (((w1.alloc (.cells #[.int .i64 n, .slice none 0 0, .int .i64 0] 50)).alloc (.cells #[.slice (some ad) at_ at_, .slice (some ⟨w1.heap.size, 0, none⟩) 1 1, .slice (some ad) 0 0] 22)).drew).heap.size (((w1.alloc (.cells #[.int .i64 n, .slice none 0 0, .int .i64 0] 50)).alloc (.cells #[.slice (some ad) at_ at_, .slice (some ⟨w1.heap.size, 0, none⟩) 1 1, .slice (some ad) 0 0] 22)).drew) w5) (ho : w5.ownsRow (((w1.alloc (.cells #[.int .i64 n, .slice none 0 0, .int .i64 0] 50)).alloc (.cells #[.slice (some ad) at_ at_, .slice (some ⟨w1.heap.size, 0, none⟩) 1 1, .slice (some ad) 0 0] 22)).drew).heap.size 50 3 (.slice V (at_ + 1) cv) (at_ + 1) (fCells (L.take at_) ++ fCells [(⟨n, none, 0, [], 0⟩ : Fc)] ++ fCells (L.drop at_))) =>
          (show (w5.cell? ⟨w.heap.size, 1, none⟩ = some (.slice (some ad) L.length at_) ∧ w5.frozen? ⟨w.heap.size, 1, none⟩ = false) ∧ ∀ W, W = w5.setCell ⟨w.heap.size, 1, none⟩ (.slice V (at_ + 1) cv) → Blk W w.heap.size 24 #[.int .i64 room, .slice V (at_ + 1) cv] ∧ Blk W (w.heap.size + 1) 24 #[.int .i64 0, .slice none 0 0] ∧ Below w.heap.size w W ∧ (∀ W', Below w.heap.size W W' → (∀ k, w.heap.size + 2 ≤ k → W'.heap[k]? = W.heap[k]?) → OneD W' V cv (L.take at_ ++ (⟨n, none, 0, [], 0⟩ : Fc) :: L.drop at_)) from by
            have z5 := (Z0.later bd).later hb
            have y5 := (Z1.later bd).later hb
            refine ⟨⟨z5.cell (i := 1) rfl, z5.free 1⟩, fun W hW => ?_⟩
            have b5 := below_on (below_on bb bd) hb
            have hbW : Below w.heap.size w W := by rw [hW]; exact b5.setCell (p := ⟨w.heap.size, 1, none⟩) (Nat.le_refl _) _
            refine ⟨by rw [hW]; exact z5.put 1 _, by rw [hW]; exact y5.far (by show w.heap.size + 1 ≠ w.heap.size; omega) _, hbW, fun W' hb' hhi => ?_⟩
            have hl : L.take at_ ++ (⟨n, none, 0, [], 0⟩ : Fc) :: L.drop at_ = L.take at_ ++ [(⟨n, none, 0, [], 0⟩ : Fc)] ++ L.drop at_ := by simp
            have hbl := hbW.trans hb'
            obtain ⟨A', c', hv, h1, h2, h3, -⟩ := own_form ho
            injection hv with hv1 hv2 hv3
            subst hv1 hv3
            have hnn : (L.take at_ ++ (⟨n, none, 0, [], 0⟩ : Fc) :: L.drop at_).length = at_ + 1 := by rw [List.length_append, List.length_cons, List.length_take, List.length_drop]; omega
            refine ⟨by rw [hnn]; exact h1, h2, (fun h => by rw [hnn]; exact h3 h), ?_, fun f hf => ?_⟩
            · have hown : W'.ownsRow (((w1.alloc (.cells #[.int .i64 n, .slice none 0 0, .int .i64 0] 50)).alloc (.cells #[.slice (some ad) at_ at_, .slice (some ⟨w1.heap.size, 0, none⟩) 1 1, .slice (some ad) 0 0] 22)).drew).heap.size 50 3 (.slice V (at_ + 1) cv) (at_ + 1) (fCells (L.take at_) ++ fCells [(⟨n, none, 0, [], 0⟩ : Fc)] ++ fCells (L.drop at_)) := own_stays ho (fun k hk => by
                have hk1 := own_ge ho k hk
                have hk2 : w.heap.size + 2 ≤ k := by
                  have q1 := Z1.lt
                  have q2 := bd.size
                  omega
                rw [hhi k hk2, hW]
                exact Below.heap_setCell _ _ _ _ (by show k ≠ w.heap.size; omega))
              obtain ⟨A', c', hv, -, -, -, h5⟩ := own_form hown
              injection hv with hv1 hv2 hv3
              subst hv1
              rw [hl, fCells_append, fCells_append]
              exact h5
            · rcases List.mem_append.1 hf with hf | hf
              · exact (HD.out.each f (List.mem_of_mem_take hf)).later hbl
              · rcases List.mem_cons.1 hf with rfl | hf
                · exact ⟨Nat.le_refl _, Nat.zero_le _, fun _ => ⟨rfl, rfl⟩, Lies.nil, fun _ h => by cases h⟩
                · exact (HD.out.each f (List.mem_of_mem_drop hf)).later hbl))
        have a1 := below_new (Below.refl w1.heap.size w1) (.cells #[.int .i64 n, .slice none 0 0, .int .i64 0] 50)
        have r1 := cell_later a1 c1
        clear l1 l2 l3 hB1 hB3 hD ba bd Z0 Z1 a1
        go_wp2_with fail
        go_region_with (go_at_call 62; refine CC.out.mono ?_; rintro e w5 ⟨v, rfl, ho, b5⟩; obtain ⟨V, cv, rfl, -, -, -, -⟩ := own_form ho; have ff := FINS.out w5 V cv b5 ho; have u1 := ff.1.1; have u2 := ff.1.2; have FF := Lib.hid ff.2; clear ff ho)
        all_goals
          obtain ⟨uZ, uY, uB, uO⟩ := FF.out _ rfl
          have c0' := uZ.cell (i := 0) rfl
          have c1' := uZ.cell (i := 1) rfl
          have y0 := uY.cell (i := 0) rfl
          have y1 := uY.cell (i := 1) rfl
          have s0 := uY.free 0
          have s1' := uY.free 1
          have hz := (uY.put 0 (.int .i64 room)).put 1 (.slice V (at_ + 1) cv)
          have z0 := Lib.hid (hz.cell (i := 0) rfl)
          have z1 := Lib.hid (hz.cell (i := 1) rfl)
          have hbs := ((Below.refl w.heap.size (w5.setCell ⟨w.heap.size, 1, none⟩ (.slice V (at_ + 1) cv))).setCell (p := ⟨w.heap.size + 1, 0, none⟩) (by show w.heap.size ≤ w.heap.size + 1; omega) (.int .i64 room)).setCell (p := ⟨w.heap.size + 1, 1, none⟩) (by show w.heap.size ≤ w.heap.size + 1; omega) (.slice V (at_ + 1) cv)
          have hnn : (L.take at_ ++ (⟨n, none, 0, [], 0⟩ : Fc) :: L.drop at_).length = at_ + 1 := by rw [List.length_append, List.length_cons, List.length_take, List.length_drop]; omega
          have FIN := Lib.hid (show GivesO room ((L.take at_ ++ (⟨n, none, 0, [], 0⟩ : Fc) :: L.drop at_).map Fc.fi) w (.returned (.agg #[.int .i64 room, .slice V (at_ + 1) cv])) _ from ⟨V, cv, _, by rw [hnn], uO _ hbs (fun k hk => (Below.heap_setCell _ _ _ _ (by show k ≠ w.heap.size + 1; omega)).trans (Below.heap_setCell _ _ _ _ (by show k ≠ w.heap.size + 1; omega))), rfl, uB.trans hbs⟩)
          clear uZ uY uB uO hz hbs hnn FF FINS CC
          go_wp2
          have z0 := z0.out
          have z1 := z1.out
          exact bodyPost_ret (v := .agg #[.int .i64 room, .slice V (at_ + 1) cv]) (by simp [results, Tryd.results48, go_sem, z0, z1]) rfl FIN.out
      · have hcc' : ¬ c = at_ := fun e => hcc e.symm
        have hlt : at_ < c := by omega
        have ba := below_new (below_new (Below.refl w1.heap.size w1) (.cells #[.int .i64 n, .slice none 0 0, .int .i64 0] 50)) (.cells #[.slice (some ad) at_ c, .slice (some ⟨w1.heap.size, 0, none⟩) 1 1, .slice (some (ad.add (at_ * 3))) (L.length - at_) (c - at_)] 22)
        have bd : Below w1.heap.size w1 ((w1.alloc (.cells #[.int .i64 n, .slice none 0 0, .int .i64 0] 50)).alloc (.cells #[.slice (some ad) at_ c, .slice (some ⟨w1.heap.size, 0, none⟩) 1 1, .slice (some (ad.add (at_ * 3))) (L.length - at_) (c - at_)] 22)).drew := ba.drew
        have hB3 : Blk ((w1.alloc (.cells #[.int .i64 n, .slice none 0 0, .int .i64 0] 50)).alloc (.cells #[.slice (some ad) at_ c, .slice (some ⟨w1.heap.size, 0, none⟩) 1 1, .slice (some (ad.add (at_ * 3))) (L.length - at_) (c - at_)] 22)).drew (w1.heap.size + 1) 22 #[.slice (some ad) at_ c, .slice (some ⟨w1.heap.size, 0, none⟩) 1 1, .slice (some (ad.add (at_ * 3))) (L.length - at_) (c - at_)] := by
          have := Blk.new (w1.alloc (.cells #[.int .i64 n, .slice none 0 0, .int .i64 0] 50)) 22 #[.slice (some ad) at_ c, .slice (some ⟨w1.heap.size, 0, none⟩) 1 1, .slice (some (ad.add (at_ * 3))) (L.length - at_) (c - at_)]
          have h2 : Blk ((w1.alloc (.cells #[.int .i64 n, .slice none 0 0, .int .i64 0] 50)).alloc (.cells #[.slice (some ad) at_ c, .slice (some ⟨w1.heap.size, 0, none⟩) 1 1, .slice (some (ad.add (at_ * 3))) (L.length - at_) (c - at_)] 22)) (w1.heap.size + 1) 22 #[.slice (some ad) at_ c, .slice (some ⟨w1.heap.size, 0, none⟩) 1 1, .slice (some (ad.add (at_ * 3))) (L.length - at_) (c - at_)] := by simpa using this
          exact h2.drew
        have hB1 : Blk ((w1.alloc (.cells #[.int .i64 n, .slice none 0 0, .int .i64 0] 50)).alloc (.cells #[.slice (some ad) at_ c, .slice (some ⟨w1.heap.size, 0, none⟩) 1 1, .slice (some (ad.add (at_ * 3))) (L.length - at_) (c - at_)] 22)).drew w1.heap.size 50 #[.int .i64 n, .slice none 0 0, .int .i64 0] := ((Blk.new w1 50 #[.int .i64 n, .slice none 0 0, .int .i64 0]).alloc _).drew
        have hD := HD.out.later (below_on bb bd)
        have l1 : Lies ((w1.alloc (.cells #[.int .i64 n, .slice none 0 0, .int .i64 0] 50)).alloc (.cells #[.slice (some ad) at_ c, .slice (some ⟨w1.heap.size, 0, none⟩) 1 1, .slice (some (ad.add (at_ * 3))) (L.length - at_) (c - at_)] 22)).drew (some ad) (fCells (L.take at_)) := lies_take hD at_
        have l2 : Lies ((w1.alloc (.cells #[.int .i64 n, .slice none 0 0, .int .i64 0] 50)).alloc (.cells #[.slice (some ad) at_ c, .slice (some ⟨w1.heap.size, 0, none⟩) 1 1, .slice (some (ad.add (at_ * 3))) (L.length - at_) (c - at_)] 22)).drew (some ⟨w1.heap.size, 0, none⟩) (fCells [(⟨n, none, 0, [], 0⟩ : Fc)]) := fun _ => ⟨w1.heap.size, 0, rfl, fun j u hu => by rw [Nat.zero_add]; exact hB1.cell (by simpa [fCells] using hu)⟩
        have l3 : Lies ((w1.alloc (.cells #[.int .i64 n, .slice none 0 0, .int .i64 0] 50)).alloc (.cells #[.slice (some ad) at_ c, .slice (some ⟨w1.heap.size, 0, none⟩) 1 1, .slice (some (ad.add (at_ * 3))) (L.length - at_) (c - at_)] 22)).drew (some (ad.add (at_ * 3))) (fCells (L.drop at_)) := lies_drop hD at_
        have CC := Lib.hid (concatF_any (w1.heap.size + 1) (some ad) (some ⟨w1.heap.size, 0, none⟩) (some (ad.add (at_ * 3))) c 1 (c - at_) at_ 1 (L.length - at_) (fCells (L.take at_)) (fCells [(⟨n, none, 0, [], 0⟩ : Fc)]) (fCells (L.drop at_)) _ hB3 (fun h => by cases h) (fun h => by cases h) (fun h => by cases h) (by rw [fCells_length, List.length_take]; omega) rfl (by rw [fCells_length, List.length_drop]; first | done | omega) (fCells_one _) (fCells_one _) (fCells_one _) l1 l2 l3 (by omega))
        have FINS := Lib.hid (fun (w5 : World) (V : Option Addr) (cv : Nat) (hb : Below (((w1.alloc (.cells #[.int .i64 n, .slice none 0 0, .int .i64 0] 50)).alloc (.cells #[.slice (some ad) at_ c, .slice (some ⟨w1.heap.size, 0, none⟩) 1 1, .slice (some (ad.add (at_ * 3))) (L.length - at_) (c - at_)] 22)).drew).heap.size (((w1.alloc (.cells #[.int .i64 n, .slice none 0 0, .int .i64 0] 50)).alloc (.cells #[.slice (some ad) at_ c, .slice (some ⟨w1.heap.size, 0, none⟩) 1 1, .slice (some (ad.add (at_ * 3))) (L.length - at_) (c - at_)] 22)).drew) w5) (ho : w5.ownsRow (((w1.alloc (.cells #[.int .i64 n, .slice none 0 0, .int .i64 0] 50)).alloc (.cells #[.slice (some ad) at_ c, .slice (some ⟨w1.heap.size, 0, none⟩) 1 1, .slice (some (ad.add (at_ * 3))) (L.length - at_) (c - at_)] 22)).drew).heap.size 50 3 (.slice V (at_ + 1 + (L.length - at_)) cv) (at_ + 1 + (L.length - at_)) (fCells (L.take at_) ++ fCells [(⟨n, none, 0, [], 0⟩ : Fc)] ++ fCells (L.drop at_))) =>
          (show (w5.cell? ⟨w.heap.size, 1, none⟩ = some (.slice (some ad) L.length c) ∧ w5.frozen? ⟨w.heap.size, 1, none⟩ = false) ∧ ∀ W, W = w5.setCell ⟨w.heap.size, 1, none⟩ (.slice V (at_ + 1 + (L.length - at_)) cv) → Blk W w.heap.size 24 #[.int .i64 room, .slice V (at_ + 1 + (L.length - at_)) cv] ∧ Blk W (w.heap.size + 1) 24 #[.int .i64 0, .slice none 0 0] ∧ Below w.heap.size w W ∧ (∀ W', Below w.heap.size W W' → (∀ k, w.heap.size + 2 ≤ k → W'.heap[k]? = W.heap[k]?) → OneD W' V cv (L.take at_ ++ (⟨n, none, 0, [], 0⟩ : Fc) :: L.drop at_)) from by
            have z5 := (Z0.later bd).later hb
            have y5 := (Z1.later bd).later hb
            refine ⟨⟨z5.cell (i := 1) rfl, z5.free 1⟩, fun W hW => ?_⟩
            have b5 := below_on (below_on bb bd) hb
            have hbW : Below w.heap.size w W := by rw [hW]; exact b5.setCell (p := ⟨w.heap.size, 1, none⟩) (Nat.le_refl _) _
            refine ⟨by rw [hW]; exact z5.put 1 _, by rw [hW]; exact y5.far (by show w.heap.size + 1 ≠ w.heap.size; omega) _, hbW, fun W' hb' hhi => ?_⟩
            have hl : L.take at_ ++ (⟨n, none, 0, [], 0⟩ : Fc) :: L.drop at_ = L.take at_ ++ [(⟨n, none, 0, [], 0⟩ : Fc)] ++ L.drop at_ := by simp
            have hbl := hbW.trans hb'
            obtain ⟨A', c', hv, h1, h2, h3, -⟩ := own_form ho
            injection hv with hv1 hv2 hv3
            subst hv1 hv3
            have hnn : (L.take at_ ++ (⟨n, none, 0, [], 0⟩ : Fc) :: L.drop at_).length = at_ + 1 + (L.length - at_) := by rw [List.length_append, List.length_cons, List.length_take, List.length_drop]; omega
            refine ⟨by rw [hnn]; exact h1, h2, (fun h => by rw [hnn]; exact h3 h), ?_, fun f hf => ?_⟩
            · have hown : W'.ownsRow (((w1.alloc (.cells #[.int .i64 n, .slice none 0 0, .int .i64 0] 50)).alloc (.cells #[.slice (some ad) at_ c, .slice (some ⟨w1.heap.size, 0, none⟩) 1 1, .slice (some (ad.add (at_ * 3))) (L.length - at_) (c - at_)] 22)).drew).heap.size 50 3 (.slice V (at_ + 1 + (L.length - at_)) cv) (at_ + 1 + (L.length - at_)) (fCells (L.take at_) ++ fCells [(⟨n, none, 0, [], 0⟩ : Fc)] ++ fCells (L.drop at_)) := own_stays ho (fun k hk => by
                have hk1 := own_ge ho k hk
                have hk2 : w.heap.size + 2 ≤ k := by
                  have q1 := Z1.lt
                  have q2 := bd.size
                  omega
                rw [hhi k hk2, hW]
                exact Below.heap_setCell _ _ _ _ (by show k ≠ w.heap.size; omega))
              obtain ⟨A', c', hv, -, -, -, h5⟩ := own_form hown
              injection hv with hv1 hv2 hv3
              subst hv1
              rw [hl, fCells_append, fCells_append]
              exact h5
            · rcases List.mem_append.1 hf with hf | hf
              · exact (HD.out.each f (List.mem_of_mem_take hf)).later hbl
              · rcases List.mem_cons.1 hf with rfl | hf
                · exact ⟨Nat.le_refl _, Nat.zero_le _, fun _ => ⟨rfl, rfl⟩, Lies.nil, fun _ h => by cases h⟩
                · exact (HD.out.each f (List.mem_of_mem_drop hf)).later hbl))
        have a1 := below_new (Below.refl w1.heap.size w1) (.cells #[.int .i64 n, .slice none 0 0, .int .i64 0] 50)
        have r1 := cell_later a1 c1
        clear l1 l2 l3 hB1 hB3 hD ba bd Z0 Z1 a1
        go_wp2_with fail
        go_region_with (go_at_call 62; refine CC.out.mono ?_; rintro e w5 ⟨v, rfl, ho, b5⟩; obtain ⟨V, cv, rfl, -, -, -, -⟩ := own_form ho; have ff := FINS.out w5 V cv b5 ho; have u1 := ff.1.1; have u2 := ff.1.2; have FF := Lib.hid ff.2; clear ff ho)
        all_goals
          obtain ⟨uZ, uY, uB, uO⟩ := FF.out _ rfl
          have c0' := uZ.cell (i := 0) rfl
          have c1' := uZ.cell (i := 1) rfl
          have y0 := uY.cell (i := 0) rfl
          have y1 := uY.cell (i := 1) rfl
          have s0 := uY.free 0
          have s1' := uY.free 1
          have hz := (uY.put 0 (.int .i64 room)).put 1 (.slice V (at_ + 1 + (L.length - at_)) cv)
          have z0 := Lib.hid (hz.cell (i := 0) rfl)
          have z1 := Lib.hid (hz.cell (i := 1) rfl)
          have hbs := ((Below.refl w.heap.size (w5.setCell ⟨w.heap.size, 1, none⟩ (.slice V (at_ + 1 + (L.length - at_)) cv))).setCell (p := ⟨w.heap.size + 1, 0, none⟩) (by show w.heap.size ≤ w.heap.size + 1; omega) (.int .i64 room)).setCell (p := ⟨w.heap.size + 1, 1, none⟩) (by show w.heap.size ≤ w.heap.size + 1; omega) (.slice V (at_ + 1 + (L.length - at_)) cv)
          have hnn : (L.take at_ ++ (⟨n, none, 0, [], 0⟩ : Fc) :: L.drop at_).length = at_ + 1 + (L.length - at_) := by rw [List.length_append, List.length_cons, List.length_take, List.length_drop]; omega
          have FIN := Lib.hid (show GivesO room ((L.take at_ ++ (⟨n, none, 0, [], 0⟩ : Fc) :: L.drop at_).map Fc.fi) w (.returned (.agg #[.int .i64 room, .slice V (at_ + 1 + (L.length - at_)) cv])) _ from ⟨V, cv, _, by rw [hnn], uO _ hbs (fun k hk => (Below.heap_setCell _ _ _ _ (by show k ≠ w.heap.size + 1; omega)).trans (Below.heap_setCell _ _ _ _ (by show k ≠ w.heap.size + 1; omega))), rfl, uB.trans hbs⟩)
          clear uZ uY uB uO hz hbs hnn FF FINS CC
          go_wp2
          have z0 := z0.out
          have z1 := z1.out
          exact bodyPost_ret (v := .agg #[.int .i64 room, .slice V (at_ + 1 + (L.length - at_)) cv]) (by simp [results, Tryd.results48, go_sem, z0, z1]) rfl FIN.out
end Go.Proofs.YtkhggofcbdcliaaDoor
namespace Go.Proofs.YtkhggofcbdcliaaDoor
open Go.RowKit

namespace Dk
/-- How many of a file's bytes are kept that were not sure. -/
def kp1 (k : Nat) (f : Fi) : Nat := min k (f.2.1.length - f.2.2.toNat)
def crs1 (k : Nat) (f : Fi) : Fi := (f.1, f.2.1.take (f.2.2.toNat + kp1 k f), ((f.2.2.toNat + kp1 k f : Nat) : Int))
/-- How many may still be kept from the file of place i on. -/
def kAt (keep : Nat) (fs : List Fi) : Nat → Nat
  | 0 => keep
  | i + 1 => match fs[i]? with
    | some f => kAt keep fs i - kp1 (kAt keep fs i) f
    | none => kAt keep fs i
def crsTo (keep : Nat) (fs : List Fi) : Nat → List Fi
  | 0 => []
  | i + 1 => match fs[i]? with
    | some f => crsTo keep fs i ++ [crs1 (kAt keep fs i) f]
    | none => crsTo keep fs i
/-- The place of the last file of which a byte was kept that was not sure. -/
def lstTo (keep : Nat) (fs : List Fi) : Nat → Option Nat
  | 0 => none
  | i + 1 => match fs[i]? with
    | some f => if 0 < kp1 (kAt keep fs i) f then some i else lstTo keep fs i
    | none => lstTo keep fs i
theorem kAt_step {keep i : Nat} {fs : List Fi} {f : Fi} (h : fs[i]? = some f) : kAt keep fs (i + 1) = kAt keep fs i - kp1 (kAt keep fs i) f := by rw [kAt, h]
theorem crsTo_step {keep i : Nat} {fs : List Fi} {f : Fi} (h : fs[i]? = some f) : crsTo keep fs (i + 1) = crsTo keep fs i ++ [crs1 (kAt keep fs i) f] := by rw [crsTo, h]
theorem lstTo_step {keep i : Nat} {fs : List Fi} {f : Fi} (h : fs[i]? = some f) : lstTo keep fs (i + 1) = if 0 < kp1 (kAt keep fs i) f then some i else lstTo keep fs i := by rw [lstTo, h]
end Dk

/-- Where the last byte lies that was kept and was not sure. -/
def LastP (done : List Fc) : Option Nat → Option Addr → Prop
  | none, P => P = none
  | some j, P => ∃ x b, done[j]? = some x ∧ x.X = some ⟨b, 0, none⟩ ∧ 0 < x.l.length ∧ P = some ⟨b, x.l.length - 1, none⟩
/-- What is told of the files that have been through a crash: the bytes that may still be kept lie at kb, the last kept one's place at lb. -/
structure JC (h0 n0 kb lb keep : Nat) (w : World) (fs : List Fi) (done : List Fc) (W : World) : Prop where
  low : Below h0 w W
  mid : ∀ k, h0 ≤ k → k < n0 → k ≠ kb → k ≠ lb → W.heap[k]? = w.heap[k]?
  kbox : Blk W kb 3 #[.int .i64 (Dk.kAt keep fs done.length : Int)]
  lbox : ∃ P, Blk W lb 60 #[.pointer P] ∧ LastP done (Dk.lstTo keep fs done.length) P
  fi : done.map Fc.fi = Dk.crsTo keep fs done.length
theorem LastP.snoc {done : List Fc} {o : Option Nat} {P : Option Addr} (f : Fc) (h : LastP done o P) : LastP (done ++ [f]) o P := by
  cases o with
  | none => exact h
  | some j =>
    obtain ⟨x, b, h1, h2, h3, h4⟩ := h
    exact ⟨x, b, by rw [List.getElem?_append_left (List.getElem?_eq_some_iff.1 h1).1]; exact h1, h2, h3, h4⟩
theorem JC.stab {h0 n0 kb lb keep : Nat} {w : World} {fs : List Fi} (hk : kb < n0) (hl : lb < n0) (h0n : h0 ≤ n0) (done : List Fc) (W W' : World) (h : JC h0 n0 kb lb keep w fs done W) (hb : Below n0 W W') : JC h0 n0 kb lb keep w fs done W' :=
  ⟨h.low.trans (hb.mono h0n), fun k a b c d => (hb.block k b).trans (h.mid k a b c d), (hb.block kb hk).trans h.kbox, (let ⟨P, h1, h2⟩ := h.lbox; ⟨P, (hb.block lb hl).trans h1, h2⟩), h.fi⟩

theorem Dk.lit_min (kn ln sn : Nat) (h : sn ≤ ln) : min (kn : Int) ((ln : Int) - (sn : Int)) = ((min kn (ln - sn) : Nat) : Int) := by omega

/-- What the change of a crash leaves behind. -/
structure CrP (n0 N cap g i kb lb kn : Nat) (P : Option Addr) (Lk : List Fc) (f f' : Fc) (W w' : World) : Prop where
  fi : f'.fi = Dk.crs1 kn f.fi
  kbox : Blk w' kb 3 #[.int .i64 ((kn - Dk.kp1 kn f.fi : Nat) : Int)]
  lbox : ∃ P', Blk w' lb 60 #[.pointer P'] ∧ ((Dk.kp1 kn f.fi = 0 ∧ P' = P) ∨ (0 < Dk.kp1 kn f.fi ∧ ∃ b, f'.X = some ⟨b, 0, none⟩ ∧ 0 < f'.l.length ∧ P' = some ⟨b, f'.l.length - 1, none⟩))
  size : W.heap.size ≤ w'.heap.size
  row : w'.ownsRow (n0 + 2) 50 3 (.slice (some ⟨g, 0, none⟩) N cap) N (fCells (Lk.set i f'))
  own : OwnB w' (n0 + 2) 5 f'
  blk : f'.blk = f.blk
  rest : ∀ b, b ≠ g → b ≠ kb → b ≠ lb → w'.heap[b]? = W.heap[b]?
  same : w'.os = W.os ∧ w'.tape = W.tape ∧ w'.output = W.output

set_option maxRecDepth 100000 in
set_option maxHeartbeats 6400000 in
theorem crash1_any (n0 N cap g i kb lb : Nat) (kn sn : Nat) (P : Option Addr) (Lk : List Fc) (f : Fc) (W : World) (hs : f.s = (sn : Int)) (hsl : sn ≤ f.l.length) (hK : Blk W kb 3 #[.int .i64 (kn : Int)]) (hL : Blk W lb 60 #[.pointer P]) (hkl : kb ≠ lb) (hgk : g ≠ kb) (hgl : g ≠ lb) (hfk : f.blk ≠ some kb) (hfl : f.blk ≠ some lb)
    (hr : W.ownsRow (n0 + 2) 50 3 (.slice (some ⟨g, 0, none⟩) N cap) N (fCells Lk)) (hx : Lk[i]? = some f) (ho : OwnB W (n0 + 2) 5 f) (hkn : kn ≤ 9223372036854775807) :
    Calls Tryd.prog 43 #[.pointer (some ⟨g, i * 3, none⟩), .pointer (some ⟨kb, 0, none⟩), .pointer (some ⟨lb, 0, none⟩)] W fun e w' => e = .returned (.tuple #[]) ∧ ∃ f', CrP n0 N cap g i kb lb kn P Lk f f' W w' := by
  obtain ⟨-, q1, q2, q3, q4⟩ := row_cells hr hx
  have hle := ho.le
  have hcap := ho.cap
  unfold maxLen at hcap
  obtain ⟨kp, hkp⟩ : ∃ kp, min kn (f.l.length - sn) = kp := ⟨_, rfl⟩
  have hkq : Dk.kp1 kn f.fi = kp := by
    unfold Dk.kp1
    rw [show f.fi.2.2.toNat = sn from by show f.s.toNat = sn; rw [hs]; omega]
    exact hkp
  have kq : min (kn : Int) ((f.l.length : Int) - (sn : Int)) = (kp : Int) := by rw [← hkp]; exact Dk.lit_min kn f.l.length sn hsl
  have hkp1 : kp ≤ kn := by omega
  have hkp2 : sn + kp ≤ f.l.length := by omega
  have kd : (kn : Int) - (kp : Int) = ((kn - kp : Nat) : Int) := by omega
  have kf := hK.free 0
  have k0 := hK.cell (i := 0) rfl
  rw [hs] at q2
  have HKQ := Lib.hid hkq
  have HS := Lib.hid hs
  have HR := Lib.hid hr; have HX := Lib.hid hx; have HO := Lib.hid ho; have HK := Lib.hid hK; have HL := Lib.hid hL
  have Q3 := Lib.hid q3; have Q4 := Lib.hid q4; have Q1 := Lib.hid q1; have Q2 := Lib.hid q2
  have hj1 : (sn : Int) ≤ (f.l.length : Int) := by omega
  have hj0 : (0 : Int) ≤ (sn : Int) := by omega
  have hj2 : (0 : Int) ≤ (kn : Int) := by omega
  have hj3 : (0 : Int) ≤ (kp : Int) := by omega
  have hj4 : (sn : Int) + (kp : Int) ≤ 9223372036854775807 := by omega
  clear hkp hkq hs hr hx ho hK hL q3 q4
  go_enter Tryd.func43, Tryd.ntmps43
  go_wp2_with fail
  go_quiet (fail)
  have k0' : (W.drewN nq).cell? ⟨kb, 0, none⟩ = some (.int .i64 (kn : Int)) := k0
  have kf' : (W.drewN nq).frozen? ⟨kb, 0, none⟩ = false := kf
  obtain ⟨W1, hW1⟩ : ∃ W1, (W.drewN nq).setCell ⟨kb, 0, none⟩ (.int .i64 ((kn - kp : Nat) : Int)) = W1 := ⟨_, rfl⟩
  have p1 : W1.cell? ⟨g, i * 3 + 1, none⟩ = some (.slice f.X f.l.length f.c) := by rw [← hW1]; exact (World.cell?_of_block (w := W) (Below.heap_setCell (W.drewN nq) _ _ g hgk)).trans Q1.out
  have p2 : W1.cell? ⟨g, i * 3 + 2, none⟩ = some (.int .i64 (sn : Int)) := by rw [← hW1]; exact (World.cell?_of_block (w := W) (Below.heap_setCell (W.drewN nq) _ _ g hgk)).trans Q2.out
  have p3 : W1.frozen? ⟨g, i * 3 + 1, none⟩ = false := by rw [← hW1]; exact (World.frozen?_of_block (w := W) (Below.heap_setCell (W.drewN nq) _ _ g hgk)).trans Q3.out
  have p4 : W1.frozen? ⟨g, i * 3 + 2, none⟩ = false := by rw [← hW1]; exact (World.frozen?_of_block (w := W) (Below.heap_setCell (W.drewN nq) _ _ g hgk)).trans Q4.out
  have ns := shorten_any g i (sn + kp) f W1 p1 (by rw [HS.out]; exact p2) p3 p4 hkp2 hle hcap (fun h => (HO.out.noA h).2)
  rw [Int.natCast_add] at ns
  have NS := Lib.hid ns
  have HW1 := Lib.hid hW1
  clear ns
  go_wp2_with fail
  refine NS.out.mono ?_
  rintro e w' ⟨rfl, hw'⟩
  -- behind the cut
  have e1 : w'.cell? ⟨g, i * 3 + 1, none⟩ = some (.slice f.X (sn + kp) (sn + kp)) := by
    rw [hw']
    unfold cutW
    rw [World.cell?_setCell_other _ _ _ _ (fun h => by injection h with _ h; omega)]
    exact World.cell?_setCell_same' _ _ _ (by rw [show W1.drew.cell? ⟨g, i * 3 + 1, none⟩ = _ from p1]; rfl)
  have e2 : ∃ v, w'.cell? ⟨g, i * 3 + 2, none⟩ = some v := ⟨_, by
    rw [hw']
    unfold cutW
    exact World.cell?_setCell_same' _ _ _ (by rw [World.cell?_setCell_other _ _ _ _ (fun h => by injection h with _ h; omega), show W1.drew.cell? ⟨g, i * 3 + 2, none⟩ = _ from p2]; rfl)⟩
  have e4 : w'.frozen? ⟨g, i * 3 + 2, none⟩ = false := by rw [hw']; unfold cutW; rw [World.frozen?_setCell, World.frozen?_setCell]; exact p4
  have hfar : ∀ b, b ≠ g → b ≠ kb → w'.heap[b]? = W.heap[b]? := fun b h1 h2 => by
    rw [hw', ← HW1.out]
    exact (Below.heap_setCell _ _ _ _ h1).trans ((Below.heap_setCell _ _ _ _ h1).trans (Below.heap_setCell (W.drewN nq) _ _ _ h2))
  obtain ⟨e2v, e2⟩ := e2
  have HW' := Lib.hid hw'
  have HFAR := Lib.hid hfar
  have lf := (show Blk w' lb 60 #[.pointer P] from (hfar lb (fun h => hgl h.symm) (fun h => hkl h.symm)).trans HL.out)
  have HLF := Lib.hid lf
  have l0 := lf.cell (i := 0) rfl
  have lfz := lf.free 0
  clear hw' hfar p1 p2 p3 p4 q1 q2 hW1 NS lf
  have hm1 : (f.l.take (sn + kp)).length = sn + kp := by rw [List.length_take]; omega
  have CORE := Lib.hid (fun (W5 : World) (hW5 : W5 = w'.setCell ⟨g, i * 3 + 2, none⟩ (.int .i64 ((sn : Int) + (kp : Int)))) =>
    (show Blk W5 kb 3 #[.int .i64 ((kn - kp : Nat) : Int)] ∧ Blk W5 lb 60 #[.pointer P] ∧ Below 0 W W5 ∧ W5.ownsRow (n0 + 2) 50 3 (.slice (some ⟨g, 0, none⟩) N cap) N (fCells (Lk.set i { f with l := f.l.take (sn + kp), c := sn + kp, s := ((sn + kp : Nat) : Int) })) ∧
        OwnB W5 (n0 + 2) 5 { f with l := f.l.take (sn + kp), c := sn + kp, s := ((sn + kp : Nat) : Int) } ∧ (∀ b, b ≠ g → b ≠ kb → b ≠ lb → W5.heap[b]? = W.heap[b]?) from by
      have hi := (List.getElem?_eq_some_iff.1 HX.out).1
      have hnb : f.blk ≠ some g := HO.out.off_row HR.out (by decide)
      have hr1 : W1.ownsRow (n0 + 2) 50 3 (.slice (some ⟨g, 0, none⟩) N cap) N (fCells Lk) := own_stays HR.out (fun k hk => by
        have : g = k := by injection hk
        subst this
        rw [← HW1.out]
        exact Below.heap_setCell (W.drewN nq) _ _ _ hgk)
      have ho1 : OwnB W1 (n0 + 2) 5 f := HO.out.stays (fun k hk => by
        rw [← HW1.out]
        exact Below.heap_setCell (W.drewN nq) _ _ _ (fun e => hfk (by rw [hk]; exact congrArg some e)))
      have hc := chgd_cut (n0 := n0) (N := N) (cap := cap) (g := g) (i := i) (J := fun _ _ => True) (done := []) (W := W1) (sn + kp) hkp2 trivial hr1 HX.out ho1
      have hfx : (Lk.set i (f.cut (sn + kp)))[i]? = some (f.cut (sn + kp)) := List.getElem?_set_self hi
      have hr2 : w'.ownsRow (n0 + 2) 50 3 (.slice (some ⟨g, 0, none⟩) N cap) N (fCells (Lk.set i (f.cut (sn + kp)))) := by rw [HW'.out]; exact hc.row
      have ho2 : OwnB w' (n0 + 2) 5 (f.cut (sn + kp)) := by rw [HW'.out]; exact hc.own
      have hr3 := row_put2 hr2 hfx ((sn + kp : Nat) : Int)
      rw [List.set_set] at hr3
      have hk5 : ∀ b, b ≠ g → W5.heap[b]? = w'.heap[b]? := fun b hb => by rw [hW5]; exact Below.heap_setCell _ _ _ _ hb
      have hkk : Blk w' kb 3 #[.int .i64 ((kn - kp : Nat) : Int)] := by
        have h1 : Blk W1 kb 3 #[.int .i64 ((kn - kp : Nat) : Int)] := by rw [← HW1.out]; exact (HK.out.drewN nq).put 0 _
        refine Eq.trans ?_ h1
        rw [HW'.out]
        exact (Below.heap_setCell _ _ _ _ (fun h => hgk h.symm)).trans (Below.heap_setCell _ _ _ _ (fun h => hgk h.symm))
      refine ⟨(hk5 kb (fun h => hgk h.symm)).trans hkk, (hk5 lb (fun h => hgl h.symm)).trans HLF.out, ?_, ?_, ?_, fun b h1 h2 _ => (hk5 b h1).trans (HFAR.out b h1 h2)⟩
      · rw [hW5, HW'.out, ← HW1.out]
        exact ((cutW_below (g := g) (n0 := 0) (Nat.zero_le _)) |> fun h => (((below_drewN (Below.refl 0 W) nq).setCell (p := ⟨kb, 0, none⟩) (Nat.zero_le _) _).trans h)).setCell (p := ⟨g, i * 3 + 2, none⟩) (Nat.zero_le _) _
      · rw [hW5]; exact hr3
      · rw [hW5]; exact ((ho2.num f.num ((sn + kp : Nat) : Int)).far (p := ⟨g, i * 3 + 2, none⟩) (by show f.blk ≠ some g; exact hnb) _)))
  have FI := Lib.hid (show ({ f with l := f.l.take (sn + kp), c := sn + kp, s := ((sn + kp : Nat) : Int) } : Fc).fi = Dk.crs1 kn f.fi from by
    unfold Dk.crs1
    rw [HKQ.out, show f.fi.2.2.toNat = sn from by show f.s.toNat = sn; rw [HS.out]; omega]
    rfl)
  by_cases hz : 0 < kp
  · have dz : decide ((0 : Int) < (kp : Int)) = true := decide_eq_true (by omega)
    obtain ⟨b, hb⟩ : ∃ b, f.X = some ⟨b, 0, none⟩ := by
      cases hXX : f.X with
      | none => have := (HO.out.noA hXX).1; omega
      | some a =>
        obtain ⟨b, cur, rfl, -⟩ := HO.out.at_ a hXX
        exact ⟨b, rfl⟩
    obtain ⟨W5, hW5⟩ : ∃ W5, w'.setCell ⟨g, i * 3 + 2, none⟩ (.int .i64 ((sn : Int) + (kp : Int))) = W5 := ⟨_, rfl⟩
    obtain ⟨u1, u2, u3, u4, u5, u6⟩ := CORE.out W5 hW5.symm
    have c1 := (row_cells u4 (List.getElem?_set_self (List.getElem?_eq_some_iff.1 HX.out).1)).2.1
    dsimp only at c1
    rw [hm1, hb] at c1
    have c1' : W5.drew.cell? ⟨g, i * 3 + 1, none⟩ = some (.slice (some ⟨b, 0, none⟩) (sn + kp) (sn + kp)) := c1
    have x0 : W5.drew.cell? ⟨lb, 0, none⟩ = _ := u2.cell (i := 0) rfl
    have xf : W5.drew.frozen? ⟨lb, 0, none⟩ = false := u2.free 0
    have hp1 : (1 : Int) ≤ (sn : Int) + (kp : Int) := by omega
    have hp2 : (0 : Int) ≤ (sn : Int) + (kp : Int) - 1 := by omega
    have hp3 : (sn : Int) + (kp : Int) - 1 < (sn : Int) + (kp : Int) := by omega
    have hp4 : IntKind.i64.wrap ((sn : Int) + (kp : Int) - 1) = (sn : Int) + (kp : Int) - 1 := IntWalk.i64_in _ (by omega)
    have hp5 : ((sn : Int) + (kp : Int) - 1).toNat = sn + kp - 1 := by omega
    have U1 := Lib.hid u1; have U2 := Lib.hid u2; have U3 := Lib.hid u3; have U4 := Lib.hid u4; have U5 := Lib.hid u5; have U6 := Lib.hid u6
    have HB := Lib.hid hb
    clear u1 u2 u3 u4 u5 u6 c1 hm1 hb
    have FIN := Lib.hid (show CrP n0 N cap g i kb lb kn P Lk f { f with l := f.l.take (sn + kp), c := sn + kp, s := ((sn + kp : Nat) : Int) } W (W5.setCell ⟨lb, 0, none⟩ (.pointer (some ⟨b, sn + kp - 1, none⟩))).drew from
      ⟨FI.out, by rw [HKQ.out]; exact Blk.drew (U1.out.far (p := ⟨lb, 0, none⟩) hkl _), ⟨some ⟨b, sn + kp - 1, none⟩, Blk.drew (U2.out.put 0 _), .inr ⟨by rw [HKQ.out]; exact hz, b, HB.out, by show 0 < (f.l.take (sn + kp)).length; rw [List.length_take]; omega, by
        show some (⟨b, sn + kp - 1, none⟩ : Addr) = some ⟨b, (f.l.take (sn + kp)).length - 1, none⟩
        rw [List.length_take, Nat.min_eq_left hkp2]⟩⟩, by simpa using U3.out.size,
        own_stays U4.out (fun k hk => by
          have : g = k := by injection hk
          subst this
          exact Below.heap_setCell W5 _ _ g hgl), (U5.out.far (p := ⟨lb, 0, none⟩) hfl _).stays (fun _ _ => rfl), rfl, (fun b' h1 h2 h3 => (Below.heap_setCell W5 _ _ b' h3).trans (U6.out b' h1 h2 h3)), U3.out.os, U3.out.tape, U3.out.output⟩)
    go_wp2_with fail
    go_region
    all_goals
      go_end0
      exact ⟨rfl, _, FIN.out⟩
  · have dz : decide ((0 : Int) < (kp : Int)) = false := decide_eq_false (by omega)
    have hkz := Lib.hid (show kp = 0 by omega)
    clear hm1
    go_wp2_with fail
    obtain ⟨u1, u2, u3, u4, u5, u6⟩ := CORE.out _ rfl
    have FIN := Lib.hid (show CrP n0 N cap g i kb lb kn P Lk f { f with l := f.l.take (sn + kp), c := sn + kp, s := ((sn + kp : Nat) : Int) } W _ from
      ⟨FI.out, by rw [HKQ.out]; exact u1, ⟨P, u2, .inl ⟨by rw [HKQ.out]; exact hkz.out, rfl⟩⟩, u3.size, u4, u5, rfl, u6, u3.os, u3.tape, u3.output⟩)
    go_end0
    exact ⟨rfl, _, FIN.out⟩
end Go.Proofs.YtkhggofcbdcliaaDoor
