/-
  What disk's withFile answers.
-/
import Derived.Test.YtgjcpdcepmgafaaDkConcat
import Derived.Test.YtgjcpdcepmgafaaDkSpec
import Derived.Test.YtgjcpdcepmgafaaDkDevC
namespace Go.Proofs.Ytgjcpdcepmgafaa
open Go.RowKit

/-- A disk is answered; what was there before is as it was. -/
def GivesO (room : Int) (fs : List Fi) (w : World) (e : Ending) (w' : World) : Prop :=
  ∃ A c L, e = .returned (.agg #[.int .i64 room, .slice A (List.length L) c]) ∧ OneD w' A c L ∧ L.map Fc.fi = fs ∧ Below w.heap.size w w'
theorem lies_take {w : World} {A : Option Addr} {c : Nat} {L : List Fc} (h : OneD w A c L) (k : Nat) : Lies w A (fCells (L.take k)) := fun hne => by
  have hne2 : fCells L ≠ [] := fun e => hne (by rw [fCells_nil] at e; rw [e]; simp [fCells])
  obtain ⟨b, off, hA, hc⟩ := h.lies hne2
  refine ⟨b, off, hA, fun j u hu => hc j u ?_⟩
  rw [fCells_take, List.getElem?_take] at hu
  split at hu
  · exact hu
  · cases hu
theorem lies_drop {w : World} {a : Addr} {c : Nat} {L : List Fc} (h : OneD w (some a) c L) (k : Nat) : Lies w (some (a.add (k * 3))) (fCells (L.drop k)) := fun hne => by
  have hne2 : fCells L ≠ [] := fun e => hne (by rw [fCells_nil] at e; rw [e]; simp [fCells])
  obtain ⟨b, off, hA, hc⟩ := h.lies hne2
  injection hA with hA
  subst hA
  refine ⟨b, off + k * 3, by rw [Go.WideShapes.add_plain], fun j u hu => ?_⟩
  rw [fCells_drop, List.getElem?_drop] at hu
  have := hc (k * 3 + j) u hu
  rw [← Nat.add_assoc] at this
  exact this
theorem filter_low {n : Int} {L : List Fc} {at_ : Nat} {th : Bool} (h : Dk.Low L n at_ th) (hth : th = false) : (L.map Fc.fi).filter (fun f => decide (f.1 < n)) = (L.take at_).map Fc.fi ∧ (L.map Fc.fi).filter (fun f => decide (n < f.1)) = (L.drop at_).map Fc.fi := by
  have h1 : ∀ f ∈ (L.take at_).map Fc.fi, f.1 < n := fun f hf => by
    obtain ⟨x, hx, rfl⟩ := List.mem_map.1 hf
    obtain ⟨i, hi⟩ := List.getElem?_of_mem hx
    have hlt := (List.getElem?_eq_some_iff.1 hi).1
    rw [List.length_take] at hlt
    rw [List.getElem?_take_of_lt (by omega)] at hi
    exact h.lo i x (by omega) hi
  have h2 : ∀ f ∈ (L.drop at_).map Fc.fi, n < f.1 := fun f hf => by
    obtain ⟨x, hx, rfl⟩ := List.mem_map.1 hf
    obtain ⟨i, hi⟩ := List.getElem?_of_mem hx
    rw [List.getElem?_drop] at hi
    exact h.not hth (at_ + i) x (by omega) hi
  have hs : L.map Fc.fi = (L.take at_).map Fc.fi ++ (L.drop at_).map Fc.fi := by rw [← List.map_append, List.take_append_drop]
  rw [hs, List.filter_append, List.filter_append]
  constructor
  · rw [List.filter_eq_self.2 (fun f hf => decide_eq_true (h1 f hf)), List.filter_eq_nil_iff.2 (fun f hf => by have := h2 f hf; simp; omega), List.append_nil]
  · rw [List.filter_eq_nil_iff.2 (fun f hf => by have := h1 f hf; simp; omega), List.filter_eq_self.2 (fun f hf => decide_eq_true (h2 f hf)), List.nil_append]

set_option maxRecDepth 100000 in
set_option maxHeartbeats 3200000 in
theorem withFile_any (room n : Int) (A : Option Addr) (c : Nat) (L : List Fc) (w : World) (h : OneD w A c L) (hq : Dk.fmd room (L.map Fc.fi) = true) :
    Calls Try.prog 31 #[.agg #[.int .i64 room, .slice A L.length c], .int .i64 n] w (GivesO room (Dk.ins (L.map Fc.fi) n) w) := by
  have bn := below_new (below_new (Below.refl w.heap.size w) (.cells #[.int .i64 room, .slice A L.length c] 24)) (.cells #[.int .i64 0, .slice none 0 0] 24)
  have B0 := Lib.hid ((Blk.new w 24 #[.int .i64 room, .slice A L.length c]).alloc (.cells #[.int .i64 0, .slice none 0 0] 24))
  have B1 := Lib.hid (show Blk _ (w.heap.size + 1) 24 #[.int .i64 0, .slice none 0 0] from by simpa using Blk.new (w.alloc (.cells #[.int .i64 room, .slice A L.length c] 24)) 24 #[.int .i64 0, .slice none 0 0])
  have hlen := Dk.len_le hq
  have HD := Lib.hid h
  obtain ⟨at_, th, hl⟩ := Dk.low_of n L (Dk.fmd_facts hq).up
  have N := Lib.hid (dplace_any room n A c L at_ th _ (h.later bn) (by omega) hl)
  have hat := hl.le
  clear h hq
  cases th with
  | true =>
    obtain ⟨x, h1, h2, h3, -⟩ := Dk.fnd_some hl
    have hR : Dk.ins (L.map Fc.fi) n = L.map Fc.fi := by unfold Dk.ins; rw [h3]
    rw [hR]
    clear hl h1 h2 h3 hR
    go_enter Try.func31, Try.ntmps31
    go_wp2_with fail
    refine N.out.mono ?_
    rintro e w1 ⟨rfl, b1⟩
    have c0 := (B0.out.later b1).cell (i := 0) rfl
    have c1 := (B0.out.later b1).cell (i := 1) rfl
    have z := B1.out.later b1
    have y0 := z.cell (i := 0) rfl
    have y1 := z.cell (i := 1) rfl
    have s0 := z.free 0
    have s1 := z.free 1
    have hz := (z.put 0 (.int .i64 room)).put 1 (.slice A L.length c)
    have z0 := Lib.hid (hz.cell (i := 0) rfl)
    have z1 := Lib.hid (hz.cell (i := 1) rfl)
    have hbz := ((below_on bn b1).setCell (p := ⟨w.heap.size + 1, 0, none⟩) (by show w.heap.size ≤ w.heap.size + 1; omega) (.int .i64 room)).setCell (p := ⟨w.heap.size + 1, 1, none⟩) (by show w.heap.size ≤ w.heap.size + 1; omega) (.slice A L.length c)
    have FIN := Lib.hid (show GivesO room (L.map Fc.fi) w (.returned (.agg #[.int .i64 room, .slice A L.length c])) _ from ⟨A, c, L, rfl, HD.out.later hbz, rfl, hbz⟩)
    clear z hz hbz
    go_wp2
    have z0 := z0.out
    have z1 := z1.out
    exact bodyPost_ret (v := .agg #[.int .i64 room, .slice A L.length c]) (by simp [results, Try.results31, go_sem, z0, z1]) rfl FIN.out
  | false =>
    obtain ⟨h3, -⟩ := Dk.fnd_none hl
    obtain ⟨f1, f2⟩ := filter_low hl rfl
    have hR : Dk.ins (L.map Fc.fi) n = (L.take at_ ++ (⟨n, none, 0, [], 0⟩ : Fc) :: L.drop at_).map Fc.fi := by unfold Dk.ins; rw [h3, f1, f2, List.map_append, List.map_cons]; rfl
    rw [hR]
    clear hl h3 f1 f2 hR
    go_enter Try.func31, Try.ntmps31
    go_wp2_with fail
    refine N.out.mono ?_
    rintro e w1 ⟨rfl, b1⟩
    have bb := below_on bn b1
    have Z0 := B0.out.later b1
    have Z1 := B1.out.later b1
    have Z0H := Lib.hid Z0
    have c1 := Z0.cell (i := 1) rfl
    have s1 := Z0.free 1
    have hca := HD.out.le
    have hcm := HD.out.cap
    unfold maxLen at hcm
    have n3 : at_ ≤ c := by omega
    have i0 : (0 : Int) ≤ (at_ : Int) := by omega
    have i1 : (at_ : Int) ≤ (L.length : Int) := by omega
    have i2 : (at_ : Int) ≤ (c : Int) := by omega
    cases A with
    | none =>
      have hL0 : L.length = 0 := (HD.out.noA rfl).1
      have hc0 : c = 0 := (HD.out.noA rfl).2
      have hle : L.length ≤ 0 := by omega
      have hce : c ≤ 0 := by omega
      have HL0 := Lib.hid hL0
      have HC0 := Lib.hid hc0
      clear hL0 hc0
      have ba := below_new (below_new (Below.refl w1.heap.size w1) (.cells #[.int .i64 n, .slice none 0 0, .int .i64 0] 43)) (.cells #[.slice none at_ 0, .slice (some ⟨w1.heap.size, 0, none⟩) 1 1, .slice none (L.length - at_) (c - at_)] 22)
      have bd : Below w1.heap.size w1 ((w1.alloc (.cells #[.int .i64 n, .slice none 0 0, .int .i64 0] 43)).alloc (.cells #[.slice none at_ 0, .slice (some ⟨w1.heap.size, 0, none⟩) 1 1, .slice none (L.length - at_) (c - at_)] 22)).drew := ba.drew
      have hB3 : Blk ((w1.alloc (.cells #[.int .i64 n, .slice none 0 0, .int .i64 0] 43)).alloc (.cells #[.slice none at_ 0, .slice (some ⟨w1.heap.size, 0, none⟩) 1 1, .slice none (L.length - at_) (c - at_)] 22)).drew (w1.heap.size + 1) 22 #[.slice none at_ 0, .slice (some ⟨w1.heap.size, 0, none⟩) 1 1, .slice none (L.length - at_) (c - at_)] := by
        have := Blk.new (w1.alloc (.cells #[.int .i64 n, .slice none 0 0, .int .i64 0] 43)) 22 #[.slice none at_ 0, .slice (some ⟨w1.heap.size, 0, none⟩) 1 1, .slice none (L.length - at_) (c - at_)]
        have h2 : Blk ((w1.alloc (.cells #[.int .i64 n, .slice none 0 0, .int .i64 0] 43)).alloc (.cells #[.slice none at_ 0, .slice (some ⟨w1.heap.size, 0, none⟩) 1 1, .slice none (L.length - at_) (c - at_)] 22)) (w1.heap.size + 1) 22 #[.slice none at_ 0, .slice (some ⟨w1.heap.size, 0, none⟩) 1 1, .slice none (L.length - at_) (c - at_)] := by simpa using this
        exact h2.drew
      have hB1 : Blk ((w1.alloc (.cells #[.int .i64 n, .slice none 0 0, .int .i64 0] 43)).alloc (.cells #[.slice none at_ 0, .slice (some ⟨w1.heap.size, 0, none⟩) 1 1, .slice none (L.length - at_) (c - at_)] 22)).drew w1.heap.size 43 #[.int .i64 n, .slice none 0 0, .int .i64 0] := ((Blk.new w1 43 #[.int .i64 n, .slice none 0 0, .int .i64 0]).alloc _).drew
      have hD := HD.out.later (below_on bb bd)
      have l1 : Lies ((w1.alloc (.cells #[.int .i64 n, .slice none 0 0, .int .i64 0] 43)).alloc (.cells #[.slice none at_ 0, .slice (some ⟨w1.heap.size, 0, none⟩) 1 1, .slice none (L.length - at_) (c - at_)] 22)).drew none (fCells (L.take at_)) := lies_take hD at_
      have l2 : Lies ((w1.alloc (.cells #[.int .i64 n, .slice none 0 0, .int .i64 0] 43)).alloc (.cells #[.slice none at_ 0, .slice (some ⟨w1.heap.size, 0, none⟩) 1 1, .slice none (L.length - at_) (c - at_)] 22)).drew (some ⟨w1.heap.size, 0, none⟩) (fCells [(⟨n, none, 0, [], 0⟩ : Fc)]) := fun _ => ⟨w1.heap.size, 0, rfl, fun j u hu => by rw [Nat.zero_add]; exact hB1.cell (by simpa [fCells] using hu)⟩
      have l3 : Lies ((w1.alloc (.cells #[.int .i64 n, .slice none 0 0, .int .i64 0] 43)).alloc (.cells #[.slice none at_ 0, .slice (some ⟨w1.heap.size, 0, none⟩) 1 1, .slice none (L.length - at_) (c - at_)] 22)).drew none (fCells (L.drop at_)) := (by rw [List.drop_of_length_le (by omega)]; exact Lies.nil)
      have CC := Lib.hid (concatF_any (w1.heap.size + 1) none (some ⟨w1.heap.size, 0, none⟩) none 0 1 (c - at_) at_ 1 (L.length - at_) (fCells (L.take at_)) (fCells [(⟨n, none, 0, [], 0⟩ : Fc)]) (fCells (L.drop at_)) _ hB3 (fun _ => by omega) (fun h => by cases h) (fun _ => by omega) (by rw [fCells_length, List.length_take]; omega) rfl (by rw [fCells_length, List.length_drop]; first | done | omega) (fCells_one _) (fCells_one _) (fCells_one _) l1 l2 l3 (by omega))
      have FINS := Lib.hid (fun (w5 : World) (V : Option Addr) (cv : Nat) (hb : Below (((w1.alloc (.cells #[.int .i64 n, .slice none 0 0, .int .i64 0] 43)).alloc (.cells #[.slice none at_ 0, .slice (some ⟨w1.heap.size, 0, none⟩) 1 1, .slice none (L.length - at_) (c - at_)] 22)).drew).heap.size (((w1.alloc (.cells #[.int .i64 n, .slice none 0 0, .int .i64 0] 43)).alloc (.cells #[.slice none at_ 0, .slice (some ⟨w1.heap.size, 0, none⟩) 1 1, .slice none (L.length - at_) (c - at_)] 22)).drew) w5) (ho : w5.ownsRow (((w1.alloc (.cells #[.int .i64 n, .slice none 0 0, .int .i64 0] 43)).alloc (.cells #[.slice none at_ 0, .slice (some ⟨w1.heap.size, 0, none⟩) 1 1, .slice none (L.length - at_) (c - at_)] 22)).drew).heap.size 43 3 (.slice V (at_ + 1 + (L.length - at_)) cv) (at_ + 1 + (L.length - at_)) (fCells (L.take at_) ++ fCells [(⟨n, none, 0, [], 0⟩ : Fc)] ++ fCells (L.drop at_))) =>
        (show (w5.cell? ⟨w.heap.size, 1, none⟩ = some (.slice none L.length c) ∧ w5.frozen? ⟨w.heap.size, 1, none⟩ = false) ∧ ∀ W, W = w5.setCell ⟨w.heap.size, 1, none⟩ (.slice V (at_ + 1 + (L.length - at_)) cv) → Blk W w.heap.size 24 #[.int .i64 room, .slice V (at_ + 1 + (L.length - at_)) cv] ∧ Blk W (w.heap.size + 1) 24 #[.int .i64 0, .slice none 0 0] ∧ Below w.heap.size w W ∧ (∀ W', Below w.heap.size W W' → (∀ k, w.heap.size + 2 ≤ k → W'.heap[k]? = W.heap[k]?) → OneD W' V cv (L.take at_ ++ (⟨n, none, 0, [], 0⟩ : Fc) :: L.drop at_)) from by
          have z5 := (Z0.later bd).later hb
          have y5 := (Z1.later bd).later hb
          refine ⟨⟨z5.cell (i := 1) rfl, z5.free 1⟩, fun W hW => ?_⟩
          have b5 := below_on (below_on bb bd) hb
          have hbW : Below w.heap.size w W := by rw [hW]; exact b5.setCell (p := ⟨w.heap.size, 1, none⟩) (Nat.le_refl _) _
          refine ⟨by rw [hW]; exact z5.put 1 _, by rw [hW]; exact y5.far (by show w.heap.size + 1 ≠ w.heap.size; omega) _, hbW, fun W' hb' hhi => ?_⟩
          have hl : L.take at_ ++ (⟨n, none, 0, [], 0⟩ : Fc) :: L.drop at_ = L.take at_ ++ [(⟨n, none, 0, [], 0⟩ : Fc)] ++ L.drop at_ := by simp
          have hbl := hbW.trans hb'
          obtain ⟨A', c', hv, h1, h2, h3, -⟩ := own_form ho
          injection hv with hv1 hv2 hv3
          subst hv1 hv3
          have hnn : (L.take at_ ++ (⟨n, none, 0, [], 0⟩ : Fc) :: L.drop at_).length = at_ + 1 + (L.length - at_) := by rw [List.length_append, List.length_cons, List.length_take, List.length_drop]; omega
          refine ⟨by rw [hnn]; exact h1, h2, (fun h => by rw [hnn]; exact h3 h), ?_, fun f hf => ?_⟩
          · have hown : W'.ownsRow (((w1.alloc (.cells #[.int .i64 n, .slice none 0 0, .int .i64 0] 43)).alloc (.cells #[.slice none at_ 0, .slice (some ⟨w1.heap.size, 0, none⟩) 1 1, .slice none (L.length - at_) (c - at_)] 22)).drew).heap.size 43 3 (.slice V (at_ + 1 + (L.length - at_)) cv) (at_ + 1 + (L.length - at_)) (fCells (L.take at_) ++ fCells [(⟨n, none, 0, [], 0⟩ : Fc)] ++ fCells (L.drop at_)) := own_stays ho (fun k hk => by
              have hk1 := own_ge ho k hk
              have hk2 : w.heap.size + 2 ≤ k := by
                have q1 := Z1.lt
                have q2 := bd.size
                omega
              rw [hhi k hk2, hW]
              exact Below.heap_setCell _ _ _ _ (by show k ≠ w.heap.size; omega))
            obtain ⟨A', c', hv, -, -, -, h5⟩ := own_form hown
            injection hv with hv1 hv2 hv3
            subst hv1
            rw [hl, fCells_append, fCells_append]
            exact h5
          · rcases List.mem_append.1 hf with hf | hf
            · exact (HD.out.each f (List.mem_of_mem_take hf)).later hbl
            · rcases List.mem_cons.1 hf with rfl | hf
              · exact ⟨Nat.le_refl _, Nat.zero_le _, fun _ => ⟨rfl, rfl⟩, Lies.nil, fun _ h => by cases h⟩
              · exact (HD.out.each f (List.mem_of_mem_drop hf)).later hbl))
      have a1 := below_new (Below.refl w1.heap.size w1) (.cells #[.int .i64 n, .slice none 0 0, .int .i64 0] 43)
      have r1 := cell_later a1 c1
      clear l1 l2 l3 hB1 hB3 hD ba bd Z0 Z1 a1
      go_wp2_with fail
      go_region_with (go_at_call 45; refine CC.out.mono ?_; rintro e w5 ⟨v, rfl, ho, b5⟩; obtain ⟨V, cv, rfl, -, -, -, -⟩ := own_form ho; have ff := FINS.out w5 V cv b5 ho; have u1 := ff.1.1; have u2 := ff.1.2; have FF := Lib.hid ff.2; clear ff ho)
      all_goals
        obtain ⟨uZ, uY, uB, uO⟩ := FF.out _ rfl
        have c0' := uZ.cell (i := 0) rfl
        have c1' := uZ.cell (i := 1) rfl
        have y0 := uY.cell (i := 0) rfl
        have y1 := uY.cell (i := 1) rfl
        have s0 := uY.free 0
        have s1' := uY.free 1
        have hz := (uY.put 0 (.int .i64 room)).put 1 (.slice V (at_ + 1 + (L.length - at_)) cv)
        have z0 := Lib.hid (hz.cell (i := 0) rfl)
        have z1 := Lib.hid (hz.cell (i := 1) rfl)
        have hbs := ((Below.refl w.heap.size (w5.setCell ⟨w.heap.size, 1, none⟩ (.slice V (at_ + 1 + (L.length - at_)) cv))).setCell (p := ⟨w.heap.size + 1, 0, none⟩) (by show w.heap.size ≤ w.heap.size + 1; omega) (.int .i64 room)).setCell (p := ⟨w.heap.size + 1, 1, none⟩) (by show w.heap.size ≤ w.heap.size + 1; omega) (.slice V (at_ + 1 + (L.length - at_)) cv)
        have hnn : (L.take at_ ++ (⟨n, none, 0, [], 0⟩ : Fc) :: L.drop at_).length = at_ + 1 + (L.length - at_) := by rw [List.length_append, List.length_cons, List.length_take, List.length_drop]; omega
        have FIN := Lib.hid (show GivesO room ((L.take at_ ++ (⟨n, none, 0, [], 0⟩ : Fc) :: L.drop at_).map Fc.fi) w (.returned (.agg #[.int .i64 room, .slice V (at_ + 1 + (L.length - at_)) cv])) _ from ⟨V, cv, _, by rw [hnn], uO _ hbs (fun k hk => (Below.heap_setCell _ _ _ _ (by show k ≠ w.heap.size + 1; omega)).trans (Below.heap_setCell _ _ _ _ (by show k ≠ w.heap.size + 1; omega))), rfl, uB.trans hbs⟩)
        clear uZ uY uB uO hz hbs hnn FF FINS CC
        go_wp2
        have z0 := z0.out
        have z1 := z1.out
        exact bodyPost_ret (v := .agg #[.int .i64 room, .slice V (at_ + 1 + (L.length - at_)) cv]) (by simp [results, Try.results31, go_sem, z0, z1]) rfl FIN.out
    | some ad =>
      by_cases hcc : at_ = c
      · subst hcc
        have hLc1 : L.length ≤ at_ := by omega
        clear i2 n3 hca
        have ba := below_new (below_new (Below.refl w1.heap.size w1) (.cells #[.int .i64 n, .slice none 0 0, .int .i64 0] 43)) (.cells #[.slice (some ad) at_ at_, .slice (some ⟨w1.heap.size, 0, none⟩) 1 1, .slice (some ad) 0 0] 22)
        have bd : Below w1.heap.size w1 ((w1.alloc (.cells #[.int .i64 n, .slice none 0 0, .int .i64 0] 43)).alloc (.cells #[.slice (some ad) at_ at_, .slice (some ⟨w1.heap.size, 0, none⟩) 1 1, .slice (some ad) 0 0] 22)).drew := ba.drew
        have hB3 : Blk ((w1.alloc (.cells #[.int .i64 n, .slice none 0 0, .int .i64 0] 43)).alloc (.cells #[.slice (some ad) at_ at_, .slice (some ⟨w1.heap.size, 0, none⟩) 1 1, .slice (some ad) 0 0] 22)).drew (w1.heap.size + 1) 22 #[.slice (some ad) at_ at_, .slice (some ⟨w1.heap.size, 0, none⟩) 1 1, .slice (some ad) 0 0] := by
          have := Blk.new (w1.alloc (.cells #[.int .i64 n, .slice none 0 0, .int .i64 0] 43)) 22 #[.slice (some ad) at_ at_, .slice (some ⟨w1.heap.size, 0, none⟩) 1 1, .slice (some ad) 0 0]
          have h2 : Blk ((w1.alloc (.cells #[.int .i64 n, .slice none 0 0, .int .i64 0] 43)).alloc (.cells #[.slice (some ad) at_ at_, .slice (some ⟨w1.heap.size, 0, none⟩) 1 1, .slice (some ad) 0 0] 22)) (w1.heap.size + 1) 22 #[.slice (some ad) at_ at_, .slice (some ⟨w1.heap.size, 0, none⟩) 1 1, .slice (some ad) 0 0] := by simpa using this
          exact h2.drew
        have hB1 : Blk ((w1.alloc (.cells #[.int .i64 n, .slice none 0 0, .int .i64 0] 43)).alloc (.cells #[.slice (some ad) at_ at_, .slice (some ⟨w1.heap.size, 0, none⟩) 1 1, .slice (some ad) 0 0] 22)).drew w1.heap.size 43 #[.int .i64 n, .slice none 0 0, .int .i64 0] := ((Blk.new w1 43 #[.int .i64 n, .slice none 0 0, .int .i64 0]).alloc _).drew
        have hD := HD.out.later (below_on bb bd)
        have l1 : Lies ((w1.alloc (.cells #[.int .i64 n, .slice none 0 0, .int .i64 0] 43)).alloc (.cells #[.slice (some ad) at_ at_, .slice (some ⟨w1.heap.size, 0, none⟩) 1 1, .slice (some ad) 0 0] 22)).drew (some ad) (fCells (L.take at_)) := lies_take hD at_
        have l2 : Lies ((w1.alloc (.cells #[.int .i64 n, .slice none 0 0, .int .i64 0] 43)).alloc (.cells #[.slice (some ad) at_ at_, .slice (some ⟨w1.heap.size, 0, none⟩) 1 1, .slice (some ad) 0 0] 22)).drew (some ⟨w1.heap.size, 0, none⟩) (fCells [(⟨n, none, 0, [], 0⟩ : Fc)]) := fun _ => ⟨w1.heap.size, 0, rfl, fun j u hu => by rw [Nat.zero_add]; exact hB1.cell (by simpa [fCells] using hu)⟩
        have l3 : Lies ((w1.alloc (.cells #[.int .i64 n, .slice none 0 0, .int .i64 0] 43)).alloc (.cells #[.slice (some ad) at_ at_, .slice (some ⟨w1.heap.size, 0, none⟩) 1 1, .slice (some ad) 0 0] 22)).drew (some ad) (fCells (L.drop at_)) := (by rw [List.drop_of_length_le (by omega)]; exact Lies.nil)
        have CC := Lib.hid (concatF_any (w1.heap.size + 1) (some ad) (some ⟨w1.heap.size, 0, none⟩) (some ad) at_ 1 0 at_ 1 0 (fCells (L.take at_)) (fCells [(⟨n, none, 0, [], 0⟩ : Fc)]) (fCells (L.drop at_)) _ hB3 (fun h => by cases h) (fun h => by cases h) (fun h => by cases h) (by rw [fCells_length, List.length_take]; omega) rfl (by rw [fCells_length, List.length_drop]; first | done | omega) (fCells_one _) (fCells_one _) (fCells_one _) l1 l2 l3 (by omega))
        have FINS := Lib.hid (fun (w5 : World) (V : Option Addr) (cv : Nat) (hb : Below (((w1.alloc (.cells #[.int .i64 n, .slice none 0 0, .int .i64 0] 43)).alloc (.cells #[.slice (some ad) at_ at_, .slice (some ⟨w1.heap.size, 0, none⟩) 1 1, .slice (some ad) 0 0] 22)).drew).heap.size (((w1.alloc (.cells #[.int .i64 n, .slice none 0 0, .int .i64 0] 43)).alloc (.cells #[.slice (some ad) at_ at_, .slice (some ⟨w1.heap.size, 0, none⟩) 1 1, .slice (some ad) 0 0] 22)).drew) w5) (ho : w5.ownsRow (((w1.alloc (.cells #[.int .i64 n, .slice none 0 0, .int .i64 0] 43)).alloc (.cells #[.slice (some ad) at_ at_, .slice (some ⟨w1.heap.size, 0, none⟩) 1 1, .slice (some ad) 0 0] 22)).drew).heap.size 43 3 (.slice V (at_ + 1) cv) (at_ + 1) (fCells (L.take at_) ++ fCells [(⟨n, none, 0, [], 0⟩ : Fc)] ++ fCells (L.drop at_))) =>
          (show (w5.cell? ⟨w.heap.size, 1, none⟩ = some (.slice (some ad) L.length at_) ∧ w5.frozen? ⟨w.heap.size, 1, none⟩ = false) ∧ ∀ W, W = w5.setCell ⟨w.heap.size, 1, none⟩ (.slice V (at_ + 1) cv) → Blk W w.heap.size 24 #[.int .i64 room, .slice V (at_ + 1) cv] ∧ Blk W (w.heap.size + 1) 24 #[.int .i64 0, .slice none 0 0] ∧ Below w.heap.size w W ∧ (∀ W', Below w.heap.size W W' → (∀ k, w.heap.size + 2 ≤ k → W'.heap[k]? = W.heap[k]?) → OneD W' V cv (L.take at_ ++ (⟨n, none, 0, [], 0⟩ : Fc) :: L.drop at_)) from by
            have z5 := (Z0.later bd).later hb
            have y5 := (Z1.later bd).later hb
            refine ⟨⟨z5.cell (i := 1) rfl, z5.free 1⟩, fun W hW => ?_⟩
            have b5 := below_on (below_on bb bd) hb
            have hbW : Below w.heap.size w W := by rw [hW]; exact b5.setCell (p := ⟨w.heap.size, 1, none⟩) (Nat.le_refl _) _
            refine ⟨by rw [hW]; exact z5.put 1 _, by rw [hW]; exact y5.far (by show w.heap.size + 1 ≠ w.heap.size; omega) _, hbW, fun W' hb' hhi => ?_⟩
            have hl : L.take at_ ++ (⟨n, none, 0, [], 0⟩ : Fc) :: L.drop at_ = L.take at_ ++ [(⟨n, none, 0, [], 0⟩ : Fc)] ++ L.drop at_ := by simp
            have hbl := hbW.trans hb'
            obtain ⟨A', c', hv, h1, h2, h3, -⟩ := own_form ho
            injection hv with hv1 hv2 hv3
            subst hv1 hv3
            have hnn : (L.take at_ ++ (⟨n, none, 0, [], 0⟩ : Fc) :: L.drop at_).length = at_ + 1 := by rw [List.length_append, List.length_cons, List.length_take, List.length_drop]; omega
            refine ⟨by rw [hnn]; exact h1, h2, (fun h => by rw [hnn]; exact h3 h), ?_, fun f hf => ?_⟩
            · have hown : W'.ownsRow (((w1.alloc (.cells #[.int .i64 n, .slice none 0 0, .int .i64 0] 43)).alloc (.cells #[.slice (some ad) at_ at_, .slice (some ⟨w1.heap.size, 0, none⟩) 1 1, .slice (some ad) 0 0] 22)).drew).heap.size 43 3 (.slice V (at_ + 1) cv) (at_ + 1) (fCells (L.take at_) ++ fCells [(⟨n, none, 0, [], 0⟩ : Fc)] ++ fCells (L.drop at_)) := own_stays ho (fun k hk => by
                have hk1 := own_ge ho k hk
                have hk2 : w.heap.size + 2 ≤ k := by
                  have q1 := Z1.lt
                  have q2 := bd.size
                  omega
                rw [hhi k hk2, hW]
                exact Below.heap_setCell _ _ _ _ (by show k ≠ w.heap.size; omega))
              obtain ⟨A', c', hv, -, -, -, h5⟩ := own_form hown
              injection hv with hv1 hv2 hv3
              subst hv1
              rw [hl, fCells_append, fCells_append]
              exact h5
            · rcases List.mem_append.1 hf with hf | hf
              · exact (HD.out.each f (List.mem_of_mem_take hf)).later hbl
              · rcases List.mem_cons.1 hf with rfl | hf
                · exact ⟨Nat.le_refl _, Nat.zero_le _, fun _ => ⟨rfl, rfl⟩, Lies.nil, fun _ h => by cases h⟩
                · exact (HD.out.each f (List.mem_of_mem_drop hf)).later hbl))
        have a1 := below_new (Below.refl w1.heap.size w1) (.cells #[.int .i64 n, .slice none 0 0, .int .i64 0] 43)
        have r1 := cell_later a1 c1
        clear l1 l2 l3 hB1 hB3 hD ba bd Z0 Z1 a1
        go_wp2_with fail
        go_region_with (go_at_call 45; refine CC.out.mono ?_; rintro e w5 ⟨v, rfl, ho, b5⟩; obtain ⟨V, cv, rfl, -, -, -, -⟩ := own_form ho; have ff := FINS.out w5 V cv b5 ho; have u1 := ff.1.1; have u2 := ff.1.2; have FF := Lib.hid ff.2; clear ff ho)
        all_goals
          obtain ⟨uZ, uY, uB, uO⟩ := FF.out _ rfl
          have c0' := uZ.cell (i := 0) rfl
          have c1' := uZ.cell (i := 1) rfl
          have y0 := uY.cell (i := 0) rfl
          have y1 := uY.cell (i := 1) rfl
          have s0 := uY.free 0
          have s1' := uY.free 1
          have hz := (uY.put 0 (.int .i64 room)).put 1 (.slice V (at_ + 1) cv)
          have z0 := Lib.hid (hz.cell (i := 0) rfl)
          have z1 := Lib.hid (hz.cell (i := 1) rfl)
          have hbs := ((Below.refl w.heap.size (w5.setCell ⟨w.heap.size, 1, none⟩ (.slice V (at_ + 1) cv))).setCell (p := ⟨w.heap.size + 1, 0, none⟩) (by show w.heap.size ≤ w.heap.size + 1; omega) (.int .i64 room)).setCell (p := ⟨w.heap.size + 1, 1, none⟩) (by show w.heap.size ≤ w.heap.size + 1; omega) (.slice V (at_ + 1) cv)
          have hnn : (L.take at_ ++ (⟨n, none, 0, [], 0⟩ : Fc) :: L.drop at_).length = at_ + 1 := by rw [List.length_append, List.length_cons, List.length_take, List.length_drop]; omega
          have FIN := Lib.hid (show GivesO room ((L.take at_ ++ (⟨n, none, 0, [], 0⟩ : Fc) :: L.drop at_).map Fc.fi) w (.returned (.agg #[.int .i64 room, .slice V (at_ + 1) cv])) _ from ⟨V, cv, _, by rw [hnn], uO _ hbs (fun k hk => (Below.heap_setCell _ _ _ _ (by show k ≠ w.heap.size + 1; omega)).trans (Below.heap_setCell _ _ _ _ (by show k ≠ w.heap.size + 1; omega))), rfl, uB.trans hbs⟩)
          clear uZ uY uB uO hz hbs hnn FF FINS CC
          go_wp2
          have z0 := z0.out
          have z1 := z1.out
          exact bodyPost_ret (v := .agg #[.int .i64 room, .slice V (at_ + 1) cv]) (by simp [results, Try.results31, go_sem, z0, z1]) rfl FIN.out
      · have hcc' : ¬ c = at_ := fun e => hcc e.symm
        have hlt : at_ < c := by omega
        have ba := below_new (below_new (Below.refl w1.heap.size w1) (.cells #[.int .i64 n, .slice none 0 0, .int .i64 0] 43)) (.cells #[.slice (some ad) at_ c, .slice (some ⟨w1.heap.size, 0, none⟩) 1 1, .slice (some (ad.add (at_ * 3))) (L.length - at_) (c - at_)] 22)
        have bd : Below w1.heap.size w1 ((w1.alloc (.cells #[.int .i64 n, .slice none 0 0, .int .i64 0] 43)).alloc (.cells #[.slice (some ad) at_ c, .slice (some ⟨w1.heap.size, 0, none⟩) 1 1, .slice (some (ad.add (at_ * 3))) (L.length - at_) (c - at_)] 22)).drew := ba.drew
        have hB3 : Blk ((w1.alloc (.cells #[.int .i64 n, .slice none 0 0, .int .i64 0] 43)).alloc (.cells #[.slice (some ad) at_ c, .slice (some ⟨w1.heap.size, 0, none⟩) 1 1, .slice (some (ad.add (at_ * 3))) (L.length - at_) (c - at_)] 22)).drew (w1.heap.size + 1) 22 #[.slice (some ad) at_ c, .slice (some ⟨w1.heap.size, 0, none⟩) 1 1, .slice (some (ad.add (at_ * 3))) (L.length - at_) (c - at_)] := by
          have := Blk.new (w1.alloc (.cells #[.int .i64 n, .slice none 0 0, .int .i64 0] 43)) 22 #[.slice (some ad) at_ c, .slice (some ⟨w1.heap.size, 0, none⟩) 1 1, .slice (some (ad.add (at_ * 3))) (L.length - at_) (c - at_)]
          have h2 : Blk ((w1.alloc (.cells #[.int .i64 n, .slice none 0 0, .int .i64 0] 43)).alloc (.cells #[.slice (some ad) at_ c, .slice (some ⟨w1.heap.size, 0, none⟩) 1 1, .slice (some (ad.add (at_ * 3))) (L.length - at_) (c - at_)] 22)) (w1.heap.size + 1) 22 #[.slice (some ad) at_ c, .slice (some ⟨w1.heap.size, 0, none⟩) 1 1, .slice (some (ad.add (at_ * 3))) (L.length - at_) (c - at_)] := by simpa using this
          exact h2.drew
        have hB1 : Blk ((w1.alloc (.cells #[.int .i64 n, .slice none 0 0, .int .i64 0] 43)).alloc (.cells #[.slice (some ad) at_ c, .slice (some ⟨w1.heap.size, 0, none⟩) 1 1, .slice (some (ad.add (at_ * 3))) (L.length - at_) (c - at_)] 22)).drew w1.heap.size 43 #[.int .i64 n, .slice none 0 0, .int .i64 0] := ((Blk.new w1 43 #[.int .i64 n, .slice none 0 0, .int .i64 0]).alloc _).drew
        have hD := HD.out.later (below_on bb bd)
        have l1 : Lies ((w1.alloc (.cells #[.int .i64 n, .slice none 0 0, .int .i64 0] 43)).alloc (.cells #[.slice (some ad) at_ c, .slice (some ⟨w1.heap.size, 0, none⟩) 1 1, .slice (some (ad.add (at_ * 3))) (L.length - at_) (c - at_)] 22)).drew (some ad) (fCells (L.take at_)) := lies_take hD at_
        have l2 : Lies ((w1.alloc (.cells #[.int .i64 n, .slice none 0 0, .int .i64 0] 43)).alloc (.cells #[.slice (some ad) at_ c, .slice (some ⟨w1.heap.size, 0, none⟩) 1 1, .slice (some (ad.add (at_ * 3))) (L.length - at_) (c - at_)] 22)).drew (some ⟨w1.heap.size, 0, none⟩) (fCells [(⟨n, none, 0, [], 0⟩ : Fc)]) := fun _ => ⟨w1.heap.size, 0, rfl, fun j u hu => by rw [Nat.zero_add]; exact hB1.cell (by simpa [fCells] using hu)⟩
        have l3 : Lies ((w1.alloc (.cells #[.int .i64 n, .slice none 0 0, .int .i64 0] 43)).alloc (.cells #[.slice (some ad) at_ c, .slice (some ⟨w1.heap.size, 0, none⟩) 1 1, .slice (some (ad.add (at_ * 3))) (L.length - at_) (c - at_)] 22)).drew (some (ad.add (at_ * 3))) (fCells (L.drop at_)) := lies_drop hD at_
        have CC := Lib.hid (concatF_any (w1.heap.size + 1) (some ad) (some ⟨w1.heap.size, 0, none⟩) (some (ad.add (at_ * 3))) c 1 (c - at_) at_ 1 (L.length - at_) (fCells (L.take at_)) (fCells [(⟨n, none, 0, [], 0⟩ : Fc)]) (fCells (L.drop at_)) _ hB3 (fun h => by cases h) (fun h => by cases h) (fun h => by cases h) (by rw [fCells_length, List.length_take]; omega) rfl (by rw [fCells_length, List.length_drop]; first | done | omega) (fCells_one _) (fCells_one _) (fCells_one _) l1 l2 l3 (by omega))
        have FINS := Lib.hid (fun (w5 : World) (V : Option Addr) (cv : Nat) (hb : Below (((w1.alloc (.cells #[.int .i64 n, .slice none 0 0, .int .i64 0] 43)).alloc (.cells #[.slice (some ad) at_ c, .slice (some ⟨w1.heap.size, 0, none⟩) 1 1, .slice (some (ad.add (at_ * 3))) (L.length - at_) (c - at_)] 22)).drew).heap.size (((w1.alloc (.cells #[.int .i64 n, .slice none 0 0, .int .i64 0] 43)).alloc (.cells #[.slice (some ad) at_ c, .slice (some ⟨w1.heap.size, 0, none⟩) 1 1, .slice (some (ad.add (at_ * 3))) (L.length - at_) (c - at_)] 22)).drew) w5) (ho : w5.ownsRow (((w1.alloc (.cells #[.int .i64 n, .slice none 0 0, .int .i64 0] 43)).alloc (.cells #[.slice (some ad) at_ c, .slice (some ⟨w1.heap.size, 0, none⟩) 1 1, .slice (some (ad.add (at_ * 3))) (L.length - at_) (c - at_)] 22)).drew).heap.size 43 3 (.slice V (at_ + 1 + (L.length - at_)) cv) (at_ + 1 + (L.length - at_)) (fCells (L.take at_) ++ fCells [(⟨n, none, 0, [], 0⟩ : Fc)] ++ fCells (L.drop at_))) =>
          (show (w5.cell? ⟨w.heap.size, 1, none⟩ = some (.slice (some ad) L.length c) ∧ w5.frozen? ⟨w.heap.size, 1, none⟩ = false) ∧ ∀ W, W = w5.setCell ⟨w.heap.size, 1, none⟩ (.slice V (at_ + 1 + (L.length - at_)) cv) → Blk W w.heap.size 24 #[.int .i64 room, .slice V (at_ + 1 + (L.length - at_)) cv] ∧ Blk W (w.heap.size + 1) 24 #[.int .i64 0, .slice none 0 0] ∧ Below w.heap.size w W ∧ (∀ W', Below w.heap.size W W' → (∀ k, w.heap.size + 2 ≤ k → W'.heap[k]? = W.heap[k]?) → OneD W' V cv (L.take at_ ++ (⟨n, none, 0, [], 0⟩ : Fc) :: L.drop at_)) from by
            have z5 := (Z0.later bd).later hb
            have y5 := (Z1.later bd).later hb
            refine ⟨⟨z5.cell (i := 1) rfl, z5.free 1⟩, fun W hW => ?_⟩
            have b5 := below_on (below_on bb bd) hb
            have hbW : Below w.heap.size w W := by rw [hW]; exact b5.setCell (p := ⟨w.heap.size, 1, none⟩) (Nat.le_refl _) _
            refine ⟨by rw [hW]; exact z5.put 1 _, by rw [hW]; exact y5.far (by show w.heap.size + 1 ≠ w.heap.size; omega) _, hbW, fun W' hb' hhi => ?_⟩
            have hl : L.take at_ ++ (⟨n, none, 0, [], 0⟩ : Fc) :: L.drop at_ = L.take at_ ++ [(⟨n, none, 0, [], 0⟩ : Fc)] ++ L.drop at_ := by simp
            have hbl := hbW.trans hb'
            obtain ⟨A', c', hv, h1, h2, h3, -⟩ := own_form ho
            injection hv with hv1 hv2 hv3
            subst hv1 hv3
            have hnn : (L.take at_ ++ (⟨n, none, 0, [], 0⟩ : Fc) :: L.drop at_).length = at_ + 1 + (L.length - at_) := by rw [List.length_append, List.length_cons, List.length_take, List.length_drop]; omega
            refine ⟨by rw [hnn]; exact h1, h2, (fun h => by rw [hnn]; exact h3 h), ?_, fun f hf => ?_⟩
            · have hown : W'.ownsRow (((w1.alloc (.cells #[.int .i64 n, .slice none 0 0, .int .i64 0] 43)).alloc (.cells #[.slice (some ad) at_ c, .slice (some ⟨w1.heap.size, 0, none⟩) 1 1, .slice (some (ad.add (at_ * 3))) (L.length - at_) (c - at_)] 22)).drew).heap.size 43 3 (.slice V (at_ + 1 + (L.length - at_)) cv) (at_ + 1 + (L.length - at_)) (fCells (L.take at_) ++ fCells [(⟨n, none, 0, [], 0⟩ : Fc)] ++ fCells (L.drop at_)) := own_stays ho (fun k hk => by
                have hk1 := own_ge ho k hk
                have hk2 : w.heap.size + 2 ≤ k := by
                  have q1 := Z1.lt
                  have q2 := bd.size
                  omega
                rw [hhi k hk2, hW]
                exact Below.heap_setCell _ _ _ _ (by show k ≠ w.heap.size; omega))
              obtain ⟨A', c', hv, -, -, -, h5⟩ := own_form hown
              injection hv with hv1 hv2 hv3
              subst hv1
              rw [hl, fCells_append, fCells_append]
              exact h5
            · rcases List.mem_append.1 hf with hf | hf
              · exact (HD.out.each f (List.mem_of_mem_take hf)).later hbl
              · rcases List.mem_cons.1 hf with rfl | hf
                · exact ⟨Nat.le_refl _, Nat.zero_le _, fun _ => ⟨rfl, rfl⟩, Lies.nil, fun _ h => by cases h⟩
                · exact (HD.out.each f (List.mem_of_mem_drop hf)).later hbl))
        have a1 := below_new (Below.refl w1.heap.size w1) (.cells #[.int .i64 n, .slice none 0 0, .int .i64 0] 43)
        have r1 := cell_later a1 c1
        clear l1 l2 l3 hB1 hB3 hD ba bd Z0 Z1 a1
        go_wp2_with fail
        go_region_with (go_at_call 45; refine CC.out.mono ?_; rintro e w5 ⟨v, rfl, ho, b5⟩; obtain ⟨V, cv, rfl, -, -, -, -⟩ := own_form ho; have ff := FINS.out w5 V cv b5 ho; have u1 := ff.1.1; have u2 := ff.1.2; have FF := Lib.hid ff.2; clear ff ho)
        all_goals
          obtain ⟨uZ, uY, uB, uO⟩ := FF.out _ rfl
          have c0' := uZ.cell (i := 0) rfl
          have c1' := uZ.cell (i := 1) rfl
          have y0 := uY.cell (i := 0) rfl
          have y1 := uY.cell (i := 1) rfl
          have s0 := uY.free 0
          have s1' := uY.free 1
          have hz := (uY.put 0 (.int .i64 room)).put 1 (.slice V (at_ + 1 + (L.length - at_)) cv)
          have z0 := Lib.hid (hz.cell (i := 0) rfl)
          have z1 := Lib.hid (hz.cell (i := 1) rfl)
          have hbs := ((Below.refl w.heap.size (w5.setCell ⟨w.heap.size, 1, none⟩ (.slice V (at_ + 1 + (L.length - at_)) cv))).setCell (p := ⟨w.heap.size + 1, 0, none⟩) (by show w.heap.size ≤ w.heap.size + 1; omega) (.int .i64 room)).setCell (p := ⟨w.heap.size + 1, 1, none⟩) (by show w.heap.size ≤ w.heap.size + 1; omega) (.slice V (at_ + 1 + (L.length - at_)) cv)
          have hnn : (L.take at_ ++ (⟨n, none, 0, [], 0⟩ : Fc) :: L.drop at_).length = at_ + 1 + (L.length - at_) := by rw [List.length_append, List.length_cons, List.length_take, List.length_drop]; omega
          have FIN := Lib.hid (show GivesO room ((L.take at_ ++ (⟨n, none, 0, [], 0⟩ : Fc) :: L.drop at_).map Fc.fi) w (.returned (.agg #[.int .i64 room, .slice V (at_ + 1 + (L.length - at_)) cv])) _ from ⟨V, cv, _, by rw [hnn], uO _ hbs (fun k hk => (Below.heap_setCell _ _ _ _ (by show k ≠ w.heap.size + 1; omega)).trans (Below.heap_setCell _ _ _ _ (by show k ≠ w.heap.size + 1; omega))), rfl, uB.trans hbs⟩)
          clear uZ uY uB uO hz hbs hnn FF FINS CC
          go_wp2
          have z0 := z0.out
          have z1 := z1.out
          exact bodyPost_ret (v := .agg #[.int .i64 room, .slice V (at_ + 1 + (L.length - at_)) cv]) (by simp [results, Try.results31, go_sem, z0, z1]) rfl FIN.out
end Go.Proofs.Ytgjcpdcepmgafaa
