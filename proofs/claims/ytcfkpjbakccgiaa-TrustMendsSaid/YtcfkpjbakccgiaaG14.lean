/-
  What a round of a loop over a function keeps, where the function lays cells of its own while it goes: all cells but those that the caller laid between its own beginning and the call. And the places of a formed list, one behind the other. Nothing of the program is imported.
  Plain mathematics of trust's Take, piece by piece: what is stretched, what stays as it is, and that all pieces put one behind the other are the zones behind a note. Nothing of the program is imported.
  What slices.Equal of stamps answers; trust's goesOn, mayFollow, alone, everything.
  What is asked of each of span's functions (its contract), as one structure. With it: the fixed fact 'alive'.
-/
import Derived.Test.YtcfkpjbakccgiaaG13
import Derived.Test.YtcfkpjbakccgiaaG06
import Derived.Test.YtcfkpjbakccgiaaG03
namespace Go.Proofs.Ytcfkpjbakccgiaa
open Go.RowKit

/-- All cells stay, but in the blocks from n₀ up to B. -/
def KeepC (n₀ B : Nat) (W W' : World) : Prop := W.heap.size ≤ W'.heap.size ∧ ∀ k o, W.heap[k]? = some o → o.isCells = true → (k < n₀ ∨ B ≤ k) → W'.heap[k]? = some o
section
variable {n₀ B : Nat} {W W' : World}
theorem KeepC.refl (n₀ B : Nat) (W : World) : KeepC n₀ B W W := ⟨Nat.le_refl _, fun _ _ h _ _ => h⟩
theorem KeepC.trans {X Y Z : World} (h : KeepC n₀ B X Y) (k : KeepC n₀ B Y Z) : KeepC n₀ B X Z := ⟨Nat.le_trans h.1 k.1, fun i o h1 h2 h3 => k.2 i o (h.2 i o h1 h2 h3) h2 h3⟩
theorem KeepC.below (h : Below W.heap.size W W') : KeepC n₀ B W W' := ⟨h.size, fun i _ h1 _ _ => (h.block i (Array.getElem?_eq_some_iff.1 h1).1).trans h1⟩
theorem KeepC.set (W : World) (a : Addr) (v : Value) (h1 : n₀ ≤ a.block) (h2 : a.block < B) : KeepC n₀ B W (W.setCell a v) :=
  ⟨(KeepsOthers.setCell W a v).size, fun i _ hi _ h3 => (Below.heap_setCell W a v i (by omega)).trans hi⟩
theorem KeepC.mark (W : World) (l : Nat) (o o' : Obj) (h : W.heap[l]? = some o) (ho : o.isCells = false) : KeepC n₀ B W (W.putObj l o') :=
  ⟨by simp, fun i u hi hu _ => by
    by_cases e : l = i
    · subst e
      rw [h] at hi
      cases hi
      rw [ho] at hu
      cases hu
    · exact (World.putObj_heap_other (fun h => e h.symm)).trans hi⟩
theorem KeepC.cell (h : KeepC n₀ B W W') {a : Addr} {v : Value} (hc : W.cell? a = some v) (ha : a.block < n₀ ∨ B ≤ a.block) : W'.cell? a = some v := by
  obtain ⟨o, ho, hoc⟩ := cells_of_cell hc
  exact (World.cell?_of_block ((h.2 _ _ ho hoc ha).trans ho.symm)).trans hc
end

/-- What a round is told: an object. -/
def told1 (x : Int) : Array Value := #[.int .i64 x]
def tellO (x : Fin 256) : Array Value := #[.int .i64 (x.val : Int)]

namespace Sp
theorem good_sorted {l : List (Int × Int)} (h : good 256 l) (i : Nat) : ∀ j, i < j → j < l.length → (l.getD i (0, 0)).2 + 1 < (l.getD j (0, 0)).1
  | 0, h1, _ => by omega
  | j + 1, h1, h2 => by
    have h3 : (l.getD j (0, 0)).2 + 1 < (l.getD (j + 1) (0, 0)).1 := (h (j + 1) h2).2.2.2 (by omega)
    rcases Nat.lt_or_ge i j with h4 | h4
    · have := good_sorted h i j h4 (by omega)
      have := (h j (by omega)).2.1
      omega
    · rw [show i = j from by omega]
      exact h3
theorem inL_at (l : List (Int × Int)) (o : Nat) : inL l o = true ↔ ∃ j, j < l.length ∧ (l.getD j (0, 0)).1 ≤ (o : Int) ∧ (o : Int) ≤ (l.getD j (0, 0)).2 := by
  rw [inL_iff]
  constructor
  · rintro ⟨s, h1, h2⟩
    obtain ⟨j, hj, rfl⟩ := List.getElem_of_mem h1
    exact ⟨j, hj, by rw [List.getD_eq_getElem?_getD, List.getElem?_eq_getElem hj]; exact h2⟩
  · rintro ⟨j, hj, h2⟩
    rw [List.getD_eq_getElem?_getD, List.getElem?_eq_getElem hj, Option.getD_some] at h2
    exact ⟨_, List.getElem_mem hj, h2⟩
/-- Where the first k spans of a formed list end. -/
def endTo (l : List (Int × Int)) : Nat → Nat
  | 0 => 0
  | k + 1 => ((l.getD k (0, 0)).2 + 1).toNat
theorem endTo_bd (f : Nat → Bool) : ∀ k, k ≤ (ofL f).length → endTo (ofL f) k ≤ 256
  | 0, _ => Nat.zero_le _
  | k + 1, h => by
    have := (good_ofL f k h).2.2.1
    show ((((ofL f)).getD k (0, 0)).2 + 1).toNat ≤ 256
    omega
theorem span_in (f : Nat → Bool) (k : Nat) (hk : k < (ofL f).length) (p : Nat) (h1 : ((ofL f).getD k (0, 0)).1 ≤ (p : Int)) (h2 : (p : Int) ≤ ((ofL f).getD k (0, 0)).2) : f p = true := by
  have h3 := (good_ofL f k hk).2.2.1
  rw [← inL_ofL f p (by omega)]
  exact (inL_at _ _).2 ⟨k, hk, h1, h2⟩
theorem gap_out (f : Nat → Bool) (k : Nat) (p : Nat) (hp : p < 256) (h1 : endTo (ofL f) k ≤ p) (h2 : k < (ofL f).length → (p : Int) < ((ofL f).getD k (0, 0)).1) (hk : k ≤ (ofL f).length) : f p = false := by
  rcases two (f p) with h | h
  · rw [← inL_ofL f p hp] at h
    obtain ⟨j, hj, q1, q2⟩ := (inL_at _ _).1 h
    rcases Nat.lt_or_ge j k with h3 | h3
    · obtain ⟨m, rfl⟩ : ∃ m, k = m + 1 := ⟨k - 1, by omega⟩
      have h4 : (((ofL f)).getD m (0, 0)).2 + 1 ≤ (p : Int) := by
        have : ((((ofL f)).getD m (0, 0)).2 + 1).toNat ≤ p := h1
        omega
      rcases Nat.lt_or_ge j m with h5 | h5
      · have := good_sorted (good_ofL f) j m h5 (by omega)
        have := (good_ofL f m (by omega)).2.1
        omega
      · rw [show j = m from by omega] at q2
        omega
    · have h4 := h2 (by omega)
      rcases Nat.lt_or_ge k j with h5 | h5
      · have := good_sorted (good_ofL f) k j h5 hj
        have := (good_ofL f k (by omega)).2.1
        omega
      · rw [show j = k from by omega] at q1
        omega
  · exact h
/-- What has come when the objects up to k are over. -/
def comesO {α : Type} (g : Nat → α) (f : Nat → Bool) : Nat → List α
  | 0 => []
  | k + 1 => comesO g f k ++ (if f k = true then [g k] else [])
section
variable {α : Type} (g : Nat → α) (f : Nat → Bool)
theorem comesO_yes (k : Nat) (h : f k = true) : comesO g f (k + 1) = comesO g f k ++ [g k] := by rw [comesO, if_pos h]
theorem comesO_no (k : Nat) (h : f k = false) : comesO g f (k + 1) = comesO g f k := by rw [comesO, if_neg (by rw [h]; simp), List.append_nil]
theorem comesO_short : ∀ k, (comesO g f k).length ≤ k
  | 0 => Nat.le_refl _
  | k + 1 => by
    have := comesO_short k
    unfold comesO
    split <;> simp <;> omega
theorem comesO_pre (k : Nat) : ∀ m, k ≤ m → comesO g f k <+: comesO g f m
  | 0, h => by rw [Nat.le_zero.1 h]; exact List.prefix_rfl
  | m + 1, h => by
    rcases Nat.lt_or_ge m k with h1 | h1
    · rw [show k = m + 1 from by omega]; exact List.prefix_rfl
    · exact (comesO_pre k m h1).trans ⟨_, rfl⟩
theorem comesO_gap (m : Nat) : ∀ n, m ≤ n → (∀ p, m ≤ p → p < n → f p = false) → comesO g f n = comesO g f m
  | 0, h, _ => by rw [Nat.le_zero.1 h]
  | n + 1, h, hf => by
    rcases Nat.lt_or_ge n m with h1 | h1
    · rw [show m = n + 1 from by omega]
    · rw [comesO_no g f n (hf n h1 (by omega)), comesO_gap m n h1 (fun p h2 h3 => hf p h2 (by omega))]
theorem comesO_start (k : Nat) (hk : k < (ofL f).length) (o : Nat) (ho : (o : Int) = ((ofL f).getD k (0, 0)).1) : comesO g f o = comesO g f (endTo (ofL f) k) := by
  obtain ⟨g1, g2, g3, g4⟩ := good_ofL f k hk
  refine comesO_gap g f _ o ?_ fun p h1 h2 => gap_out f k p (by omega) h1 (fun _ => by omega) (by omega)
  cases k with
  | zero => exact Nat.zero_le _
  | succ m =>
    have h3 : ((ofL f).getD m (0, 0)).2 + 1 < ((ofL f).getD (m + 1) (0, 0)).1 := g4 (by omega)
    show ((((ofL f)).getD m (0, 0)).2 + 1).toNat ≤ o
    omega
theorem comesO_step (k : Nat) (hk : k < (ofL f).length) (o : Nat) (h1 : ((ofL f).getD k (0, 0)).1 ≤ (o : Int)) (h2 : (o : Int) ≤ ((ofL f).getD k (0, 0)).2) : comesO g f (o + 1) = comesO g f o ++ [g o] := comesO_yes g f o (span_in f k hk o h1 h2)
theorem comesO_end : comesO g f (endTo (ofL f) (ofL f).length) = comesO g f 256 :=
  (comesO_gap g f _ 256 (endTo_bd f _ (Nat.le_refl _)) fun p h1 h2 => gap_out f _ p h2 h1 (fun h => absurd h (Nat.lt_irrefl _)) (Nat.le_refl _)).symm
end
theorem comesO_obTo (f : Nat → Bool) : ∀ k, comesO (fun k => (k : Int)) f k = obTo f k
  | 0 => rfl
  | k + 1 => by rw [comesO, obTo, comesO_obTo f k]
theorem comesO_obL (f : Nat → Bool) : comesO (fun k => (k : Int)) f 256 = obL f := comesO_obTo f 256
/-- Object k, as one of 256. -/
def objF (k : Nat) : Fin 256 := ⟨k % 256, Nat.mod_lt _ (by omega)⟩
theorem objF_val {k : Nat} (h : k < 256) : (objF k).val = k := Nat.mod_eq_of_lt h
theorem comesO_mem (f : Nat → Bool) (i : Fin 256) : ∀ k, k ≤ 256 → (i ∈ comesO objF f k ↔ i.val < k ∧ f i.val = true)
  | 0, _ => by simp [comesO]
  | k + 1, h => by
    have ih := comesO_mem f i k (by omega)
    have hv := objF_val (k := k) (by omega)
    rw [comesO, List.mem_append, ih]
    constructor
    · rintro (⟨h1, h2⟩ | h1)
      · exact ⟨by omega, h2⟩
      · split at h1
        · rename_i hp
          rw [List.mem_singleton] at h1
          rw [h1, hv]
          exact ⟨by omega, hp⟩
        · cases h1
    · rintro ⟨h1, h2⟩
      rcases Nat.lt_or_ge i.val k with h3 | h3
      · exact .inl ⟨h3, h2⟩
      · have h4 : i.val = k := by omega
        rw [h4] at h2
        rw [if_pos h2]
        exact .inr (List.mem_singleton.2 (Fin.ext (by rw [hv]; exact h4)))
/-- Is object j among those that have come? -/
def hasF (pre : List (Fin 256)) (j : Nat) : Bool := pre.any fun i => decide (i.val = j)
theorem hasF_snoc (pre : List (Fin 256)) (x : Fin 256) (j : Nat) : hasF (pre ++ [x]) j = (hasF pre j || decide (x.val = j)) := by
  unfold hasF
  rw [List.any_append]
  simp
theorem hasF_all (f : Nat → Bool) (j : Nat) (hj : j < 256) : hasF (comesO objF f 256) j = f j := by
  rw [Bool.eq_iff_iff]
  unfold hasF
  rw [List.any_eq_true]
  constructor
  · rintro ⟨i, h1, h2⟩
    have h3 := ((comesO_mem f i 256 (Nat.le_refl _)).1 h1).2
    rw [of_decide_eq_true h2] at h3
    exact h3
  · intro h
    exact ⟨⟨j, hj⟩, (comesO_mem f ⟨j, hj⟩ 256 (Nat.le_refl _)).2 ⟨hj, h⟩, decide_eq_true rfl⟩
end Sp

end Go.Proofs.Ytcfkpjbakccgiaa
namespace Go.Proofs.Ytcfkpjbakccgiaa
open Go.RowKit

namespace Ve
theorem cnt_filter (q : Int → Bool) (n : Nat) : ∀ l : List (Int × Int), cnt (l.filter fun s => q s.2) n = if q (n : Int) = true then cnt l n else 0
  | [] => by
    show (0 : Int) = _
    split <;> rfl
  | s :: r => by
    have ih := cnt_filter q n r
    rw [List.filter_cons]
    by_cases hs : q s.2 = true
    · rw [if_pos hs]
      unfold cnt
      by_cases hc : St.rgt s.1 s.2 = true ∧ s.2 = (n : Int)
      · rw [if_pos hc, if_pos hc, if_pos (by rw [← hc.2]; exact hs)]
      · rw [if_neg hc, if_neg hc]
        exact ih
    · rw [if_neg hs, ih]
      by_cases hq : q (n : Int) = true
      · rw [if_pos hq, if_pos hq]
        have hc : ¬ (St.rgt s.1 s.2 = true ∧ s.2 = (n : Int)) := fun h => hs (by rw [h.2]; exact hq)
        show cnt r n = if _ then s.1 else cnt r n
        rw [if_neg hc]
      · rw [if_neg hq, if_neg hq]
end Ve

namespace Tr
/-- The stamps of a note's End up to which a reach goes on. -/
def ends (v : List (Int × Int)) (n : Note) : List (Int × Int) := n.e.filter fun s => !decide (countOf v s.2 < countOf n.s s.2)
/-- A reach led on. -/
def fur (v : List (Int × Int)) (n : Note) : List (Int × Int) := Ve.joinL [v, ends v n]
theorem fur_is (v : List (Int × Int)) (n : Note) : fur v n = Ve.ofL (str (Ve.cnt v) (Ve.cnt n.s) (Ve.cnt n.e)) := by
  unfold fur Ve.joinL
  refine Ve.ofL_ext (fun i hi => ?_)
  have hc : ∀ l : List (Int × Int), countOf l (i : Int) = Ve.cnt l i := fun l => by unfold countOf; rw [if_pos (by omega)]; rfl
  rw [Ve.jn_two]
  unfold ends
  rw [Ve.cnt_filter (fun m => !decide (countOf v m < countOf n.s m)), hc, hc]
  have h0 := Ve.cnt_nonneg v i
  unfold str
  by_cases h : Ve.cnt v i < Ve.cnt n.s i
  · rw [decide_eq_true h]
    simp only [Bool.not_true, Bool.false_eq_true, if_false]
    rw [if_neg (show ¬ Ve.cnt v i < 0 by omega), if_neg (show ¬ Ve.cnt n.s i ≤ Ve.cnt v i by omega)]
  · rw [decide_eq_false h]
    simp only [Bool.not_false, if_true]
    rw [if_pos (show Ve.cnt n.s i ≤ Ve.cnt v i by omega)]
/-- The objects of writes that hang in the air. -/
def torn (z : Zn) (fu : List (Int × Int)) (n : Note) : List Int := (n.ws.filter fun w => inOf [(z.1, z.2.1)] w.2.2.1 && !hasOf fu w.1 w.2.1).map fun w => w.2.2.1
/-- The spans that stay as they are. -/
def keeps (z : Zn) (fu : List (Int × Int)) (n : Note) : List (Int × Int) := Sp.meetS [(z.1, z.2.1)] (Sp.joinS [n.b, Sp.ofL (Sp.someOf (torn z fu n))])
def stay (z : Zn) (fu : List (Int × Int)) (n : Note) : List Zn := (keeps z fu n).map fun s => (s.1, s.2, z.2.2)
/-- The pieces of a piece. -/
def parts (z : Zn) (n : Note) : List Zn := pcs (fur z.2.2 n) z.2.1 z.1 (stay z (fur z.2.2 n) n)
/-- An object's reach behind a note, out of its reach. -/
def sh (v : List (Int × Int)) (n : Note) (o : Nat) : List (Int × Int) := if Sp.inL n.b o = true then v else strd v n (o : Int)

theorem at_map (v : List (Int × Int)) (o : Nat) : ∀ S : List (Int × Int), at_ (S.map fun s => ((s.1, s.2, v) : Zn)) (o : Int) = if Sp.inL S o = true then some v else none
  | [] => rfl
  | s :: r => by
    have ih := at_map v o r
    rw [List.map_cons, at_cons, ih]
    have hi : Sp.inL (s :: r) o = (holds (s.1, s.2, v) (o : Int) || Sp.inL r o) := rfl
    rw [hi]
    cases holds (s.1, s.2, v) (o : Int) <;> simp
theorem keeps_in (z : Zn) (fu : List (Int × Int)) (n : Note) {o : Nat} (ho : o < 256) (hz : holds z (o : Int) = true) : Sp.inL (keeps z fu n) o = (Sp.inL n.b o || Sp.someOf (torn z fu n) o) := by
  unfold keeps Sp.meetS
  rw [Sp.inL_ofL _ o ho]
  have h1 : Sp.inL [(z.1, z.2.1)] o = true := (Sp.inL_iff _ _).2 ⟨_, List.mem_singleton.2 rfl, of_decide_eq_true hz⟩
  rw [h1, Bool.true_and]
  unfold Sp.joinS
  rw [Sp.inL_ofL _ o ho]
  show ((false || Sp.inL n.b o) || Sp.inL (Sp.ofL (Sp.someOf (torn z fu n))) o) = _
  rw [Bool.false_or, Sp.inL_ofL _ o ho]
theorem rise_good (v : List (Int × Int)) {lo hi : Int} {S : List (Int × Int)} (hg : Sp.good 256 S) (hb : ∀ i, i < S.length → lo ≤ (S.getD i (0, 0)).1 ∧ (S.getD i (0, 0)).2 ≤ hi) : ∀ (d j : Nat), S.length - j = d → j ≤ S.length → ∀ k : Int, (j = 0 → k ≤ lo) → (0 < j → k = (S.getD (j - 1) (0, 0)).2 + 1) → Rise hi k ((S.drop j).map fun s => ((s.1, s.2, v) : Zn))
  | 0, j, hd, _, k, _, _ => by
    rw [List.drop_eq_nil_of_le (by omega)]
    trivial
  | d + 1, j, hd, hj, k, h0, h1 => by
    have hlt : j < S.length := by omega
    have hgd : S.getD j (0, 0) = S[j] := by rw [List.getD_eq_getElem?_getD, List.getElem?_eq_getElem hlt]; rfl
    obtain ⟨a1, a2, a3, a4⟩ := hg j hlt
    obtain ⟨b1, b2⟩ := hb j hlt
    rw [hgd] at a1 a2 a3 b1 b2
    rw [List.drop_eq_getElem_cons hlt, List.map_cons]
    refine ⟨?_, a2, b2, rise_good v hg hb d (j + 1) (by omega) (by omega) _ (by omega) (fun _ => by rw [Nat.add_sub_cancel, hgd])⟩
    show k ≤ S[j].1
    by_cases e : j = 0
    · have := h0 e
      omega
    · have h2 := h1 (by omega)
      have h3 := a4 (by omega)
      rw [hgd] at h3
      omega
theorem keeps_rise (z : Zn) (fu : List (Int × Int)) (n : Note) : Rise z.2.1 z.1 (stay z fu n) := by
  have hb : ∀ i, i < (keeps z fu n).length → z.1 ≤ ((keeps z fu n).getD i (0, 0)).1 ∧ ((keeps z fu n).getD i (0, 0)).2 ≤ z.2.1 := fun i hi => by
    unfold keeps Sp.meetS at hi ⊢
    have hs := Sp.span_in _ i hi
    obtain ⟨g1, g2, g3, -⟩ := Sp.good_ofL _ i hi
    generalize ((Sp.ofL fun o => Sp.inL [(z.1, z.2.1)] o && Sp.inL (Sp.joinS [n.b, Sp.ofL (Sp.someOf (torn z fu n))]) o).getD i (0, 0)) = s at hs g1 g2 g3
    have h1 := hs s.1.toNat (by omega) (by omega)
    have h2 := hs s.2.toNat (by omega) (by omega)
    rw [Bool.and_eq_true, Sp.inL_iff] at h1 h2
    obtain ⟨⟨x, x1, x2⟩, _⟩ := h1
    obtain ⟨⟨y, y1, y2⟩, _⟩ := h2
    rw [List.mem_singleton] at x1 y1
    subst x1 y1
    dsimp only at x2 y2
    omega
  have := rise_good z.2.2 (lo := z.1) (hi := z.2.1) (S := keeps z fu n) (by unfold keeps Sp.meetS; exact Sp.good_ofL _) hb (keeps z fu n).length 0 rfl (Nat.zero_le _) z.1 (fun _ => Int.le_refl _) (by omega)
  exact this
/-- A write of an object that is told: just one. -/
theorem ws_one {n : Note} (hn : Nt.fmd n = true) {w w' : Wr} (h : w ∈ n.ws) (h' : w' ∈ n.ws) (ho : w.2.2.1 = w'.2.2.1) : w = w' := by
  have hw : Nt.wsTo n n.ws.length := by
    unfold Nt.fmd at hn
    simp only [Bool.and_eq_true] at hn
    exact (Nt.wsOk_iff n).1 hn.2.2.2.2
  have step : ∀ i j, i < j → j < n.ws.length → Nt.obj n.ws i < Nt.obj n.ws j := fun i j => by
    induction j with
    | zero => intro h; omega
    | succ j ih =>
      intro h1 h2
      have h3 := (hw (j + 1) h2).2.2.2 (by omega)
      rw [Nat.add_sub_cancel] at h3
      by_cases e : i = j
      · rw [e]; exact h3
      · have := ih (by omega) (by omega)
        omega
  obtain ⟨i, hi, rfl⟩ := List.mem_iff_getElem.1 h
  obtain ⟨j, hj, rfl⟩ := List.mem_iff_getElem.1 h'
  have ei : Nt.obj n.ws i = (n.ws[i]).2.2.1 := by unfold Nt.obj; rw [List.getD_eq_getElem?_getD, List.getElem?_eq_getElem hi]; rfl
  have ej : Nt.obj n.ws j = (n.ws[j]).2.2.1 := by unfold Nt.obj; rw [List.getD_eq_getElem?_getD, List.getElem?_eq_getElem hj]; rfl
  rw [← ei, ← ej] at ho
  rcases Nat.lt_trichotomy i j with h1 | h1 | h1
  · have := step i j h1 hj
    omega
  · subst h1
    rfl
  · have := step j i h1 hi
    omega
theorem torn_is {n : Note} (hn : Nt.fmd n = true) (z : Zn) (fu : List (Int × Int)) {o : Nat} (hz : holds z (o : Int) = true) (ho : o < 256) : Sp.someOf (torn z fu n) o = true ↔ (Nt.at_ n.ws (o : Int)).2 = true ∧ hasOf fu (Nt.at_ n.ws (o : Int)).1.1 (Nt.at_ n.ws (o : Int)).1.2.1 = false := by
  have hin : inOf [(z.1, z.2.1)] (o : Int) = true := by
    unfold inOf
    rw [decide_eq_true (by omega), Bool.true_and, Int.toNat_natCast]
    exact (Sp.inL_iff _ _).2 ⟨_, List.mem_singleton.2 rfl, of_decide_eq_true hz⟩
  unfold Sp.someOf torn
  rw [List.any_eq_true]
  constructor
  · rintro ⟨x, hx, hxo⟩
    rw [decide_eq_true_iff] at hxo
    obtain ⟨w, hw, rfl⟩ := List.mem_map.1 hx
    obtain ⟨h1, h2⟩ := List.mem_filter.1 hw
    rw [hxo, hin, Bool.true_and] at h2
    unfold Nt.at_
    cases hf : n.ws.find? (fun x => decide (x.2.2.1 = (o : Int))) with
    | none =>
      have := List.find?_eq_none.1 hf w h1
      rw [decide_eq_true_iff] at this
      exact absurd hxo this
    | some y =>
      have y1 := List.mem_of_find?_eq_some hf
      have y2 := List.find?_some hf
      rw [decide_eq_true_iff] at y2
      have : w = y := ws_one hn h1 y1 (by rw [hxo, y2])
      subst this
      exact ⟨rfl, by simpa using h2⟩
  · rintro ⟨h1, h2⟩
    unfold Nt.at_ at h1 h2
    cases hf : n.ws.find? (fun x => decide (x.2.2.1 = (o : Int))) with
    | none => rw [hf] at h1; cases h1
    | some y =>
      rw [hf] at h2
      have y1 := List.mem_of_find?_eq_some hf
      have y2 := List.find?_some hf
      rw [decide_eq_true_iff] at y2
      refine ⟨_, List.mem_map.2 ⟨y, List.mem_filter.2 ⟨y1, ?_⟩, rfl⟩, decide_eq_true y2⟩
      rw [y2, hin, Bool.true_and]
      show (!hasOf fu y.1 y.2.1) = true
      rw [h2]
      rfl
/-- The pieces of a piece: each object's reach behind the note. -/
theorem parts_tiles {n : Note} (hn : Nt.fmd n = true) {z : Zn} (h1 : 0 ≤ z.1) (h2 : z.1 ≤ z.2.1) (h3 : z.2.1 ≤ 255) : Tiles (fun o => sh z.2.2 n o) z.1.toNat (parts z n) (z.2.1.toNat + 1) := by
  have hr := keeps_rise z (fur z.2.2 n) n
  obtain ⟨p, hp⟩ : ∃ p : Nat, z.1 = (p : Int) := ⟨z.1.toNat, by omega⟩
  obtain ⟨q, hq⟩ : ∃ q : Nat, z.2.1 = (q : Int) := ⟨z.2.1.toNat, by omega⟩
  have ht : Tiles (fun o => (at_ (stay z (fur z.2.2 n) n) (o : Int)).getD (fur z.2.2 n)) p (parts z n) (q + 1) := by
    unfold parts
    rw [hp, hq] at hr ⊢
    exact pcs_tiles _ q _ p hr (by omega)
  rw [hp, hq, Int.toNat_natCast, Int.toNat_natCast]
  refine tiles_congr _ _ _ (fun o o1 o2 => ?_) ht
  have hz : holds z (o : Int) = true := decide_eq_true (by omega)
  show (at_ (stay z (fur z.2.2 n) n) (o : Int)).getD (fur z.2.2 n) = sh z.2.2 n o
  unfold stay
  rw [at_map, keeps_in z _ n (by omega) hz]
  have hti := torn_is hn z (fur z.2.2 n) hz (by omega)
  unfold sh
  by_cases hb : Sp.inL n.b o = true
  · rw [hb, Bool.true_or, if_pos rfl, if_pos rfl]
    rfl
  · rw [if_neg hb]
    have hb' : Sp.inL n.b o = false := by simpa using hb
    rw [hb', Bool.false_or]
    unfold strd
    rw [← fur_is]
    by_cases hs : Sp.someOf (torn z (fur z.2.2 n) n) o = true
    · rw [if_pos hs, if_pos (hti.1 hs)]
      rfl
    · rw [if_neg hs, if_neg (fun h => hs (hti.2 h))]
      rfl
/-- What is put behind zones, of a piece. -/
def puts (T : List (Int × Int)) (n : Note) (L : List Zn) (z : Zn) : List Zn := (parts z n).foldl (put T) L
theorem fold_puts {T : List (Int × Int)} {n : Note} (hn : Nt.fmd n = true) {f : Nat → Option (List (Int × Int))} {g : Nat → List (Int × Int)} : ∀ (P : List Zn) (k m : Nat), m ≤ 256 → Tiles g k P m → (∀ o, k ≤ o → o < m → f o = if Ve.cov (Ve.cnt (sh (g o) n o)) (Ve.cnt T) = true then none else some (sh (g o) n o)) → P.foldl (puts T n) (mkTo f k) = mkTo f m
  | [], k, m, _, h, _ => by
    have : k = m := h
    rw [this]
    rfl
  | z :: r, k, m, hm, ⟨e, q1, q2, q3, q4, q5, q6⟩, hf => by
    have ht := parts_tiles hn (z := z) (by omega) (by omega) (by omega)
    rw [show z.1.toNat = k from by omega, show z.2.1.toNat + 1 = e from by omega] at ht
    have h1 := fold_tiles T (f := f) _ _ _ ht (fun o o1 o2 => by rw [hf o o1 (by omega), q5 o o1 o2])
    rw [List.foldl_cons]
    show List.foldl (puts T n) ((parts z n).foldl (put T) (mkTo f k)) r = _
    rw [h1]
    exact fold_puts hn r e m hm q6 (fun o o1 o2 => hf o (by omega) o2)
/-- **All pieces, put one behind the other, are the zones behind a note.** -/
theorem take_fold {zs : List Zn} (hz : fmd zs = true) (kn : List (Int × Int)) {n : Note} (hn : Nt.fmd n = true) : (all zs kn).foldl (puts (Ve.joinL [kn, n.e]) n) [] = mkTo (zof zs kn n) 256 :=
  fold_puts hn (f := zof zs kn n) (all zs kn) 0 256 (Nat.le_refl _) (all_tiles hz kn) (fun _ _ _ => rfl)
end Tr
end Go.Proofs.Ytcfkpjbakccgiaa
namespace Go.Proofs.Ytcfkpjbakccgiaa
open Go.RowKit

set_option maxRecDepth 100000 in
set_option maxHeartbeats 1600000 in
theorem veq_any (A B : Option Addr) (c d : Nat) (l r : List (Int × Int)) (w : World) (h1 : OneL w A c l) (h2 : OneL w B d r) :
    Calls Try.prog 77 #[.slice A l.length c, .slice B r.length d] w (Says (.bool (decide (l = r))) w) := by
  have hl1 := h1.len
  have hl2 := h2.len
  have H1 := Lib.hid h1.stamps
  have H2 := Lib.hid h2.stamps
  clear h1 h2
  by_cases hlen : l.length = r.length
  · obtain ⟨q, hq⟩ : ∃ q, decide (l = r) = q := ⟨_, rfl⟩
    rw [hq]
    have HQ := Lib.hid hq
    have HLEN := Lib.hid hlen
    have hne : ((l.length : Int) != (r.length : Int)) = false := by rw [bne_eq_false_iff_eq]; omega
    clear hq hlen
    go_enter Try.func77, Try.ntmps77
    go_wp2_with fail
    go_loopw [13] (fun s13 wr => ∃ (k : Nat), k ≤ l.length ∧ s13 = .int .i64 (k : Int) ∧ (∀ u : Nat, u < k → l.getD u (0, 0) = r.getD u (0, 0)) ∧ Below w.heap.size w wr) (fun s13 _ => l.length - (intOf s13).toNat)
    case atStart => exact ⟨0, Nat.zero_le _, rfl, fun u hu => by omega, Below.refl _ _⟩
    case round =>
      obtain ⟨k, hk, rfl, hal, hbw⟩ := hrel
      have HAL := Lib.hid hal
      clear hal
      by_cases hlt : k < l.length
      · have hn1 : l ≠ [] := fun e => by subst e; simp at hlt
        have hlr : k < r.length := by have := HLEN.out; omega
        have hn2 : r ≠ [] := fun e => by subst e; simp at hlr
        obtain ⟨b, off, hA, hc⟩ := (H1.out.later hbw) hn1
        obtain ⟨b', off', hB, hc'⟩ := (H2.out.later hbw) hn2
        subst hA hB
        obtain ⟨e0, e1⟩ := hc k hlt
        obtain ⟨f0, f1⟩ := hc' k hlr
        have hno : l.getD k (0, 0) ≠ r.getD k (0, 0) → q = false := fun h => by
          rw [← HQ.out, decide_eq_false_iff_not]
          intro e
          subst e
          exact h rfl
        have hyes : l.getD k (0, 0) = r.getD k (0, 0) → ∀ u : Nat, u < k + 1 → l.getD u (0, 0) = r.getD u (0, 0) := fun h u hu => by
          by_cases e : u = k
          · rw [e]; exact h
          · exact HAL.out u (by omega)
        obtain ⟨z, hz⟩ : ∃ z, l.getD k (0, 0) = z := ⟨_, rfl⟩
        obtain ⟨z', hz'⟩ : ∃ z, r.getD k (0, 0) = z := ⟨_, rfl⟩
        rw [hz] at e0 e1 hno hyes
        rw [hz'] at f0 f1 hno hyes
        obtain ⟨x, y⟩ := z
        obtain ⟨x', y'⟩ := z'
        dsimp only at e0 e1 f0 f1
        have hi0 : (0 : Int) ≤ (k : Int) := by omega
        have hi1 : (k : Int) < (l.length : Int) := by omega
        have hi2 : (k : Int) < (r.length : Int) := by omega
        have HNO := Lib.hid hno
        have HY := Lib.hid hyes
        clear hc hc' hz hz' hno hyes hn1 hn2
        by_cases c1 : x = x'
        · by_cases c2 : y = y'
          · subst c1 c2
            have HN := Lib.hid (HY.out rfl)
            go_wp2_with fail
            go_region
            go_wp2_with fail
            go_roundw
            case rel => exact ⟨k + 1, by omega, by first | rfl | go_num, HN.out, Below.drew hbw⟩
            case measure => simp [intOf]; omega
          · have d1 : (x == x') = true := beq_iff_eq.2 c1
            have d2 : (y == y') = false := beq_eq_false_iff_ne.2 c2
            have hqf := HNO.out (fun e => c2 (by injection e))
            subst hqf
            clear c1 c2
            go_wp2_with fail
            go_region
            go_wp2
            go_ret
            exact ⟨rfl, Below.drew hbw⟩
        · have d1 : (x == x') = false := beq_eq_false_iff_ne.2 c1
          have hqf := HNO.out (fun e => c1 (by injection e))
          subst hqf
          clear c1
          go_wp2_with fail
          go_region
          go_wp2
          go_ret
          exact ⟨rfl, Below.drew hbw⟩
      · have hd : decide ((k : Int) < (l.length : Int)) = false := decide_eq_false (by omega)
        have hkl : k = l.length := by omega
        have hqt : q = true := by
          rw [← HQ.out, decide_eq_true_iff]
          exact take_ext HLEN.out (fun i hi => HAL.out i (by omega))
        subst hqt
        clear hkl
        go_wp2
        go_ret
        exact ⟨rfl, hbw⟩
  · have hne : ((l.length : Int) != (r.length : Int)) = true := by rw [bne_iff_ne]; omega
    rw [decide_eq_false (fun e => hlen (by rw [e]))]
    go_enter Try.func77, Try.ntmps77
    go_wp2
    go_ret
    exact ⟨rfl, Below.refl _ _⟩
/-- A zone, by value. -/
def zV (x : Zc) : Value := .agg #[.int .i64 x.lo, .int .i64 x.hi, .slice x.X x.l.length x.c]

set_option maxHeartbeats 800000 in
theorem goesOn_any (x y : Zc) (w : World) (hx : OneL w x.X x.c x.l) (hy : OneL w y.X y.c y.l) (h0 : 0 ≤ x.hi) (h1 : x.hi ≤ 255) :
    Calls Try.prog 54 #[zV x, zV y] w (Says (.bool (decide (x.hi + 1 = y.lo ∧ x.l = y.l))) w) := by
  have EQ := Lib.hid (fun w' (hb : Below w.heap.size w w') => veq_any x.X y.X x.c y.c x.l y.l w' (hx.later hb) (hy.later hb))
  obtain ⟨lo, hi, X, c, l⟩ := x
  obtain ⟨lo', hi', Y, d, r⟩ := y
  unfold zV
  dsimp only at EQ h0 h1 ⊢
  clear hx hy
  have wr : IntKind.i64.wrap (hi + 1) = hi + 1 := IntWalk.i64_in _ (by omega)
  by_cases t : hi + 1 = lo'
  · have d1 : (hi + 1 == lo') = true := beq_iff_eq.2 t
    have e : decide (hi + 1 = lo' ∧ l = r) = decide (l = r) := by rw [decide_eq_decide]; exact ⟨fun h => h.2, fun h => ⟨t, h⟩⟩
    rw [e]
    clear t e
    go_enter Try.func54, Try.ntmps54
    go_wp2_with fail
    refine (EQ.out _ (below_new (below_new (Below.refl _ _) _) _)).mono ?_
    rintro e w1 ⟨rfl, b1⟩
    have B1 := Lib.hid (below_on (below_new (below_new (Below.refl w.heap.size w) _) _) b1)
    clear b1 EQ
    go_wp2
    go_ret
    exact ⟨rfl, B1.out⟩
  · have d1 : (hi + 1 == lo') = false := beq_eq_false_iff_ne.2 t
    rw [decide_eq_false (fun h => t h.1)]
    clear t EQ
    go_enter Try.func54, Try.ntmps54
    go_wp2
    go_ret
    exact ⟨rfl, below_new (below_new (Below.refl _ _) _) _⟩

set_option maxHeartbeats 800000 in
theorem mayFollow_any (x y : Zc) (w : World) (hx : OneL w x.X x.c x.l) (hy : OneL w y.X y.c y.l) (h0 : 0 ≤ x.hi) (h1 : x.hi ≤ 255) :
    Calls Try.prog 37 #[zV x, zV y] w (Says (.bool (decide (x.hi < y.lo ∧ ¬ (x.hi + 1 = y.lo ∧ x.l = y.l)))) w) := by
  have GO := Lib.hid (fun w' (hb : Below w.heap.size w w') => goesOn_any x y w' (hx.later hb) (hy.later hb) h0 h1)
  obtain ⟨lo, hi, X, c, l⟩ := x
  obtain ⟨lo', hi', Y, d, r⟩ := y
  unfold zV at GO ⊢
  dsimp only at GO h0 h1 ⊢
  clear hx hy
  by_cases t : hi < lo'
  · have d1 : decide (hi < lo') = true := decide_eq_true t
    have e : decide (hi < lo' ∧ ¬ (hi + 1 = lo' ∧ l = r)) = !decide (hi + 1 = lo' ∧ l = r) := by rw [← decide_not, decide_eq_decide]; exact ⟨fun h => h.2, fun h => ⟨t, h⟩⟩
    rw [e]
    obtain ⟨q, hq⟩ : ∃ q, decide (hi + 1 = lo' ∧ l = r) = q := ⟨_, rfl⟩
    rw [hq] at GO ⊢
    clear t e hq
    go_enter Try.func37, Try.ntmps37
    go_wp2_with fail
    refine (GO.out _ (below_new (below_new (Below.refl _ _) _) _)).mono ?_
    rintro e w1 ⟨rfl, b1⟩
    have B1 := Lib.hid (below_on (below_new (below_new (Below.refl w.heap.size w) _) _) b1)
    clear b1 GO
    go_wp2
    go_ret
    exact ⟨rfl, B1.out⟩
  · have d1 : decide (hi < lo') = false := decide_eq_false t
    rw [decide_eq_false (fun h => t h.1)]
    clear t GO
    go_enter Try.func37, Try.ntmps37
    go_wp2
    go_ret
    exact ⟨rfl, below_new (below_new (Below.refl _ _) _) _⟩

/-- A row of one span, in memory of the call's own. -/
theorem alone_any (lo hi : Int) (w : World) :
    Calls Try.prog 35 #[.agg #[.int .i64 lo, .int .i64 hi]] w fun e w' => ∃ g, e = .returned (.slice (some ⟨g, 0, none⟩) 1 1) ∧ Blk w' g 55 #[.int .i64 lo, .int .i64 hi] ∧ w.heap.size ≤ g ∧ Below w.heap.size w w' := by
  go_enter Try.func35, Try.ntmps35
  go_wp2
  go_ret
  exact ⟨_, rfl, by simpa using Blk.new (w.alloc (.cells #[.int .i64 lo, .int .i64 hi] 55)) 55 #[.int .i64 lo, .int .i64 hi], by simp, below_new (below_new (Below.refl _ _) _) _⟩
theorem everything_any (w : World) :
    Calls Try.prog 42 #[] w fun e w' => e = .returned (.agg #[.int .i64 0, .int .i64 255]) ∧ Below w.heap.size w w' := by
  go_enter Try.func42, Try.ntmps42
  go_wp2_with fail
  exact bodyPost_ret (v := .agg #[.int .i64 0, .int .i64 255]) (by simp [results, Try.results42, go_sem]) rfl ⟨rfl, below_new (Below.refl _ _) _⟩
end Go.Proofs.Ytcfkpjbakccgiaa
namespace Go.Proofs.Ytcfkpjbakccgiaa
open Go.RowKit

theorem GivesS.ans {l : List (Int × Int)} {w w' : World} {e : Ending} (h : GivesS l w e w') : Ans l w e w' := h.one

/-- A list of numbers by value. -/
def Nums (w : World) (A : Option Addr) (c : Nat) (xs : List Int) : Prop := xs.length ≤ c ∧ c ≤ maxLen ∧ (A = none → xs.length = 0 ∧ c = 0) ∧ Lies w A (xs.map (Value.int .i64))
theorem Nums.later {w w' : World} {A : Option Addr} {c : Nat} {xs : List Int} (h : Nums w A c xs) (hb : Below w.heap.size w w') : Nums w' A c xs := ⟨h.1, h.2.1, h.2.2.1, h.2.2.2.later hb⟩
theorem Nums.len {w : World} {A : Option Addr} {c : Nat} {xs : List Int} (h : Nums w A c xs) : xs.length ≤ 9223372036854775807 := by
  have h1 := h.1
  have h2 := h.2.1
  unfold maxLen at h2
  omega

theorem salive_of : Sp.ofL (Sp.someOf [3, 1, 2, 7, 300]) = [(1, 3), (7, 7)] := by
  refine Sp.good_uniq (Sp.good_ofL _) ?_ ?_
  · intro j hj
    have : j = 0 ∨ j = 1 := by simp at hj; omega
    rcases this with rfl | rfl <;> simp
  · intro o ho
    rw [Sp.inL_ofL _ o ho]
    unfold Sp.someOf Sp.inL
    rw [Bool.eq_iff_iff]
    simp
    omega
theorem salive_7 : inOf [(1, 3), (7, 7)] 7 = true := by decide
theorem salive_300 : inOf [(1, 3), (7, 7)] 300 = false := by decide
theorem salive_sz : Sp.sz (Sp.inL [(1, 3), (7, 7)]) = 4 := by kernel_rfl

end Go.Proofs.Ytcfkpjbakccgiaa
