/-
  What a round of a loop over a function keeps, where the function lays cells of its own while it goes: all cells but those that the caller laid between its own beginning and the call. And the places of a formed list, one behind the other. Nothing of the program is imported.
  What span's Join answers; and the function that All answers: whatever the loop's body does, the objects of the list come, rising.
  What SpanWalks asks of span's All.
  What span's All answers: a function over the objects of the list, which was read when it was made.
-/
import Derived.Test.YtoaclofobfaflaaG05
import Derived.Test.YtoaclofobfaflaaG12
import Derived.RangeFuncFrom
import Derived.RangeFuncNested
import Derived.RangeFuncBound
import Derived.RangeFuncCalls
import Derived.RangeFuncLeaves
import Derived.RangeFuncWrites
import Derived.Shelf.Abstract
import Derived.Shelf.RegionOpen
import Derived.OwnWalkIn
import Derived.TacticsInMore
import Derived.LoopNIn
import Derived.LoopIn
import Derived.WalkMore
import Derived.Deep.RegionWith
import Derived.Test.YtoaclofobfaflaaG11
namespace Go.Proofs.Ytoaclofobfaflaa
open Go.RowKit

/-- All cells stay, but in the blocks from n₀ up to B. -/
def KeepC (n₀ B : Nat) (W W' : World) : Prop := W.heap.size ≤ W'.heap.size ∧ ∀ k o, W.heap[k]? = some o → o.isCells = true → (k < n₀ ∨ B ≤ k) → W'.heap[k]? = some o
section
variable {n₀ B : Nat} {W W' : World}
theorem KeepC.refl (n₀ B : Nat) (W : World) : KeepC n₀ B W W := ⟨Nat.le_refl _, fun _ _ h _ _ => h⟩
theorem KeepC.trans {X Y Z : World} (h : KeepC n₀ B X Y) (k : KeepC n₀ B Y Z) : KeepC n₀ B X Z := ⟨Nat.le_trans h.1 k.1, fun i o h1 h2 h3 => k.2 i o (h.2 i o h1 h2 h3) h2 h3⟩
theorem KeepC.below (h : Below W.heap.size W W') : KeepC n₀ B W W' := ⟨h.size, fun i _ h1 _ _ => (h.block i (Array.getElem?_eq_some_iff.1 h1).1).trans h1⟩
theorem KeepC.set (W : World) (a : Addr) (v : Value) (h1 : n₀ ≤ a.block) (h2 : a.block < B) : KeepC n₀ B W (W.setCell a v) :=
  ⟨(KeepsOthers.setCell W a v).size, fun i _ hi _ h3 => (Below.heap_setCell W a v i (by omega)).trans hi⟩
theorem KeepC.mark (W : World) (l : Nat) (o o' : Obj) (h : W.heap[l]? = some o) (ho : o.isCells = false) : KeepC n₀ B W (W.putObj l o') :=
  ⟨by simp, fun i u hi hu _ => by
    by_cases e : l = i
    · subst e
      rw [h] at hi
      cases hi
      rw [ho] at hu
      cases hu
    · exact (World.putObj_heap_other (fun h => e h.symm)).trans hi⟩
theorem KeepC.cell (h : KeepC n₀ B W W') {a : Addr} {v : Value} (hc : W.cell? a = some v) (ha : a.block < n₀ ∨ B ≤ a.block) : W'.cell? a = some v := by
  obtain ⟨o, ho, hoc⟩ := cells_of_cell hc
  exact (World.cell?_of_block ((h.2 _ _ ho hoc ha).trans ho.symm)).trans hc
end

/-- What a round is told: an object. -/
def told1 (x : Int) : Array Value := #[.int .i64 x]
def tellO (x : Fin 256) : Array Value := #[.int .i64 (x.val : Int)]

namespace Sp
theorem good_sorted {l : List (Int × Int)} (h : good 256 l) (i : Nat) : ∀ j, i < j → j < l.length → (l.getD i (0, 0)).2 + 1 < (l.getD j (0, 0)).1
  | 0, h1, _ => by omega
  | j + 1, h1, h2 => by
    have h3 : (l.getD j (0, 0)).2 + 1 < (l.getD (j + 1) (0, 0)).1 := (h (j + 1) h2).2.2.2 (by omega)
    rcases Nat.lt_or_ge i j with h4 | h4
    · have := good_sorted h i j h4 (by omega)
      have := (h j (by omega)).2.1
      omega
    · rw [show i = j from by omega]
      exact h3
theorem inL_at (l : List (Int × Int)) (o : Nat) : inL l o = true ↔ ∃ j, j < l.length ∧ (l.getD j (0, 0)).1 ≤ (o : Int) ∧ (o : Int) ≤ (l.getD j (0, 0)).2 := by
  rw [inL_iff]
  constructor
  · rintro ⟨s, h1, h2⟩
    obtain ⟨j, hj, rfl⟩ := List.getElem_of_mem h1
    exact ⟨j, hj, by rw [List.getD_eq_getElem?_getD, List.getElem?_eq_getElem hj]; exact h2⟩
  · rintro ⟨j, hj, h2⟩
    rw [List.getD_eq_getElem?_getD, List.getElem?_eq_getElem hj, Option.getD_some] at h2
    exact ⟨_, List.getElem_mem hj, h2⟩
/-- Where the first k spans of a formed list end. -/
def endTo (l : List (Int × Int)) : Nat → Nat
  | 0 => 0
  | k + 1 => ((l.getD k (0, 0)).2 + 1).toNat
theorem endTo_bd (f : Nat → Bool) : ∀ k, k ≤ (ofL f).length → endTo (ofL f) k ≤ 256
  | 0, _ => Nat.zero_le _
  | k + 1, h => by
    have := (good_ofL f k h).2.2.1
    show ((((ofL f)).getD k (0, 0)).2 + 1).toNat ≤ 256
    omega
theorem span_in (f : Nat → Bool) (k : Nat) (hk : k < (ofL f).length) (p : Nat) (h1 : ((ofL f).getD k (0, 0)).1 ≤ (p : Int)) (h2 : (p : Int) ≤ ((ofL f).getD k (0, 0)).2) : f p = true := by
  have h3 := (good_ofL f k hk).2.2.1
  rw [← inL_ofL f p (by omega)]
  exact (inL_at _ _).2 ⟨k, hk, h1, h2⟩
theorem gap_out (f : Nat → Bool) (k : Nat) (p : Nat) (hp : p < 256) (h1 : endTo (ofL f) k ≤ p) (h2 : k < (ofL f).length → (p : Int) < ((ofL f).getD k (0, 0)).1) (hk : k ≤ (ofL f).length) : f p = false := by
  rcases two (f p) with h | h
  · rw [← inL_ofL f p hp] at h
    obtain ⟨j, hj, q1, q2⟩ := (inL_at _ _).1 h
    rcases Nat.lt_or_ge j k with h3 | h3
    · obtain ⟨m, rfl⟩ : ∃ m, k = m + 1 := ⟨k - 1, by omega⟩
      have h4 : (((ofL f)).getD m (0, 0)).2 + 1 ≤ (p : Int) := by
        have : ((((ofL f)).getD m (0, 0)).2 + 1).toNat ≤ p := h1
        omega
      rcases Nat.lt_or_ge j m with h5 | h5
      · have := good_sorted (good_ofL f) j m h5 (by omega)
        have := (good_ofL f m (by omega)).2.1
        omega
      · rw [show j = m from by omega] at q2
        omega
    · have h4 := h2 (by omega)
      rcases Nat.lt_or_ge k j with h5 | h5
      · have := good_sorted (good_ofL f) k j h5 hj
        have := (good_ofL f k (by omega)).2.1
        omega
      · rw [show j = k from by omega] at q1
        omega
  · exact h
/-- What has come when the objects up to k are over. -/
def comesO {α : Type} (g : Nat → α) (f : Nat → Bool) : Nat → List α
  | 0 => []
  | k + 1 => comesO g f k ++ (if f k = true then [g k] else [])
section
variable {α : Type} (g : Nat → α) (f : Nat → Bool)
theorem comesO_yes (k : Nat) (h : f k = true) : comesO g f (k + 1) = comesO g f k ++ [g k] := by rw [comesO, if_pos h]
theorem comesO_no (k : Nat) (h : f k = false) : comesO g f (k + 1) = comesO g f k := by rw [comesO, if_neg (by rw [h]; simp), List.append_nil]
theorem comesO_short : ∀ k, (comesO g f k).length ≤ k
  | 0 => Nat.le_refl _
  | k + 1 => by
    have := comesO_short k
    unfold comesO
    split <;> simp <;> omega
theorem comesO_pre (k : Nat) : ∀ m, k ≤ m → comesO g f k <+: comesO g f m
  | 0, h => by rw [Nat.le_zero.1 h]; exact List.prefix_rfl
  | m + 1, h => by
    rcases Nat.lt_or_ge m k with h1 | h1
    · rw [show k = m + 1 from by omega]; exact List.prefix_rfl
    · exact (comesO_pre k m h1).trans ⟨_, rfl⟩
theorem comesO_gap (m : Nat) : ∀ n, m ≤ n → (∀ p, m ≤ p → p < n → f p = false) → comesO g f n = comesO g f m
  | 0, h, _ => by rw [Nat.le_zero.1 h]
  | n + 1, h, hf => by
    rcases Nat.lt_or_ge n m with h1 | h1
    · rw [show m = n + 1 from by omega]
    · rw [comesO_no g f n (hf n h1 (by omega)), comesO_gap m n h1 (fun p h2 h3 => hf p h2 (by omega))]
theorem comesO_start (k : Nat) (hk : k < (ofL f).length) (o : Nat) (ho : (o : Int) = ((ofL f).getD k (0, 0)).1) : comesO g f o = comesO g f (endTo (ofL f) k) := by
  obtain ⟨g1, g2, g3, g4⟩ := good_ofL f k hk
  refine comesO_gap g f _ o ?_ fun p h1 h2 => gap_out f k p (by omega) h1 (fun _ => by omega) (by omega)
  cases k with
  | zero => exact Nat.zero_le _
  | succ m =>
    have h3 : ((ofL f).getD m (0, 0)).2 + 1 < ((ofL f).getD (m + 1) (0, 0)).1 := g4 (by omega)
    show ((((ofL f)).getD m (0, 0)).2 + 1).toNat ≤ o
    omega
theorem comesO_step (k : Nat) (hk : k < (ofL f).length) (o : Nat) (h1 : ((ofL f).getD k (0, 0)).1 ≤ (o : Int)) (h2 : (o : Int) ≤ ((ofL f).getD k (0, 0)).2) : comesO g f (o + 1) = comesO g f o ++ [g o] := comesO_yes g f o (span_in f k hk o h1 h2)
theorem comesO_end : comesO g f (endTo (ofL f) (ofL f).length) = comesO g f 256 :=
  (comesO_gap g f _ 256 (endTo_bd f _ (Nat.le_refl _)) fun p h1 h2 => gap_out f _ p h2 h1 (fun h => absurd h (Nat.lt_irrefl _)) (Nat.le_refl _)).symm
end
theorem comesO_obTo (f : Nat → Bool) : ∀ k, comesO (fun k => (k : Int)) f k = obTo f k
  | 0 => rfl
  | k + 1 => by rw [comesO, obTo, comesO_obTo f k]
theorem comesO_obL (f : Nat → Bool) : comesO (fun k => (k : Int)) f 256 = obL f := comesO_obTo f 256
/-- Object k, as one of 256. -/
def objF (k : Nat) : Fin 256 := ⟨k % 256, Nat.mod_lt _ (by omega)⟩
theorem objF_val {k : Nat} (h : k < 256) : (objF k).val = k := Nat.mod_eq_of_lt h
theorem comesO_mem (f : Nat → Bool) (i : Fin 256) : ∀ k, k ≤ 256 → (i ∈ comesO objF f k ↔ i.val < k ∧ f i.val = true)
  | 0, _ => by simp [comesO]
  | k + 1, h => by
    have ih := comesO_mem f i k (by omega)
    have hv := objF_val (k := k) (by omega)
    rw [comesO, List.mem_append, ih]
    constructor
    · rintro (⟨h1, h2⟩ | h1)
      · exact ⟨by omega, h2⟩
      · split at h1
        · rename_i hp
          rw [List.mem_singleton] at h1
          rw [h1, hv]
          exact ⟨by omega, hp⟩
        · cases h1
    · rintro ⟨h1, h2⟩
      rcases Nat.lt_or_ge i.val k with h3 | h3
      · exact .inl ⟨h3, h2⟩
      · have h4 : i.val = k := by omega
        rw [h4] at h2
        rw [if_pos h2]
        exact .inr (List.mem_singleton.2 (Fin.ext (by rw [hv]; exact h4)))
/-- Is object j among those that have come? -/
def hasF (pre : List (Fin 256)) (j : Nat) : Bool := pre.any fun i => decide (i.val = j)
theorem hasF_snoc (pre : List (Fin 256)) (x : Fin 256) (j : Nat) : hasF (pre ++ [x]) j = (hasF pre j || decide (x.val = j)) := by
  unfold hasF
  rw [List.any_append]
  simp
theorem hasF_all (f : Nat → Bool) (j : Nat) (hj : j < 256) : hasF (comesO objF f 256) j = f j := by
  rw [Bool.eq_iff_iff]
  unfold hasF
  rw [List.any_eq_true]
  constructor
  · rintro ⟨i, h1, h2⟩
    have h3 := ((comesO_mem f i 256 (Nat.le_refl _)).1 h1).2
    rw [of_decide_eq_true h2] at h3
    exact h3
  · intro h
    exact ⟨⟨j, hj⟩, (comesO_mem f ⟨j, hj⟩ 256 (Nat.le_refl _)).2 ⟨hj, h⟩, decide_eq_true rfl⟩
end Sp

end Go.Proofs.Ytoaclofobfaflaa
namespace Go.Proofs.Ytoaclofobfaflaa
open Go.RowKit Go.Shelf Fb
attribute [local go_sem] Oper.semAt_some

set_option maxHeartbeats 800000 in
theorem spjoin_any (A : Option Addr) (c : Nat) (ls : List (List (Int × Int))) (w : World) (hn : ls.length ≤ 9223372036854775807) (htot : Sp.tot ls ≤ 9223372036854775807) (h : Rows w A ls) :
    Calls Try.prog 53 #[.slice A ls.length c] w (GivesS (Sp.joinS ls) w) := by
  have N1 := Lib.hid (setOf_any A c ls w hn htot h)
  clear h
  go_enter Try.func53, Try.ntmps53
  go_wp2_with fail
  refine N1.out.mono ?_
  rintro e w1 ⟨rfl, b1⟩
  clear N1
  go_wp2_with fail
  refine (spans_any _ _).mono ?_
  rintro e w2 ⟨v, rfl, ho, b2⟩
  have HO := Lib.hid ho
  clear ho
  go_wp2
  go_ret
  exact ⟨v, rfl, own_base HO.out b1.size, below_on b1 b2⟩

theorem joinS_one (l : List (Int × Int)) : Sp.joinS [l] = Sp.ofL (Sp.inL l) := Sp.ofL_ext fun o _ => by
  show (false || Sp.inL l o) = Sp.inL l o
  rw [Bool.false_or]

theorem wp_scope_in {n : Nat} {P : Program} {Q : Exit → Act → World → Prop} {a : Act} {w : World} {c : Code} (h : c.wpIn Fence.wide n P (Exit.noGoto Q) a w) : (Code.scope c).wpIn Fence.wide n P Q a w := wpIn_wide.2 (wp_scope_straight (wpIn_wide.1 h))

set_option maxRecDepth 100000 in
set_option maxHeartbeats 3200000 in
theorem eachO_in {α : Type} (told : α → Array Value) (gg : Nat → α) (ht : ∀ k, k < 256 → told (gg k) = #[.int .i64 (k : Int)]) (f : Nat → Bool) (n : Nat) (hn : 1 ≤ n)
    (l n₀ B bc s dc : Nat) (D : Option Addr) (J Jx : List α → World → Prop) (hJa : AbidesFrom s J)
    (hY : ∀ pre x W, J pre W → pre.length < 256 → YieldAt Fence.wide (n - 1) Try.prog l (told x) W fun e W' => (e = .returned (.bool true) ∧ J (pre ++ [x]) W' ∧ KeepC n₀ B W W') ∨ (e = .returned (.bool false) ∧ Jx (pre ++ [x]) W'))
    (W : World) (hB : W.cell? ⟨bc, 0, none⟩ = some (.slice D (Sp.ofL f).length dc))
    (hL : Sp.ofL f ≠ [] → ∃ g off, D = some ⟨g, off, none⟩ ∧ B ≤ g ∧ ∀ k, k < (Sp.ofL f).length → W.cell? ⟨g, off + k * 2, none⟩ = some (.int .i64 ((Sp.ofL f).getD k (0, 0)).1) ∧ W.cell? ⟨g, off + (k * 2 + 1), none⟩ = some (.int .i64 ((Sp.ofL f).getD k (0, 0)).2))
    (hle : B ≤ W.heap.size) (h0 : J [] W) :
    CallsIn Fence.wide n Try.prog 94 #[.func (.yield l) #[] #[], .pointer (some ⟨bc, 0, none⟩)] W fun e W' => (∃ v, e = .returned v) ∧
      ((∃ ys, ys = Sp.comesO gg f 256 ∧ J ys W') ∨ (∃ pre, pre <+: Sp.comesO gg f 256 ∧ Jx pre W')) := by
  have hlen := Sp.ofL_len f
  have hst := Sp.comesO_start gg f
  have hsp := Sp.comesO_step gg f
  have hen := Sp.comesO_end gg f
  have hgd := Sp.good_ofL f
  have hpr : ∀ k, k ≤ 256 → Sp.comesO gg f k <+: Sp.comesO gg f 256 := fun k hk => Sp.comesO_pre gg f k 256 hk
  obtain ⟨L, hLL⟩ : ∃ L, Sp.ofL f = L := ⟨_, rfl⟩
  rw [hLL] at hB hL hlen hst hsp hen hgd
  have HST := Lib.hid hst
  have HSP := Lib.hid hsp
  have HEN := Lib.hid hen
  have HGD := Lib.hid hgd
  have HPR := Lib.hid hpr
  have HJA := Lib.hid hJa
  have HL := Lib.hid hL
  clear hst hsp hen hgd hpr hJa hLL hL
  refine callsIn_of_wp Try.func94 rfl trivial ?_ rfl
  simp only [Try.ntmps94, List.size_toArray, List.length_cons, List.length_nil, Nat.reduceAdd, Nat.reduceSub, Array.replicate_succ, Array.replicate_zero, List.push_toArray, List.append_toArray, List.nil_append, List.cons_append]
  refine wp_scope_in ?_
  gi_wp2
  refine wpIn_label ?_
  gi_wp2
  gi_loopw [8] (fun s8 wr => ∃ k : Nat, k ≤ L.length ∧ s8 = .int .i64 (k : Int) ∧ J (Sp.comesO gg f (Sp.endTo L k)) wr ∧ KeepC n₀ B W wr) (fun s8 _ => L.length - (intOf s8).toNat)
  case atStart => exact ⟨0, Nat.zero_le _, rfl, h0, KeepC.refl _ _ _⟩
  case round =>
    obtain ⟨k, hk, rfl, hJs, hkp⟩ := hrel
    by_cases hlt : k < L.length
    · have hne : L ≠ [] := fun e => by subst e; simp at hlt
      obtain ⟨g, off, hD, hBg, hcs⟩ := HL.out hne
      subst hD
      obtain ⟨e0, e1⟩ := hcs k hlt
      replace e0 := hkp.cell e0 (.inr hBg)
      replace e1 : wr.cell? ⟨g, off + k * 2 + 1, none⟩ = some (.int .i64 (L.getD k (0, 0)).2) := hkp.cell e1 (.inr hBg)
      obtain ⟨q1, q2, q3, -⟩ := HGD.out k hlt
      have hst2 := HST.out k hlt
      have hsp2 := HSP.out k hlt
      have hi0 : (0 : Int) ≤ (k : Int) := by omega
      have hi1 : (k : Int) < (L.length : Int) := by omega
      have hen2 : Sp.endTo L (k + 1) = ((L.getD k (0, 0)).2 + 1).toNat := rfl
      obtain ⟨z, hz⟩ : ∃ z, L.getD k (0, 0) = z := ⟨_, rfl⟩
      rw [hz] at e0 e1 q1 q2 q3 hst2 hsp2 hen2
      obtain ⟨x, y⟩ := z
      obtain ⟨p, hp⟩ : ∃ p : Nat, x = (p : Int) := ⟨x.toNat, (Int.toNat_of_nonneg q1).symm⟩
      have q2' : x ≤ y := q2
      have q3' : y < 256 := q3
      obtain ⟨q, hq⟩ : ∃ q : Nat, y = (q : Int) := ⟨y.toNat, by omega⟩
      subst hp hq
      have hst3 := hst2 p rfl
      have hen3 : Sp.endTo L (k + 1) = q + 1 := by rw [hen2]; show (((q : Int) + 1)).toNat = q + 1; omega
      have hJ1 : J (Sp.comesO gg f p) (wr.alloc (.cells #[.int .i64 (p : Int), .int .i64 (q : Int)] 50)) := by
        rw [hst3]
        exact HJA.out _ _ _ none hJs (World.grownBy_alloc _ _ none) (fun r e => by cases e)
      have hkp1 : KeepC n₀ B W (wr.alloc (.cells #[.int .i64 (p : Int), .int .i64 (q : Int)] 50)) := hkp.trans (KeepC.below (below_new (Below.refl _ _) _))
      have B2 := Blk.new wr 50 #[.int .i64 (p : Int), .int .i64 (q : Int)]
      have hgs : B ≤ wr.heap.size := Nat.le_trans hle hkp.1
      obtain ⟨gs, hgs2⟩ : ∃ gs, wr.heap.size = gs := ⟨_, rfl⟩
      obtain ⟨W1, hW1⟩ : ∃ W1, wr.alloc (.cells #[.int .i64 (p : Int), .int .i64 (q : Int)] 50) = W1 := ⟨_, rfl⟩
      rw [hW1] at hJ1 hkp1 B2
      rw [hgs2] at B2 hgs
      have g0 := B2.cell (i := 0) rfl
      have g1 := B2.cell (i := 1) rfl
      have HW1 := Lib.hid hW1
      have HSP2 := Lib.hid hsp2
      have HEN3 := Lib.hid hen3
      clear hst2 hsp2 hen2 hz hW1 hcs hJs hkp hst3 hen3 B2
      gi_wp2_with fail
      rw [HW1.out]
      gi_loopw [5] (fun s5 wr => ∃ o : Nat, p ≤ o ∧ o ≤ q + 1 ∧ s5 = .int .i64 (o : Int) ∧ J (Sp.comesO gg f o) wr ∧ KeepC n₀ B W wr ∧ wr.cell? ⟨gs, 1, none⟩ = some (.int .i64 (q : Int))) (fun s5 _ => q + 1 - (intOf s5).toNat)
      case atStart => exact ⟨p, Nat.le_refl _, by omega, rfl, hJ1, hkp1, g1⟩
      case round =>
        obtain ⟨o, ho1, ho2, rfl, hJo, hko, hgo⟩ := hrel
        clear hJ1 hkp1 g0 g1 e0 e1
        by_cases hlt2 : o ≤ q
        · obtain ⟨fn, tmps, assign, body, hy, hR⟩ := hY _ (gg o) wr hJo (by have := Sp.comesO_short gg f o; omega)
          rw [ht o (by omega)] at hy
          have hd : decide ((o : Int) ≤ (q : Int)) = true := decide_eq_true (by omega)
          have HS1 := Lib.hid (HSP2.out o (by show (p : Int) ≤ (o : Int); omega) (by show (o : Int) ≤ (q : Int); omega))
          gi_wp2
          refine hR.mono ?_
          rintro e W3 (⟨rfl, hJ3, hk3⟩ | ⟨rfl, hJx3⟩)
          · gi_wp2
            go_roundw
            case rel => exact ⟨o + 1, by omega, by omega, by go_num, by rw [HS1.out]; exact hJ3, hko.trans hk3, hk3.cell hgo (.inr hgs)⟩
            case measure => simp [intOf]; omega
          · gi_wp2
            rw [Exit.noGoto_normal]
            go_end0
            exact ⟨⟨_, rfl⟩, .inr ⟨_, by rw [← HS1.out]; exact HPR.out _ (by omega), hJx3⟩⟩
        · have hoq : o = q + 1 := by omega
          subst hoq
          have hd : decide (((q + 1 : Nat) : Int) ≤ (q : Int)) = false := decide_eq_false (by omega)
          gi_wp2
          go_roundw
          case rel => exact ⟨k + 1, by omega, by go_num, by rw [HEN3.out]; exact hJo, hko⟩
          case measure => simp [intOf]; omega
    · have hkl : k = L.length := by omega
      subst hkl
      rw [HEN.out] at hJs
      gi_wp2
      rw [Exit.noGoto_normal]
      go_end0
      exact ⟨⟨_, rfl⟩, .inl ⟨_, rfl, hJs⟩⟩

end Go.Proofs.Ytoaclofobfaflaa
namespace Go.Proofs.Ytoaclofobfaflaa
open Go.RowKit Go.Shelf Fb
attribute [local go_sem] Oper.semAt_some

/-- What is asked of All. -/
def SpAllSpec : Prop := ∀ (A : Option Addr) (c : Nat) (l : List (Int × Int)) (w0 w : World), OneL w0 A c l → Below w0.heap.size w0 w →
  Calls Try.prog 76 #[.slice A l.length c] w fun e w1 => ∃ gf lb, e = .returned (.func (.func gf) #[] lb) ∧ Below w.heap.size w w1 ∧ (∀ args w, (callFunc gf args).run Try.prog w = .ok (.enter gf args) w) ∧
    SeqStopsK Fence.wide 2 Try.prog gf lb told1 (KeepC w0.heap.size w.heap.size) (· = Sp.obL (Sp.inL l)) (· <+: Sp.obL (Sp.inL l)) 256 w1

end Go.Proofs.Ytoaclofobfaflaa
namespace Go.Proofs.Ytoaclofobfaflaa
open Go.RowKit Go.Shelf Fb

/-- The places of a list, in a block from B on. -/
def FarL (B : Nat) (W : World) (D : Option Addr) (L : List (Int × Int)) : Prop :=
  L ≠ [] → ∃ g off, D = some ⟨g, off, none⟩ ∧ B ≤ g ∧ ∀ k, k < L.length → W.cell? ⟨g, off + k * 2, none⟩ = some (.int .i64 (L.getD k (0, 0)).1) ∧ W.cell? ⟨g, off + (k * 2 + 1), none⟩ = some (.int .i64 (L.getD k (0, 0)).2)
theorem FarL.later {B : Nat} {W W' : World} {D : Option Addr} {L : List (Int × Int)} (h : FarL B W D L) (hb : Below W.heap.size W W') : FarL B W' D L := fun hne => by
  obtain ⟨g, off, h1, h2, h3⟩ := h hne
  exact ⟨g, off, h1, h2, fun k hk => ⟨cell_later hb (h3 k hk).1, cell_later hb (h3 k hk).2⟩⟩
theorem own_far {w : World} {base : Nat} {e : TypeId} {v : Value} {L : List (Int × Int)} (h : w.ownsRow base e 2 v L.length (stCells L)) : ∃ D dc, v = .slice D L.length dc ∧ FarL base w D L := by
  by_cases hne : L = []
  · subst hne
    obtain ⟨D, dc, rfl, _⟩ := own_form h
    exact ⟨D, dc, rfl, fun h => absurd rfl h⟩
  · obtain ⟨g, cap, rfl⟩ := own_len h (List.length_pos_iff.2 hne)
    refine ⟨_, _, rfl, fun _ => ⟨g, 0, rfl, (own_base_le h).1, fun k hk => ?_⟩⟩
    obtain ⟨q1, q2⟩ := stCells_get L k hk
    exact ⟨by rw [Nat.zero_add]; exact own_cell_at h q1, by rw [Nat.zero_add]; exact own_cell_at h q2⟩

theorem join_one {w : World} {A : Option Addr} {c : Nat} {l : List (Int × Int)} (h1 : OneL w A c l) (t : TypeId) :
    Calls Try.prog 53 #[.slice (some ⟨w.heap.size, 0, none⟩) 1 1] (w.alloc (.cells #[.slice A l.length c] t)) (GivesS (Sp.ofL (Sp.inL l)) w) := by
  have b0 := below_new (Below.refl w.heap.size w) (.cells #[.slice A l.length c] t)
  rw [← joinS_one l]
  refine (spjoin_any (some ⟨w.heap.size, 0, none⟩) 1 [l] _ (by simp) (by rw [Sp.tot_one]; exact h1.len) (rows_one (Blk.new w t _) (h1.later b0))).mono ?_
  rintro e w' ⟨v, he, ho, hb⟩
  exact ⟨v, he, own_base ho (by simp), below_on b0 hb⟩
theorem setOf_one {w : World} {A : Option Addr} {c : Nat} {l : List (Int × Int)} (h1 : OneL w A c l) (t : TypeId) :
    Calls Try.prog 74 #[.slice (some ⟨w.heap.size, 0, none⟩) 1 1] (w.alloc (.cells #[.slice A l.length c] t)) fun e w' => e = .returned (.agg (Sp.arr (Sp.inL l))) ∧ Below w.heap.size w w' := by
  have b0 := below_new (Below.refl w.heap.size w) (.cells #[.slice A l.length c] t)
  have e0 : Sp.arr (Sp.inL l) = Sp.arr (Sp.anyTo [l] [l].length) := Sp.arr_ext fun o _ => by
    show Sp.inL l o = (false || Sp.inL l o)
    rw [Bool.false_or]
  rw [e0]
  refine (setOf_any (some ⟨w.heap.size, 0, none⟩) 1 [l] _ (by simp) (by rw [Sp.tot_one]; exact h1.len) (rows_one (Blk.new w t _) (h1.later b0))).mono ?_
  rintro e w' ⟨he, hb⟩
  exact ⟨he, below_on b0 hb⟩

/-- A function over the objects of a list is answered. -/
def WalkerS (L : List (Int × Int)) (w : World) (e : Ending) (w1 : World) : Prop :=
  ∃ bc D dc, e = .returned (.func (.func 94) #[] #[.pointer (some ⟨bc, 0, none⟩)]) ∧ w1.cell? ⟨bc, 0, none⟩ = some (.slice D L.length dc) ∧ FarL w.heap.size w1 D L ∧ Below w.heap.size w w1

set_option maxHeartbeats 800000 in
theorem spAll_any (A : Option Addr) (c : Nat) (l : List (Int × Int)) (w : World) (h : OneL w A c l) :
    Calls Try.prog 76 #[.slice A l.length c] w (WalkerS (Sp.ofL (Sp.inL l)) w) := by
  have H := Lib.hid (fun t => join_one h t)
  clear h
  obtain ⟨L, hL⟩ : ∃ L, Sp.ofL (Sp.inL l) = L := ⟨_, rfl⟩
  rw [hL] at H ⊢
  clear hL
  go_enter Try.func76, Try.ntmps76
  go_wp2_with fail
  refine (H.out _).mono ?_
  rintro e w1 ⟨v, rfl, ho, b1⟩
  obtain ⟨D, dc, rfl, hf⟩ := own_far ho
  have HF := Lib.hid hf
  clear H ho hf
  go_wp2
  go_ret
  exact ⟨w1.heap.size, D, dc, rfl, (Blk.new w1 _ _).cell rfl, HF.out.later (below_new (Below.refl _ _) _), below_new b1 _⟩

theorem enters_eachO : ∀ args w, (callFunc 94 args).run Try.prog w = .ok (.enter 94 args) w :=
  enters_of Try.func94 (by kernel_rfl) rfl

/-- The loop over such a function: with numbers, with objects as the rounds' things. -/
theorem eachO_stops (f : Nat → Bool) (n₀ B bc dc : Nat) (D : Option Addr) (w : World) (hle : B ≤ w.heap.size)
    (hc : w.cell? ⟨bc, 0, none⟩ = some (.slice D (Sp.ofL f).length dc)) (hL : FarL B w D (Sp.ofL f)) :
    SeqStopsK Fence.wide 2 Try.prog 94 #[.pointer (some ⟨bc, 0, none⟩)] told1 (KeepC n₀ B) (· = Sp.obL f) (· <+: Sp.obL f) 256 w := by
  rw [← Sp.comesO_obL f]
  exact fun l J Jx W hW hJ _ hY h0 => eachO_in told1 (fun k => (k : Int)) (fun _ _ => rfl) f 2 (by omega) l n₀ B bc W.heap.size dc D J Jx hJ hY W (cell_later hW hc) (hL.later hW) (Nat.le_trans hle hW.size) h0
theorem walkO_stops (f : Nat → Bool) (n₀ B bc dc : Nat) (D : Option Addr) (w : World) (hle : B ≤ w.heap.size)
    (hc : w.cell? ⟨bc, 0, none⟩ = some (.slice D (Sp.ofL f).length dc)) (hL : FarL B w D (Sp.ofL f)) :
    SeqStopsK Fence.wide 2 Try.prog 94 #[.pointer (some ⟨bc, 0, none⟩)] tellO (KeepC n₀ B) (· = Sp.comesO Sp.objF f 256) (· <+: Sp.comesO Sp.objF f 256) 256 w :=
  fun l J Jx W hW hJ _ hY h0 => eachO_in tellO Sp.objF (fun k hk => by unfold tellO; rw [Sp.objF_val hk]) f 2 (by omega) l n₀ B bc W.heap.size dc D J Jx hJ hY W (cell_later hW hc) (hL.later hW) (Nat.le_trans hle hW.size) h0

theorem spAllSpec : SpAllSpec := by
  unfold SpAllSpec
  intro A c l w0 w h hb
  refine (spAll_any A c l w (h.later hb)).mono ?_
  rintro e w1 ⟨bc, D, dc, rfl, hc, hf, b1⟩
  exact ⟨_, _, rfl, b1, enters_eachO, eachO_stops (Sp.inL l) w0.heap.size w.heap.size bc dc D w1 b1.size hc hf⟩

end Go.Proofs.Ytoaclofobfaflaa
