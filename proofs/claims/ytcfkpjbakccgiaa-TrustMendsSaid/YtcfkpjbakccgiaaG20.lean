/-
  A region that draws its order, within a round of a loop over a function: each operation walked as anywhere. Nothing of the program is imported.
  What trust's Formed and Blurred answer.
  What SpanWalks asks of span's All.
  What span's All answers: a function over the objects of the list, which was read when it was made.
-/
import Derived.Test.YtcfkpjbakccgiaaG04
import Derived.OrdersIn
import Derived.RangeFuncCalls
import Derived.TacticsIn
import Derived.Test.YtcfkpjbakccgiaaG14
import Derived.Test.YtcfkpjbakccgiaaG15
import Derived.Test.YtcfkpjbakccgiaaG16
import Derived.Test.YtcfkpjbakccgiaaG19
import Derived.Test.YtcfkpjbakccgiaaG11
import Derived.RangeFuncFrom
import Derived.RangeFuncNested
import Derived.RangeFuncBound
import Derived.RangeFuncLeaves
import Derived.Shelf.Abstract
import Derived.Shelf.RegionOpen
import Derived.OwnWalkIn
import Derived.TacticsInMore
import Derived.LoopNIn
import Derived.LoopIn
import Derived.Deep.RegionWith
import Derived.Test.YtcfkpjbakccgiaaG13
namespace Go.Proofs.Ytcfkpjbakccgiaa
open Go.RowKit

theorem rows_round {P : Program} {row : String} {args : Array Value} {w : World} {R : Value → World → Prop} (l n : Nat) (h : _root_.Go.Rows P row args w R) : RowsIn (Fence.wide.inRound l) n P row args w R :=
  fun c cs _ => let ⟨v, w', r, s⟩ := h c cs; ⟨v, w', r, stepsIn_wide.2 s⟩
section
variable {P : Program} {ops : Array Oper} {md : Region.Mode} {Q : Exit → Act → World → Prop} {l n : Nat}
theorem wpOp_round {i : Nat} {K : Act → World → Prop} {a : Act} {w : World} (hd : ∀ o c, ops[i]? = some o → o.op ≠ .defer c) (hq : ¬ LetsOut Q) (h : wpOp P ops Q i K a w) : wpOpIn (Fence.wide.inRound l) n P ops Q i K a w := by
  unfold wpOp at h
  unfold wpOpIn
  cases ho : ops[i]? with
  | none =>
    rw [ho] at h
    exact h
  | some o =>
    rw [ho] at h
    simp only at h ⊢
    split
    · rename_i hw
      rw [if_pos hw] at h
      have h := h.resolve_right (fun h => hq h.2)
      refine ⟨fun _ _ => trivial, ?_⟩
      rw [show (Fence.wide.inRound l).round = some l from rfl, Oper.semAt_some l _ _ (fun c => hd o c ho)]
      unfold Oper.wp at h
      generalize (execOp a.eval o).run P w = r at *
      cases r with
      | ok x w' =>
        cases x <;> simp only [Oper.upon, Oper.uponIn] at h ⊢ <;>
          first
            | exact h
            | exact ⟨fun h0 => by simp [Fence.wide, Fence.inRound] at h0, CallsIn.inRound l (callsIn_wide.2 (h.mono (fun e w'' he => by cases e <;> exact he)))⟩
            | exact ⟨fun h0 => by simp [Fence.wide, Fence.inRound] at h0, rows_round l _ h⟩
      | halt x w' => cases x <;> simp only [Oper.upon, Oper.uponIn] at h ⊢ <;> exact h
    · rename_i hw
      rw [if_neg hw] at h
      exact ⟨fun _ _ => trivial, h⟩
theorem wpAny_round (hd : ∀ (i : Nat) o c, ops[i]? = some o → o.op ≠ .defer c) (hq : ¬ LetsOut Q) (f : Nat) (listed : Array Bool) (a : Act) (w : World) (h : wpAny P md ops Q f listed a w) : wpAnyIn (Fence.wide.inRound l) n P md ops Q f listed a w := by
  induction f generalizing listed a w with
  | zero => exact h
  | succ f ih => exact ⟨h.1, fun i hi => wpOpIn_mono (fun a' w' h' => ih _ a' w' h') (wpOp_round (hd i) hq (h.2 i hi))⟩
/-- An operation that isn't wanted. -/
theorem wpOp_skip {i : Nat} {o : Oper} {K : Act → World → Prop} {a : Act} {w : World} (ho : ops[i]? = some o) (hw : Region.wanted o (yielded ops a.tmps) = false) (h : K (a.put o.dst undef) w) : wpOp P ops Q i K a w := by
  unfold wpOp
  rw [ho]
  simp only
  rw [if_neg (by rw [hw]; exact Bool.false_ne_true)]
  exact h
/-- No operation is put off. -/
def noDefer (ops : Array Oper) : Bool := ops.toList.all fun o => match o.op with | .defer _ => false | _ => true
theorem noDefer_at (h : noDefer ops = true) (i : Nat) (o : Oper) c (ho : ops[i]? = some o) : o.op ≠ .defer c := by
  intro e
  have h1 := List.all_eq_true.1 h o (Array.mem_toList_iff.2 (Array.mem_of_getElem? ho))
  rw [e] at h1
  cases h1

/-- **A region that draws its order, in a round, whose operations make memory.** -/
theorem wpIn_region_facts2 {id : Nat} {L : List Oper} {w : World} (m : Nat) (hm : P.follows .mixedOrders = true) (hB : factsB .any L.toArray m = true) (hd : noDefer L.toArray = true) (hq : ¬ LetsOut Q) (T : (Nat → Value) → Act) (v0 : Nat → Value) (Ψ : Nat → Value → World → Prop) (R : Nat → Nat → Value → Value → Prop) (Rel : World → World → Prop) (trans : ∀ {w1 w2 w3}, Rel w1 w2 → Rel w2 w3 → Rel w1 w3) (hself : ∀ w, Rel w w) (hdrew : Rel w w.drew)
    (stab : ∀ i x w w', Ψ i x w → Rel w w' → Ψ i x w')
    (step : ∀ i, i < m → ∀ v w', Rel w w' → (∀ j ∈ deps .any L.toArray i, Ψ j (v j) w') → wpOp P L.toArray Q i (fun a' w'' => ∃ x, a' = T (upd v i x) ∧ Rel w' w'' ∧ Ψ i x w'' ∧ ∀ j y, j ≠ i → Ψ j y w' → R i j x y ∧ R j i y x) (T v) w')
    (done : ∀ v w', Rel w w' → (∀ i, i < m → Ψ i (v i) w') → (∀ i j, i < m → j < m → i ≠ j → R i j (v i) (v j)) → wpList P L.toArray Q (L.drop m) (T v) w') :
    (Code.region id L.toArray true).wpIn (Fence.wide.inRound l) n P Q (T v0) w := by
  refine wpIn_region_any hm (wpAny_round (noDefer_at hd) hq _ _ _ _ ?_)
  have hn : m < L.toArray.size := by
    simp only [factsB, Bool.and_eq_true, decide_eq_true_eq] at hB
    exact hB.1.1.1.1
  have hw : ∀ w', Rel { w with drawn := w.drawn + 1 } w' → Rel w w' := fun w' h => trans hdrew h
  have h := wpAny_facts hB T Ψ R Rel trans { w with drawn := w.drawn + 1 } stab (fun i hi v w' hb hd => step i hi v w' (hw w' hb) hd) (fun v w' hb hf hr => done v w' (hw w' hb) hf hr)
    m (Array.replicate L.toArray.size false) v0 { w with drawn := w.drawn + 1 }
    ⟨by simp, fun j oj hj hl => (by rw [getD_replicate_false] at hl; cases hl), fun t ht ht' => (by rw [Array.getD_eq_getD_getElem?, Array.getElem?_replicate, if_pos ht']; rfl)⟩ (cntTo_none _ m (by omega)) (hself _) (fun i hi hl => by
      rw [Array.getD_eq_getD_getElem?, Array.getElem?_replicate, if_pos (by omega)] at hl
      cases hl) (fun i j hi hj _ hl _ => by
      rw [Array.getD_eq_getD_getElem?, Array.getElem?_replicate, if_pos (by omega)] at hl
      cases hl)
  rw [show m + (L.toArray.size - m) = L.toArray.size from by omega] at h
  exact h
/-- **A region that draws its order, in a round, whose operations make memory.** -/
theorem wpIn_region_facts {id : Nat} {L : List Oper} {w : World} (m : Nat) (hm : P.follows .mixedOrders = true) (hB : factsB .any L.toArray m = true) (hd : noDefer L.toArray = true) (hq : ¬ LetsOut Q) (T : (Nat → Value) → Act) (v0 : Nat → Value) (Ψ : Nat → Value → World → Prop) (Rel : World → World → Prop) (trans : ∀ {w1 w2 w3}, Rel w1 w2 → Rel w2 w3 → Rel w1 w3) (hself : ∀ w, Rel w w) (hdrew : Rel w w.drew)
    (stab : ∀ i x w w', Ψ i x w → Rel w w' → Ψ i x w')
    (step : ∀ i, i < m → ∀ v w', Rel w w' → (∀ j ∈ deps .any L.toArray i, Ψ j (v j) w') → wpOp P L.toArray Q i (fun a' w'' => ∃ x, a' = T (upd v i x) ∧ Rel w' w'' ∧ Ψ i x w'') (T v) w')
    (done : ∀ v w', Rel w w' → (∀ i, i < m → Ψ i (v i) w') → wpList P L.toArray Q (L.drop m) (T v) w') :
    (Code.region id L.toArray true).wpIn (Fence.wide.inRound l) n P Q (T v0) w :=
  wpIn_region_facts2 m hm hB hd hq T v0 Ψ (fun _ _ _ _ => True) Rel trans hself hdrew stab
    (fun i hi v w' hb hd => wpOp_mono (fun _ _ ⟨x, h1, h2, h3⟩ => ⟨x, h1, h2, h3, fun _ _ _ _ => ⟨trivial, trivial⟩⟩) (step i hi v w' hb hd))
    (fun v w' hb hf _ => done v w' hb hf)
end

end Go.Proofs.Ytcfkpjbakccgiaa
namespace Go.Proofs.Ytcfkpjbakccgiaa
open Go.RowKit

theorem Sp.fmd_one (lo hi : Int) : Sp.fmd [(lo, hi)] = decide (0 ≤ lo ∧ lo ≤ hi ∧ hi ≤ 255) := by
  by_cases h : 0 ≤ lo ∧ lo ≤ hi ∧ hi ≤ 255
  · rw [decide_eq_true h, Sp.fmd_iff]
    intro j hj
    obtain rfl : j = 0 := by simpa using hj
    exact ⟨h.1, h.2.1, by show hi < 256; omega, fun h => by omega⟩
  · rw [decide_eq_false h]
    refine Sp.fmd_no _ 0 (by simp) (fun h2 => h ?_)
    have h3 : hi < 256 := h2.2.2.1
    exact ⟨h2.1, h2.2.1, by omega⟩

set_option maxRecDepth 100000 in
set_option maxHeartbeats 6400000 in
theorem tformed_any (A : Option Addr) (c : Nat) (L : List Zc) (w : World) (h : OneZ w A c L) :
    Calls Try.prog 11 #[.slice A L.length c] w (Says (.bool (Tr.fmd (L.map Zc.zn))) w) := by
  have hlen := h.len
  have HD := Lib.hid h
  obtain ⟨q, hq⟩ : ∃ q, Tr.fmd (L.map Zc.zn) = q := ⟨_, rfl⟩
  rw [hq]
  have HQ := Lib.hid hq
  clear h hq
  go_enter Try.func11, Try.ntmps11
  go_wp2_with fail
  go_loopw [7] (fun s7 wr => ∃ (k : Nat), k ≤ L.length ∧ s7 = .int .i64 (k : Int) ∧ Tr.fmTo (L.map Zc.zn) k ∧ Below w.heap.size w wr) (fun s7 _ => L.length - (intOf s7).toNat)
  case atStart => exact ⟨0, Nat.zero_le _, rfl, fun u hu => by omega, Below.refl _ _⟩
  case round =>
    obtain ⟨k, hk, rfl, hall, hbw⟩ := hrel
    have HALL := Lib.hid hall
    clear hall
    by_cases hlt : k < L.length
    · have hne : L ≠ [] := fun e => by subst e; simp at hlt
      have HO := Lib.hid (HD.out.later hbw)
      obtain ⟨b, off, hA, hc⟩ := HO.out.at hne
      subst hA
      obtain ⟨x, hx⟩ : ∃ x, L[k]? = some x := ⟨L[k], List.getElem?_eq_getElem hlt⟩
      obtain ⟨e0, e1, e2⟩ := hc k x hx
      have hg := zn_getD hx
      have hi0 : (0 : Int) ≤ (k : Int) := by omega
      have hi1 : (k : Int) < (L.length : Int) := by omega
      have hxo := HO.out.one hx
      have HC := Lib.hid hc
      obtain ⟨lo, hi, X, cx, l⟩ := x
      dsimp only at e0 e1 e2 hxo
      have hok : Tr.okAt (L.map Zc.zn) k ↔ ((0 ≤ lo ∧ lo ≤ hi ∧ hi ≤ 255) ∧ Ve.fmd l = true ∧ (0 < k → ((L.map Zc.zn).getD (k - 1) (0, 0, [])).2.1 < lo ∧ (((L.map Zc.zn).getD (k - 1) (0, 0, [])).2.1 = lo - 1 → ((L.map Zc.zn).getD (k - 1) (0, 0, [])).2.2 ≠ l))) := by
        unfold Tr.okAt
        rw [hg]
        rfl
      have NO := Lib.hid (fun (hn : ¬ ((0 ≤ lo ∧ lo ≤ hi ∧ hi ≤ 255) ∧ Ve.fmd l = true ∧ (0 < k → ((L.map Zc.zn).getD (k - 1) (0, 0, [])).2.1 < lo ∧ (((L.map Zc.zn).getD (k - 1) (0, 0, [])).2.1 = lo - 1 → ((L.map Zc.zn).getD (k - 1) (0, 0, [])).2.2 ≠ l)))) => (show q = false from by
        rw [← HQ.out]
        exact Tr.fmd_no k (by rw [List.length_map]; exact hlt) (fun hh => hn (hok.1 hh))))
      have NX := Lib.hid (fun (hn : ((0 ≤ lo ∧ lo ≤ hi ∧ hi ≤ 255) ∧ Ve.fmd l = true ∧ (0 < k → ((L.map Zc.zn).getD (k - 1) (0, 0, [])).2.1 < lo ∧ (((L.map Zc.zn).getD (k - 1) (0, 0, [])).2.1 = lo - 1 → ((L.map Zc.zn).getD (k - 1) (0, 0, [])).2.2 ≠ l)))) => (show Tr.fmTo (L.map Zc.zn) (k + 1) from fun u hu => by
        by_cases e : u = k
        · subst e; exact hok.2 hn
        · exact HALL.out u (by omega)))
      obtain ⟨W1, hW1⟩ : ∃ W1, wr.alloc (.cells #[.int .i64 lo, .int .i64 hi, .slice X l.length cx] 57) = W1 := ⟨_, rfl⟩
      have hb1 : Below wr.heap.size wr W1 := by rw [← hW1]; exact below_new (Below.refl _ _) _
      have XB : Blk W1 wr.heap.size 57 #[.int .i64 lo, .int .i64 hi, .slice X l.length cx] := by rw [← hW1]; exact Blk.new wr _ _
      have BN := Lib.hid (below_on hbw hb1)
      have DR := Lib.hid (show Below W1.heap.size W1 W1.drew from Below.drew (Below.refl _ _))
      have HX1 := Lib.hid (hxo.later hb1)
      have HXB := Lib.hid XB
      have k0 : W1.drew.cell? ⟨wr.heap.size, 0, none⟩ = some (.int .i64 lo) := XB.cell (i := 0) rfl
      have k1 : W1.drew.cell? ⟨wr.heap.size, 1, none⟩ = some (.int .i64 hi) := XB.cell (i := 1) rfl
      obtain ⟨sf, hsf⟩ : ∃ f, decide (0 ≤ lo ∧ lo ≤ hi ∧ hi ≤ 255) = f := ⟨_, rfl⟩
      have FS := Lib.hid (fun (w' : World) (g : Nat) (ob : Blk w' g 55 #[.int .i64 lo, .int .i64 hi]) => (show Calls Try.prog 34 #[.slice (some ⟨g, 0, none⟩) 1 1] w' (Says (.bool sf) w') from by
        rw [← hsf, ← Sp.fmd_one]
        exact spformed_any (some ⟨g, 0, none⟩) 1 [(lo, hi)] w' (one_stamp ob)))
      obtain ⟨vf, hvf⟩ : ∃ f, Ve.fmd l = f := ⟨_, rfl⟩
      have FV := Lib.hid (fun (w' : World) (b : Below W1.heap.size W1 w') => (show Calls Try.prog 36 #[.slice X l.length cx] w' (Says (.bool vf) w') from by
        rw [← hvf]
        exact formed_any X cx l w' (HX1.out.later b)))
      have HSF := Lib.hid hsf
      have HVF := Lib.hid hvf
      have BX := Lib.hid (fun (w' : World) (b : Below W1.heap.size W1 w') => (show w'.cell? ⟨wr.heap.size, 0, none⟩ = some (.int .i64 lo) ∧ w'.cell? ⟨wr.heap.size, 1, none⟩ = some (.int .i64 hi) ∧ w'.cell? ⟨wr.heap.size, 2, none⟩ = some (.slice X l.length cx) from
        ⟨(HXB.out.later b).cell (i := 0) rfl, (HXB.out.later b).cell (i := 1) rfl, (HXB.out.later b).cell (i := 2) rfl⟩))
      have HW1 := Lib.hid hW1
      have HX := Lib.hid hx
      have HB1 := Lib.hid hb1
      clear hsf hvf hg hok hc hne hxo hx hb1 XB hW1
      go_upto_region 4 with (fail)
      rw [HW1.out]
      clear e0 e1 e2 HW1
      cases sf with
      | false =>
        have hqf := NO.out (fun h => by have := decide_eq_true h.1; rw [HSF.out] at this; cases this)
        subst hqf
        refine wp_region_facts 24 (by kernel_rfl) (by kernel_rfl)
          (fun v => { tmps := #[.slice (some ⟨b, off, none⟩) L.length c, undef, u2, .int .i64 (k : Int), .pointer (some ⟨wr.heap.size, 0, none⟩), .slice (some ⟨b, off, none⟩) L.length c, .int .i64 (L.length : Int), .int .i64 (k : Int), .bool true, .int .i64 (k : Int), .pointer (some ⟨b, off + k * 3, none⟩), .agg #[.int .i64 lo, .int .i64 hi, .slice X l.length cx], v 0, v 1, v 2, v 3, v 4, v 5, v 6, v 7, v 8, v 9, v 10, v 11, v 12, v 13, v 14, v 15, v 16, v 17, v 18, v 19, v 20, v 21, v 22, v 23, u36, u37], defers := [] }) (fun i => match i with | 0 => u12 | 1 => u13 | 2 => u14 | 3 => u15 | 4 => u16 | 5 => u17 | 6 => u18 | 7 => u19 | 8 => u20 | 9 => u21 | 10 => u22 | 11 => u23 | 12 => u24 | 13 => u25 | 14 => u26 | 15 => u27 | 16 => u28 | 17 => u29 | 18 => u30 | 19 => u31 | 20 => u32 | 21 => u33 | 22 => u34 | 23 => u35 | _ => undef)
          (fun i x wx => match i with
            | 0 => x = .pointer (some ⟨wr.heap.size, 0, none⟩)
            | 1 => x = .agg #[.int .i64 lo, .int .i64 hi]
            | 2 => ∃ g, x = .slice (some ⟨g, 0, none⟩) 1 1 ∧ Blk wx g 55 #[.int .i64 lo, .int .i64 hi]
            | 3 => x = .bool false
            | 4 => x = .bool true
            | 5 => x = .bool true
            | 6 => x = undef
            | 7 => x = undef
            | 8 => x = undef
            | 9 => x = undef
            | 10 => x = .bool true
            | 11 => x = .bool true
            | 12 => x = undef
            | 13 => x = undef
            | 14 => x = undef
            | 15 => x = undef
            | 16 => x = undef
            | 17 => x = undef
            | 18 => x = undef
            | 19 => x = undef
            | 20 => x = undef
            | 21 => x = undef
            | 22 => x = undef
            | 23 => x = undef
            | _ => True)
          (fun w1 w2 => Below w1.heap.size w1 w2) (fun h1 h2 => below_on h1 h2) (fun _ => Below.refl _ _) (Below.drew (Below.refl _ _)) ?stabA ?stepA ?doneA
        case stabA =>
          rintro i x w1 w2 h hb
          match i, h with
          | 0, h => exact h
          | 1, h => exact h
          | 2, h => obtain ⟨g, h1, h2⟩ := h; exact ⟨g, h1, h2.later hb⟩
          | 3, h => exact h
          | 4, h => exact h
          | 5, h => exact h
          | 6, h => exact h
          | 7, h => exact h
          | 8, h => exact h
          | 9, h => exact h
          | 10, h => exact h
          | 11, h => exact h
          | 12, h => exact h
          | 13, h => exact h
          | 14, h => exact h
          | 15, h => exact h
          | 16, h => exact h
          | 17, h => exact h
          | 18, h => exact h
          | 19, h => exact h
          | 20, h => exact h
          | 21, h => exact h
          | 22, h => exact h
          | 23, h => exact h
          | i + 24, _ => trivial
        case stepA =>
          intro i hi v w' hb hd
          match i, hi with
          | 0, _ =>
            refine wpOp_oneK rfl (fun KK hKK => ?_)
            have HKK := Lib.hid hKK
            clear hKK hd
            go_wp2
            exact HKK.out _ _ ⟨_, (by simp [upd]; done), Below.refl _ _, rfl⟩
          | 1, _ =>
            have h0 : v 0 = _ := hd 0 (List.elem_iff.1 (by kernel_rfl))
            refine wpOp_oneK rfl (fun KK hKK => ?_)
            have HKK := Lib.hid hKK
            clear hKK hd
            rw [h0]
            have q0 := cell_later hb (BX.out W1 (Below.refl _ _)).1
            have q1 := cell_later hb (BX.out W1 (Below.refl _ _)).2.1
            go_wp2
            exact HKK.out _ _ ⟨_, (by simp [upd, h0]; done), Below.refl _ _, rfl⟩
          | 2, _ =>
            have h1 : v 1 = _ := hd 1 (List.elem_iff.1 (by kernel_rfl))
            refine wpOp_oneK rfl (fun KK hKK => ?_)
            have HKK := Lib.hid hKK
            clear hKK hd
            rw [h1]
            go_wp2_with fail
            refine (alone_any _ _ _).mono ?_
            rintro e w'' ⟨g, rfl, ob, -, b⟩
            go_wp2
            exact HKK.out _ _ ⟨_, (by simp [upd, h1]; done), b, g, rfl, ob⟩
          | 3, _ =>
            obtain ⟨g2, h2, o2⟩ := hd 2 (List.elem_iff.1 (by kernel_rfl))
            refine wpOp_oneK rfl (fun KK hKK => ?_)
            have HKK := Lib.hid hKK
            clear hKK hd
            rw [h2]
            go_wp2_with fail
            refine (FS.out _ _ o2).mono ?_
            rintro e w'' ⟨rfl, b⟩
            go_wp2
            exact HKK.out _ _ ⟨_, (by simp [upd, h2]; done), b, rfl⟩
          | 4, _ =>
            have h3 : v 3 = _ := hd 3 (List.elem_iff.1 (by kernel_rfl))
            refine wpOp_oneK rfl (fun KK hKK => ?_)
            have HKK := Lib.hid hKK
            clear hKK hd
            rw [h3]
            go_wp2
            exact HKK.out _ _ ⟨_, (by simp [upd, h3]; done), Below.refl _ _, rfl⟩
          | 5, _ =>
            have h4 : v 4 = _ := hd 4 (List.elem_iff.1 (by kernel_rfl))
            refine wpOp_oneK rfl (fun KK hKK => ?_)
            have HKK := Lib.hid hKK
            clear hKK hd
            rw [h4]
            go_wp2
            exact HKK.out _ _ ⟨_, (by simp [upd, h4]; done), Below.refl _ _, rfl⟩
          | 6, _ =>
            have h5 : v 5 = _ := hd 5 (List.elem_iff.1 (by kernel_rfl))
            clear hd
            rw [h5]
            exact wpOp_skip rfl (by rfl) ⟨_, (by simp [upd, Act.put, h5]; done), Below.refl _ _, rfl⟩
          | 7, _ =>
            have h5 : v 5 = _ := hd 5 (List.elem_iff.1 (by kernel_rfl))
            clear hd
            rw [h5]
            exact wpOp_skip rfl (by rfl) ⟨_, (by simp [upd, Act.put, h5]; done), Below.refl _ _, rfl⟩
          | 8, _ =>
            have h5 : v 5 = _ := hd 5 (List.elem_iff.1 (by kernel_rfl))
            clear hd
            rw [h5]
            exact wpOp_skip rfl (by rfl) ⟨_, (by simp [upd, Act.put, h5]; done), Below.refl _ _, rfl⟩
          | 9, _ =>
            have h5 : v 5 = _ := hd 5 (List.elem_iff.1 (by kernel_rfl))
            clear hd
            rw [h5]
            exact wpOp_skip rfl (by rfl) ⟨_, (by simp [upd, Act.put, h5]; done), Below.refl _ _, rfl⟩
          | 10, _ =>
            have h5 : v 5 = _ := hd 5 (List.elem_iff.1 (by kernel_rfl))
            have h9 : v 9 = _ := hd 9 (List.elem_iff.1 (by kernel_rfl))
            refine wpOp_oneK rfl (fun KK hKK => ?_)
            have HKK := Lib.hid hKK
            clear hKK hd
            rw [h5, h9]
            go_wp2
            exact HKK.out _ _ ⟨_, (by simp [upd, h5, h9]; done), Below.refl _ _, rfl⟩
          | 11, _ =>
            have h10 : v 10 = _ := hd 10 (List.elem_iff.1 (by kernel_rfl))
            refine wpOp_oneK rfl (fun KK hKK => ?_)
            have HKK := Lib.hid hKK
            clear hKK hd
            rw [h10]
            go_wp2
            exact HKK.out _ _ ⟨_, (by simp [upd, h10]; done), Below.refl _ _, rfl⟩
          | 12, _ =>
            have h11 : v 11 = _ := hd 11 (List.elem_iff.1 (by kernel_rfl))
            clear hd
            rw [h11]
            exact wpOp_skip rfl (by rfl) ⟨_, (by simp [upd, Act.put, h11]; done), Below.refl _ _, rfl⟩
          | 13, _ =>
            have h11 : v 11 = _ := hd 11 (List.elem_iff.1 (by kernel_rfl))
            clear hd
            rw [h11]
            exact wpOp_skip rfl (by rfl) ⟨_, (by simp [upd, Act.put, h11]; done), Below.refl _ _, rfl⟩
          | 14, _ =>
            have h11 : v 11 = _ := hd 11 (List.elem_iff.1 (by kernel_rfl))
            clear hd
            rw [h11]
            exact wpOp_skip rfl (by rfl) ⟨_, (by simp [upd, Act.put, h11]; done), Below.refl _ _, rfl⟩
          | 15, _ =>
            have h14 : v 14 = _ := hd 14 (List.elem_iff.1 (by kernel_rfl))
            clear hd
            rw [h14]
            exact wpOp_skip rfl (by rfl) ⟨_, (by simp [upd, Act.put, h14]; done), Below.refl _ _, rfl⟩
          | 16, _ =>
            have h14 : v 14 = _ := hd 14 (List.elem_iff.1 (by kernel_rfl))
            clear hd
            rw [h14]
            exact wpOp_skip rfl (by rfl) ⟨_, (by simp [upd, Act.put, h14]; done), Below.refl _ _, rfl⟩
          | 17, _ =>
            have h14 : v 14 = _ := hd 14 (List.elem_iff.1 (by kernel_rfl))
            clear hd
            rw [h14]
            exact wpOp_skip rfl (by rfl) ⟨_, (by simp [upd, Act.put, h14]; done), Below.refl _ _, rfl⟩
          | 18, _ =>
            have h14 : v 14 = _ := hd 14 (List.elem_iff.1 (by kernel_rfl))
            clear hd
            rw [h14]
            exact wpOp_skip rfl (by rfl) ⟨_, (by simp [upd, Act.put, h14]; done), Below.refl _ _, rfl⟩
          | 19, _ =>
            have h14 : v 14 = _ := hd 14 (List.elem_iff.1 (by kernel_rfl))
            clear hd
            rw [h14]
            exact wpOp_skip rfl (by rfl) ⟨_, (by simp [upd, Act.put, h14]; done), Below.refl _ _, rfl⟩
          | 20, _ =>
            have h14 : v 14 = _ := hd 14 (List.elem_iff.1 (by kernel_rfl))
            clear hd
            rw [h14]
            exact wpOp_skip rfl (by rfl) ⟨_, (by simp [upd, Act.put, h14]; done), Below.refl _ _, rfl⟩
          | 21, _ =>
            have h14 : v 14 = _ := hd 14 (List.elem_iff.1 (by kernel_rfl))
            clear hd
            rw [h14]
            exact wpOp_skip rfl (by rfl) ⟨_, (by simp [upd, Act.put, h14]; done), Below.refl _ _, rfl⟩
          | 22, _ =>
            have h14 : v 14 = _ := hd 14 (List.elem_iff.1 (by kernel_rfl))
            clear hd
            rw [h14]
            exact wpOp_skip rfl (by rfl) ⟨_, (by simp [upd, Act.put, h14]; done), Below.refl _ _, rfl⟩
          | 23, _ =>
            have h11 : v 11 = _ := hd 11 (List.elem_iff.1 (by kernel_rfl))
            clear hd
            rw [h11]
            exact wpOp_skip rfl (by rfl) ⟨_, (by simp [upd, Act.put, h11]; done), Below.refl _ _, rfl⟩
          | k + 24, hk => exact absurd hk (by omega)
        case doneA =>
          intro v w5 hb hf
          have h11 : v 11 = _ := hf 11 (by decide)
          have h23 : v 23 = _ := hf 23 (by decide)
          clear hf
          rw [h11, h23]
          have HBB := Lib.hid hb
          clear hb
          go_wp2
          go_ret
          exact ⟨rfl, below_on BN.out HBB.out⟩
      | true =>
      have T := Lib.hid (of_decide_eq_true HSF.out)
      cases vf with
      | false =>
        have hqf := NO.out (fun h => by have := h.2.1; rw [HVF.out] at this; cases this)
        subst hqf
        refine wp_region_facts 24 (by kernel_rfl) (by kernel_rfl)
          (fun v => { tmps := #[.slice (some ⟨b, off, none⟩) L.length c, undef, u2, .int .i64 (k : Int), .pointer (some ⟨wr.heap.size, 0, none⟩), .slice (some ⟨b, off, none⟩) L.length c, .int .i64 (L.length : Int), .int .i64 (k : Int), .bool true, .int .i64 (k : Int), .pointer (some ⟨b, off + k * 3, none⟩), .agg #[.int .i64 lo, .int .i64 hi, .slice X l.length cx], v 0, v 1, v 2, v 3, v 4, v 5, v 6, v 7, v 8, v 9, v 10, v 11, v 12, v 13, v 14, v 15, v 16, v 17, v 18, v 19, v 20, v 21, v 22, v 23, u36, u37], defers := [] }) (fun i => match i with | 0 => u12 | 1 => u13 | 2 => u14 | 3 => u15 | 4 => u16 | 5 => u17 | 6 => u18 | 7 => u19 | 8 => u20 | 9 => u21 | 10 => u22 | 11 => u23 | 12 => u24 | 13 => u25 | 14 => u26 | 15 => u27 | 16 => u28 | 17 => u29 | 18 => u30 | 19 => u31 | 20 => u32 | 21 => u33 | 22 => u34 | 23 => u35 | _ => undef)
          (fun i x wx => match i with
            | 0 => x = .pointer (some ⟨wr.heap.size, 0, none⟩)
            | 1 => x = .agg #[.int .i64 lo, .int .i64 hi]
            | 2 => ∃ g, x = .slice (some ⟨g, 0, none⟩) 1 1 ∧ Blk wx g 55 #[.int .i64 lo, .int .i64 hi]
            | 3 => x = .bool true
            | 4 => x = .bool false
            | 5 => x = .bool false
            | 6 => x = .pointer (some ⟨wr.heap.size, 2, none⟩)
            | 7 => x = .slice X l.length cx
            | 8 => x = .bool false
            | 9 => x = .bool true
            | 10 => x = .bool true
            | 11 => x = .bool true
            | 12 => x = undef
            | 13 => x = undef
            | 14 => x = undef
            | 15 => x = undef
            | 16 => x = undef
            | 17 => x = undef
            | 18 => x = undef
            | 19 => x = undef
            | 20 => x = undef
            | 21 => x = undef
            | 22 => x = undef
            | 23 => x = undef
            | _ => True)
          (fun w1 w2 => Below w1.heap.size w1 w2) (fun h1 h2 => below_on h1 h2) (fun _ => Below.refl _ _) (Below.drew (Below.refl _ _)) ?stabB ?stepB ?doneB
        case stabB =>
          rintro i x w1 w2 h hb
          match i, h with
          | 0, h => exact h
          | 1, h => exact h
          | 2, h => obtain ⟨g, h1, h2⟩ := h; exact ⟨g, h1, h2.later hb⟩
          | 3, h => exact h
          | 4, h => exact h
          | 5, h => exact h
          | 6, h => exact h
          | 7, h => exact h
          | 8, h => exact h
          | 9, h => exact h
          | 10, h => exact h
          | 11, h => exact h
          | 12, h => exact h
          | 13, h => exact h
          | 14, h => exact h
          | 15, h => exact h
          | 16, h => exact h
          | 17, h => exact h
          | 18, h => exact h
          | 19, h => exact h
          | 20, h => exact h
          | 21, h => exact h
          | 22, h => exact h
          | 23, h => exact h
          | i + 24, _ => trivial
        case stepB =>
          intro i hi v w' hb hd
          match i, hi with
          | 0, _ =>
            refine wpOp_oneK rfl (fun KK hKK => ?_)
            have HKK := Lib.hid hKK
            clear hKK hd
            go_wp2
            exact HKK.out _ _ ⟨_, (by simp [upd]; done), Below.refl _ _, rfl⟩
          | 1, _ =>
            have h0 : v 0 = _ := hd 0 (List.elem_iff.1 (by kernel_rfl))
            refine wpOp_oneK rfl (fun KK hKK => ?_)
            have HKK := Lib.hid hKK
            clear hKK hd
            rw [h0]
            have q0 := cell_later hb (BX.out W1 (Below.refl _ _)).1
            have q1 := cell_later hb (BX.out W1 (Below.refl _ _)).2.1
            go_wp2
            exact HKK.out _ _ ⟨_, (by simp [upd, h0]; done), Below.refl _ _, rfl⟩
          | 2, _ =>
            have h1 : v 1 = _ := hd 1 (List.elem_iff.1 (by kernel_rfl))
            refine wpOp_oneK rfl (fun KK hKK => ?_)
            have HKK := Lib.hid hKK
            clear hKK hd
            rw [h1]
            go_wp2_with fail
            refine (alone_any _ _ _).mono ?_
            rintro e w'' ⟨g, rfl, ob, -, b⟩
            go_wp2
            exact HKK.out _ _ ⟨_, (by simp [upd, h1]; done), b, g, rfl, ob⟩
          | 3, _ =>
            obtain ⟨g2, h2, o2⟩ := hd 2 (List.elem_iff.1 (by kernel_rfl))
            refine wpOp_oneK rfl (fun KK hKK => ?_)
            have HKK := Lib.hid hKK
            clear hKK hd
            rw [h2]
            go_wp2_with fail
            refine (FS.out _ _ o2).mono ?_
            rintro e w'' ⟨rfl, b⟩
            go_wp2
            exact HKK.out _ _ ⟨_, (by simp [upd, h2]; done), b, rfl⟩
          | 4, _ =>
            have h3 : v 3 = _ := hd 3 (List.elem_iff.1 (by kernel_rfl))
            refine wpOp_oneK rfl (fun KK hKK => ?_)
            have HKK := Lib.hid hKK
            clear hKK hd
            rw [h3]
            go_wp2
            exact HKK.out _ _ ⟨_, (by simp [upd, h3]; done), Below.refl _ _, rfl⟩
          | 5, _ =>
            have h4 : v 4 = _ := hd 4 (List.elem_iff.1 (by kernel_rfl))
            refine wpOp_oneK rfl (fun KK hKK => ?_)
            have HKK := Lib.hid hKK
            clear hKK hd
            rw [h4]
            go_wp2
            exact HKK.out _ _ ⟨_, (by simp [upd, h4]; done), Below.refl _ _, rfl⟩
          | 6, _ =>
            have h5 : v 5 = _ := hd 5 (List.elem_iff.1 (by kernel_rfl))
            refine wpOp_oneK rfl (fun KK hKK => ?_)
            have HKK := Lib.hid hKK
            clear hKK hd
            rw [h5]
            go_wp2
            exact HKK.out _ _ ⟨_, (by simp [upd, h5]; done), Below.refl _ _, rfl⟩
          | 7, _ =>
            have h5 : v 5 = _ := hd 5 (List.elem_iff.1 (by kernel_rfl))
            have h6 : v 6 = _ := hd 6 (List.elem_iff.1 (by kernel_rfl))
            refine wpOp_oneK rfl (fun KK hKK => ?_)
            have HKK := Lib.hid hKK
            clear hKK hd
            rw [h5, h6]
            have q0 := cell_later hb (BX.out W1 (Below.refl _ _)).2.2
            go_wp2
            exact HKK.out _ _ ⟨_, (by simp [upd, h5, h6]; done), Below.refl _ _, rfl⟩
          | 8, _ =>
            have h5 : v 5 = _ := hd 5 (List.elem_iff.1 (by kernel_rfl))
            have h7 : v 7 = _ := hd 7 (List.elem_iff.1 (by kernel_rfl))
            refine wpOp_oneK rfl (fun KK hKK => ?_)
            have HKK := Lib.hid hKK
            clear hKK hd
            rw [h5, h7]
            go_wp2_with fail
            refine (FV.out _ hb).mono ?_
            rintro e w'' ⟨rfl, b⟩
            go_wp2
            exact HKK.out _ _ ⟨_, (by simp [upd, h5, h7]; done), b, rfl⟩
          | 9, _ =>
            have h5 : v 5 = _ := hd 5 (List.elem_iff.1 (by kernel_rfl))
            have h8 : v 8 = _ := hd 8 (List.elem_iff.1 (by kernel_rfl))
            refine wpOp_oneK rfl (fun KK hKK => ?_)
            have HKK := Lib.hid hKK
            clear hKK hd
            rw [h5, h8]
            go_wp2
            exact HKK.out _ _ ⟨_, (by simp [upd, h5, h8]; done), Below.refl _ _, rfl⟩
          | 10, _ =>
            have h5 : v 5 = _ := hd 5 (List.elem_iff.1 (by kernel_rfl))
            have h9 : v 9 = _ := hd 9 (List.elem_iff.1 (by kernel_rfl))
            refine wpOp_oneK rfl (fun KK hKK => ?_)
            have HKK := Lib.hid hKK
            clear hKK hd
            rw [h5, h9]
            go_wp2
            exact HKK.out _ _ ⟨_, (by simp [upd, h5, h9]; done), Below.refl _ _, rfl⟩
          | 11, _ =>
            have h10 : v 10 = _ := hd 10 (List.elem_iff.1 (by kernel_rfl))
            refine wpOp_oneK rfl (fun KK hKK => ?_)
            have HKK := Lib.hid hKK
            clear hKK hd
            rw [h10]
            go_wp2
            exact HKK.out _ _ ⟨_, (by simp [upd, h10]; done), Below.refl _ _, rfl⟩
          | 12, _ =>
            have h11 : v 11 = _ := hd 11 (List.elem_iff.1 (by kernel_rfl))
            clear hd
            rw [h11]
            exact wpOp_skip rfl (by rfl) ⟨_, (by simp [upd, Act.put, h11]; done), Below.refl _ _, rfl⟩
          | 13, _ =>
            have h11 : v 11 = _ := hd 11 (List.elem_iff.1 (by kernel_rfl))
            clear hd
            rw [h11]
            exact wpOp_skip rfl (by rfl) ⟨_, (by simp [upd, Act.put, h11]; done), Below.refl _ _, rfl⟩
          | 14, _ =>
            have h11 : v 11 = _ := hd 11 (List.elem_iff.1 (by kernel_rfl))
            clear hd
            rw [h11]
            exact wpOp_skip rfl (by rfl) ⟨_, (by simp [upd, Act.put, h11]; done), Below.refl _ _, rfl⟩
          | 15, _ =>
            have h14 : v 14 = _ := hd 14 (List.elem_iff.1 (by kernel_rfl))
            clear hd
            rw [h14]
            exact wpOp_skip rfl (by rfl) ⟨_, (by simp [upd, Act.put, h14]; done), Below.refl _ _, rfl⟩
          | 16, _ =>
            have h14 : v 14 = _ := hd 14 (List.elem_iff.1 (by kernel_rfl))
            clear hd
            rw [h14]
            exact wpOp_skip rfl (by rfl) ⟨_, (by simp [upd, Act.put, h14]; done), Below.refl _ _, rfl⟩
          | 17, _ =>
            have h14 : v 14 = _ := hd 14 (List.elem_iff.1 (by kernel_rfl))
            clear hd
            rw [h14]
            exact wpOp_skip rfl (by rfl) ⟨_, (by simp [upd, Act.put, h14]; done), Below.refl _ _, rfl⟩
          | 18, _ =>
            have h14 : v 14 = _ := hd 14 (List.elem_iff.1 (by kernel_rfl))
            clear hd
            rw [h14]
            exact wpOp_skip rfl (by rfl) ⟨_, (by simp [upd, Act.put, h14]; done), Below.refl _ _, rfl⟩
          | 19, _ =>
            have h14 : v 14 = _ := hd 14 (List.elem_iff.1 (by kernel_rfl))
            clear hd
            rw [h14]
            exact wpOp_skip rfl (by rfl) ⟨_, (by simp [upd, Act.put, h14]; done), Below.refl _ _, rfl⟩
          | 20, _ =>
            have h14 : v 14 = _ := hd 14 (List.elem_iff.1 (by kernel_rfl))
            clear hd
            rw [h14]
            exact wpOp_skip rfl (by rfl) ⟨_, (by simp [upd, Act.put, h14]; done), Below.refl _ _, rfl⟩
          | 21, _ =>
            have h14 : v 14 = _ := hd 14 (List.elem_iff.1 (by kernel_rfl))
            clear hd
            rw [h14]
            exact wpOp_skip rfl (by rfl) ⟨_, (by simp [upd, Act.put, h14]; done), Below.refl _ _, rfl⟩
          | 22, _ =>
            have h14 : v 14 = _ := hd 14 (List.elem_iff.1 (by kernel_rfl))
            clear hd
            rw [h14]
            exact wpOp_skip rfl (by rfl) ⟨_, (by simp [upd, Act.put, h14]; done), Below.refl _ _, rfl⟩
          | 23, _ =>
            have h11 : v 11 = _ := hd 11 (List.elem_iff.1 (by kernel_rfl))
            clear hd
            rw [h11]
            exact wpOp_skip rfl (by rfl) ⟨_, (by simp [upd, Act.put, h11]; done), Below.refl _ _, rfl⟩
          | k + 24, hk => exact absurd hk (by omega)
        case doneB =>
          intro v w5 hb hf
          have h11 : v 11 = _ := hf 11 (by decide)
          have h23 : v 23 = _ := hf 23 (by decide)
          clear hf
          rw [h11, h23]
          have HBB := Lib.hid hb
          clear hb
          go_wp2
          go_ret
          exact ⟨rfl, below_on BN.out HBB.out⟩
      | true =>
      cases k with
      | zero =>
        have HT := Lib.hid (NX.out ⟨T.out, HVF.out, fun h => absurd h (by omega)⟩)
        refine wp_region_facts 24 (by kernel_rfl) (by kernel_rfl)
          (fun v => { tmps := #[.slice (some ⟨b, off, none⟩) L.length c, undef, u2, .int .i64 0, .pointer (some ⟨wr.heap.size, 0, none⟩), .slice (some ⟨b, off, none⟩) L.length c, .int .i64 (L.length : Int), .int .i64 0, .bool true, .int .i64 0, .pointer (some ⟨b, off, none⟩), .agg #[.int .i64 lo, .int .i64 hi, .slice X l.length cx], v 0, v 1, v 2, v 3, v 4, v 5, v 6, v 7, v 8, v 9, v 10, v 11, v 12, v 13, v 14, v 15, v 16, v 17, v 18, v 19, v 20, v 21, v 22, v 23, u36, u37], defers := [] }) (fun i => match i with | 0 => u12 | 1 => u13 | 2 => u14 | 3 => u15 | 4 => u16 | 5 => u17 | 6 => u18 | 7 => u19 | 8 => u20 | 9 => u21 | 10 => u22 | 11 => u23 | 12 => u24 | 13 => u25 | 14 => u26 | 15 => u27 | 16 => u28 | 17 => u29 | 18 => u30 | 19 => u31 | 20 => u32 | 21 => u33 | 22 => u34 | 23 => u35 | _ => undef)
          (fun i x wx => match i with
            | 0 => x = .pointer (some ⟨wr.heap.size, 0, none⟩)
            | 1 => x = .agg #[.int .i64 lo, .int .i64 hi]
            | 2 => ∃ g, x = .slice (some ⟨g, 0, none⟩) 1 1 ∧ Blk wx g 55 #[.int .i64 lo, .int .i64 hi]
            | 3 => x = .bool true
            | 4 => x = .bool false
            | 5 => x = .bool false
            | 6 => x = .pointer (some ⟨wr.heap.size, 2, none⟩)
            | 7 => x = .slice X l.length cx
            | 8 => x = .bool true
            | 9 => x = .bool false
            | 10 => x = .bool false
            | 11 => x = .bool false
            | 12 => x = .int .i64 0
            | 13 => x = .bool false
            | 14 => x = .bool false
            | 15 => x = undef
            | 16 => x = undef
            | 17 => x = undef
            | 18 => x = undef
            | 19 => x = undef
            | 20 => x = undef
            | 21 => x = undef
            | 22 => x = undef
            | 23 => x = .bool false
            | _ => True)
          (fun w1 w2 => Below w1.heap.size w1 w2) (fun h1 h2 => below_on h1 h2) (fun _ => Below.refl _ _) (Below.drew (Below.refl _ _)) ?stabC ?stepC ?doneC
        case stabC =>
          rintro i x w1 w2 h hb
          match i, h with
          | 0, h => exact h
          | 1, h => exact h
          | 2, h => obtain ⟨g, h1, h2⟩ := h; exact ⟨g, h1, h2.later hb⟩
          | 3, h => exact h
          | 4, h => exact h
          | 5, h => exact h
          | 6, h => exact h
          | 7, h => exact h
          | 8, h => exact h
          | 9, h => exact h
          | 10, h => exact h
          | 11, h => exact h
          | 12, h => exact h
          | 13, h => exact h
          | 14, h => exact h
          | 15, h => exact h
          | 16, h => exact h
          | 17, h => exact h
          | 18, h => exact h
          | 19, h => exact h
          | 20, h => exact h
          | 21, h => exact h
          | 22, h => exact h
          | 23, h => exact h
          | i + 24, _ => trivial
        case stepC =>
          intro i hi v w' hb hd
          match i, hi with
          | 0, _ =>
            refine wpOp_oneK rfl (fun KK hKK => ?_)
            have HKK := Lib.hid hKK
            clear hKK hd
            go_wp2
            exact HKK.out _ _ ⟨_, (by simp [upd]; done), Below.refl _ _, rfl⟩
          | 1, _ =>
            have h0 : v 0 = _ := hd 0 (List.elem_iff.1 (by kernel_rfl))
            refine wpOp_oneK rfl (fun KK hKK => ?_)
            have HKK := Lib.hid hKK
            clear hKK hd
            rw [h0]
            have q0 := cell_later hb (BX.out W1 (Below.refl _ _)).1
            have q1 := cell_later hb (BX.out W1 (Below.refl _ _)).2.1
            go_wp2
            exact HKK.out _ _ ⟨_, (by simp [upd, h0]; done), Below.refl _ _, rfl⟩
          | 2, _ =>
            have h1 : v 1 = _ := hd 1 (List.elem_iff.1 (by kernel_rfl))
            refine wpOp_oneK rfl (fun KK hKK => ?_)
            have HKK := Lib.hid hKK
            clear hKK hd
            rw [h1]
            go_wp2_with fail
            refine (alone_any _ _ _).mono ?_
            rintro e w'' ⟨g, rfl, ob, -, b⟩
            go_wp2
            exact HKK.out _ _ ⟨_, (by simp [upd, h1]; done), b, g, rfl, ob⟩
          | 3, _ =>
            obtain ⟨g2, h2, o2⟩ := hd 2 (List.elem_iff.1 (by kernel_rfl))
            refine wpOp_oneK rfl (fun KK hKK => ?_)
            have HKK := Lib.hid hKK
            clear hKK hd
            rw [h2]
            go_wp2_with fail
            refine (FS.out _ _ o2).mono ?_
            rintro e w'' ⟨rfl, b⟩
            go_wp2
            exact HKK.out _ _ ⟨_, (by simp [upd, h2]; done), b, rfl⟩
          | 4, _ =>
            have h3 : v 3 = _ := hd 3 (List.elem_iff.1 (by kernel_rfl))
            refine wpOp_oneK rfl (fun KK hKK => ?_)
            have HKK := Lib.hid hKK
            clear hKK hd
            rw [h3]
            go_wp2
            exact HKK.out _ _ ⟨_, (by simp [upd, h3]; done), Below.refl _ _, rfl⟩
          | 5, _ =>
            have h4 : v 4 = _ := hd 4 (List.elem_iff.1 (by kernel_rfl))
            refine wpOp_oneK rfl (fun KK hKK => ?_)
            have HKK := Lib.hid hKK
            clear hKK hd
            rw [h4]
            go_wp2
            exact HKK.out _ _ ⟨_, (by simp [upd, h4]; done), Below.refl _ _, rfl⟩
          | 6, _ =>
            have h5 : v 5 = _ := hd 5 (List.elem_iff.1 (by kernel_rfl))
            refine wpOp_oneK rfl (fun KK hKK => ?_)
            have HKK := Lib.hid hKK
            clear hKK hd
            rw [h5]
            go_wp2
            exact HKK.out _ _ ⟨_, (by simp [upd, h5]; done), Below.refl _ _, rfl⟩
          | 7, _ =>
            have h5 : v 5 = _ := hd 5 (List.elem_iff.1 (by kernel_rfl))
            have h6 : v 6 = _ := hd 6 (List.elem_iff.1 (by kernel_rfl))
            refine wpOp_oneK rfl (fun KK hKK => ?_)
            have HKK := Lib.hid hKK
            clear hKK hd
            rw [h5, h6]
            have q0 := cell_later hb (BX.out W1 (Below.refl _ _)).2.2
            go_wp2
            exact HKK.out _ _ ⟨_, (by simp [upd, h5, h6]; done), Below.refl _ _, rfl⟩
          | 8, _ =>
            have h5 : v 5 = _ := hd 5 (List.elem_iff.1 (by kernel_rfl))
            have h7 : v 7 = _ := hd 7 (List.elem_iff.1 (by kernel_rfl))
            refine wpOp_oneK rfl (fun KK hKK => ?_)
            have HKK := Lib.hid hKK
            clear hKK hd
            rw [h5, h7]
            go_wp2_with fail
            refine (FV.out _ hb).mono ?_
            rintro e w'' ⟨rfl, b⟩
            go_wp2
            exact HKK.out _ _ ⟨_, (by simp [upd, h5, h7]; done), b, rfl⟩
          | 9, _ =>
            have h5 : v 5 = _ := hd 5 (List.elem_iff.1 (by kernel_rfl))
            have h8 : v 8 = _ := hd 8 (List.elem_iff.1 (by kernel_rfl))
            refine wpOp_oneK rfl (fun KK hKK => ?_)
            have HKK := Lib.hid hKK
            clear hKK hd
            rw [h5, h8]
            go_wp2
            exact HKK.out _ _ ⟨_, (by simp [upd, h5, h8]; done), Below.refl _ _, rfl⟩
          | 10, _ =>
            have h5 : v 5 = _ := hd 5 (List.elem_iff.1 (by kernel_rfl))
            have h9 : v 9 = _ := hd 9 (List.elem_iff.1 (by kernel_rfl))
            refine wpOp_oneK rfl (fun KK hKK => ?_)
            have HKK := Lib.hid hKK
            clear hKK hd
            rw [h5, h9]
            go_wp2
            exact HKK.out _ _ ⟨_, (by simp [upd, h5, h9]; done), Below.refl _ _, rfl⟩
          | 11, _ =>
            have h10 : v 10 = _ := hd 10 (List.elem_iff.1 (by kernel_rfl))
            refine wpOp_oneK rfl (fun KK hKK => ?_)
            have HKK := Lib.hid hKK
            clear hKK hd
            rw [h10]
            go_wp2
            exact HKK.out _ _ ⟨_, (by simp [upd, h10]; done), Below.refl _ _, rfl⟩
          | 12, _ =>
            have h11 : v 11 = _ := hd 11 (List.elem_iff.1 (by kernel_rfl))
            refine wpOp_oneK rfl (fun KK hKK => ?_)
            have HKK := Lib.hid hKK
            clear hKK hd
            rw [h11]
            go_wp2
            exact HKK.out _ _ ⟨_, (by simp [upd, h11]; done), Below.refl _ _, rfl⟩
          | 13, _ =>
            have h11 : v 11 = _ := hd 11 (List.elem_iff.1 (by kernel_rfl))
            have h12 : v 12 = _ := hd 12 (List.elem_iff.1 (by kernel_rfl))
            refine wpOp_oneK rfl (fun KK hKK => ?_)
            have HKK := Lib.hid hKK
            clear hKK hd
            rw [h11, h12]
            go_wp2
            exact HKK.out _ _ ⟨_, (by simp [upd, h11, h12]; done), Below.refl _ _, rfl⟩
          | 14, _ =>
            have h11 : v 11 = _ := hd 11 (List.elem_iff.1 (by kernel_rfl))
            have h13 : v 13 = _ := hd 13 (List.elem_iff.1 (by kernel_rfl))
            refine wpOp_oneK rfl (fun KK hKK => ?_)
            have HKK := Lib.hid hKK
            clear hKK hd
            rw [h11, h13]
            go_wp2
            exact HKK.out _ _ ⟨_, (by simp [upd, h11, h13]; done), Below.refl _ _, rfl⟩
          | 15, _ =>
            have h14 : v 14 = _ := hd 14 (List.elem_iff.1 (by kernel_rfl))
            clear hd
            rw [h14]
            exact wpOp_skip rfl (by rfl) ⟨_, (by simp [upd, Act.put, h14]; done), Below.refl _ _, rfl⟩
          | 16, _ =>
            have h14 : v 14 = _ := hd 14 (List.elem_iff.1 (by kernel_rfl))
            clear hd
            rw [h14]
            exact wpOp_skip rfl (by rfl) ⟨_, (by simp [upd, Act.put, h14]; done), Below.refl _ _, rfl⟩
          | 17, _ =>
            have h14 : v 14 = _ := hd 14 (List.elem_iff.1 (by kernel_rfl))
            clear hd
            rw [h14]
            exact wpOp_skip rfl (by rfl) ⟨_, (by simp [upd, Act.put, h14]; done), Below.refl _ _, rfl⟩
          | 18, _ =>
            have h14 : v 14 = _ := hd 14 (List.elem_iff.1 (by kernel_rfl))
            clear hd
            rw [h14]
            exact wpOp_skip rfl (by rfl) ⟨_, (by simp [upd, Act.put, h14]; done), Below.refl _ _, rfl⟩
          | 19, _ =>
            have h14 : v 14 = _ := hd 14 (List.elem_iff.1 (by kernel_rfl))
            clear hd
            rw [h14]
            exact wpOp_skip rfl (by rfl) ⟨_, (by simp [upd, Act.put, h14]; done), Below.refl _ _, rfl⟩
          | 20, _ =>
            have h14 : v 14 = _ := hd 14 (List.elem_iff.1 (by kernel_rfl))
            clear hd
            rw [h14]
            exact wpOp_skip rfl (by rfl) ⟨_, (by simp [upd, Act.put, h14]; done), Below.refl _ _, rfl⟩
          | 21, _ =>
            have h14 : v 14 = _ := hd 14 (List.elem_iff.1 (by kernel_rfl))
            clear hd
            rw [h14]
            exact wpOp_skip rfl (by rfl) ⟨_, (by simp [upd, Act.put, h14]; done), Below.refl _ _, rfl⟩
          | 22, _ =>
            have h14 : v 14 = _ := hd 14 (List.elem_iff.1 (by kernel_rfl))
            clear hd
            rw [h14]
            exact wpOp_skip rfl (by rfl) ⟨_, (by simp [upd, Act.put, h14]; done), Below.refl _ _, rfl⟩
          | 23, _ =>
            have h11 : v 11 = _ := hd 11 (List.elem_iff.1 (by kernel_rfl))
            have h14 : v 14 = _ := hd 14 (List.elem_iff.1 (by kernel_rfl))
            have h22 : v 22 = _ := hd 22 (List.elem_iff.1 (by kernel_rfl))
            refine wpOp_oneK rfl (fun KK hKK => ?_)
            have HKK := Lib.hid hKK
            clear hKK hd
            rw [h11, h14, h22]
            go_wp2
            exact HKK.out _ _ ⟨_, (by simp [upd, h11, h14, h22]; done), Below.refl _ _, rfl⟩
          | k + 24, hk => exact absurd hk (by omega)
        case doneC =>
          intro v w5 hb hf
          have h11 : v 11 = _ := hf 11 (by decide)
          have h23 : v 23 = _ := hf 23 (by decide)
          clear hf
          rw [h11, h23]
          have HBB := Lib.hid hb
          clear hb
          go_wp2_with fail
          go_roundw
          case rel => exact ⟨_, by omega, by first | rfl | go_num, HT.out, below_on BN.out HBB.out⟩
          case measure => simp [intOf]; omega
      | succ m =>
        obtain ⟨y, hy⟩ : ∃ y, L[m]? = some y := ⟨L[m], List.getElem?_eq_getElem (by omega)⟩
        have hgy : (L.map Zc.zn).getD (m + 1 - 1) (0, 0, []) = y.zn := zn_getD hy
        have hyo := (HO.out.one hy).later HB1.out
        obtain ⟨f0, f1, f2⟩ := HC.out m y hy
        have hyk := HALL.out m (by omega)
        unfold Tr.okAt at hyk
        rw [Nat.add_sub_cancel] at hgy
        rw [hgy] at hyk
        obtain ⟨ylo, yhi, Y, cy, yl⟩ := y
        dsimp only at f0 f1 f2 hyo
        obtain ⟨⟨y1, y2, y3⟩, -, -⟩ := hyk
        have y1 : 0 ≤ ylo := y1
        have y2 : ylo ≤ yhi := y2
        have y3 : yhi ≤ 255 := y3
        have hg2 : ((L.map Zc.zn).getD (m + 1 - 1) (0, 0, [])).2.1 = yhi := by rw [Nat.add_sub_cancel, hgy]; rfl
        have hg3 : ((L.map Zc.zn).getD (m + 1 - 1) (0, 0, [])).2.2 = yl := by rw [Nat.add_sub_cancel, hgy]; rfl
        rw [hg2, hg3] at NO NX
        have hm1 : ((m + 1 : Nat) : Int) - 1 = (m : Int) := by omega
        have hj0 : (0 : Int) ≤ (m : Int) := by omega
        have hj1 : (m : Int) < (L.length : Int) := by omega
        have hgt : decide ((0 : Int) < ((m + 1 : Nat) : Int)) = true := decide_eq_true (by omega)
        obtain ⟨mf, hmf⟩ : ∃ mf, decide (yhi < lo ∧ ¬ (yhi + 1 = lo ∧ yl = l)) = mf := ⟨_, rfl⟩
        have CS := Lib.hid (fun (w' : World) (b : Below W1.heap.size W1 w') => (show Calls Try.prog 37 #[.agg #[.int .i64 ylo, .int .i64 yhi, .slice Y yl.length cy], .agg #[.int .i64 lo, .int .i64 hi, .slice X l.length cx]] w' (Says (.bool mf) w') from by
          rw [← hmf]
          exact mayFollow_any ⟨ylo, yhi, Y, cy, yl⟩ ⟨lo, hi, X, cx, l⟩ w' (hyo.later b) (HX1.out.later b) (by dsimp only; omega) y3))
        have BY := Lib.hid (fun (w' : World) (bb : Below W1.heap.size W1 w') => (show w'.cell? ⟨b, off + m * 3, none⟩ = some (.int .i64 ylo) ∧ w'.cell? ⟨b, off + m * 3 + 1, none⟩ = some (.int .i64 yhi) ∧ w'.cell? ⟨b, off + m * 3 + 2, none⟩ = some (.slice Y yl.length cy) from
          ⟨cell_later (below_on HB1.out bb) f0, cell_later (below_on HB1.out bb) f1, cell_later (below_on HB1.out bb) f2⟩))
        have HMF := Lib.hid hmf
        clear hy hgy hg2 hg3 f0 f1 f2 hyo hmf y1 y2 y3
        cases mf with
        | false =>
          have hqf := NO.out (fun h => by
            have h1 := h.2.2 (by omega)
            exact (of_decide_eq_false HMF.out) ⟨h1.1, fun h2 => h1.2 (by omega) h2.2⟩)
          subst hqf
          refine wp_region_facts 24 (by kernel_rfl) (by kernel_rfl)
            (fun v => { tmps := #[.slice (some ⟨b, off, none⟩) L.length c, undef, u2, .int .i64 ↑(m + 1), .pointer (some ⟨wr.heap.size, 0, none⟩), .slice (some ⟨b, off, none⟩) L.length c, .int .i64 (L.length : Int), .int .i64 ↑(m + 1), .bool true, .int .i64 ↑(m + 1), .pointer (some ⟨b, off + (m + 1) * 3, none⟩), .agg #[.int .i64 lo, .int .i64 hi, .slice X l.length cx], v 0, v 1, v 2, v 3, v 4, v 5, v 6, v 7, v 8, v 9, v 10, v 11, v 12, v 13, v 14, v 15, v 16, v 17, v 18, v 19, v 20, v 21, v 22, v 23, u36, u37], defers := [] }) (fun i => match i with | 0 => u12 | 1 => u13 | 2 => u14 | 3 => u15 | 4 => u16 | 5 => u17 | 6 => u18 | 7 => u19 | 8 => u20 | 9 => u21 | 10 => u22 | 11 => u23 | 12 => u24 | 13 => u25 | 14 => u26 | 15 => u27 | 16 => u28 | 17 => u29 | 18 => u30 | 19 => u31 | 20 => u32 | 21 => u33 | 22 => u34 | 23 => u35 | _ => undef)
            (fun i x wx => match i with
              | 0 => x = .pointer (some ⟨wr.heap.size, 0, none⟩)
              | 1 => x = .agg #[.int .i64 lo, .int .i64 hi]
              | 2 => ∃ g, x = .slice (some ⟨g, 0, none⟩) 1 1 ∧ Blk wx g 55 #[.int .i64 lo, .int .i64 hi]
              | 3 => x = .bool true
              | 4 => x = .bool false
              | 5 => x = .bool false
              | 6 => x = .pointer (some ⟨wr.heap.size, 2, none⟩)
              | 7 => x = .slice X l.length cx
              | 8 => x = .bool true
              | 9 => x = .bool false
              | 10 => x = .bool false
              | 11 => x = .bool false
              | 12 => x = .int .i64 ((m + 1 : Nat) : Int)
              | 13 => x = .bool true
              | 14 => x = .bool true
              | 15 => x = .slice (some ⟨b, off, none⟩) L.length c
              | 16 => x = .int .i64 ((m + 1 : Nat) : Int)
              | 17 => x = .int .i64 (m : Int)
              | 18 => x = .pointer (some ⟨b, off + m * 3, none⟩)
              | 19 => x = .agg #[.int .i64 ylo, .int .i64 yhi, .slice Y yl.length cy]
              | 20 => x = .agg #[.int .i64 lo, .int .i64 hi, .slice X l.length cx]
              | 21 => x = .bool false
              | 22 => x = .bool true
              | 23 => x = .bool true
              | _ => True)
            (fun w1 w2 => Below w1.heap.size w1 w2) (fun h1 h2 => below_on h1 h2) (fun _ => Below.refl _ _) (Below.drew (Below.refl _ _)) ?stabD ?stepD ?doneD
          case stabD =>
            rintro i x w1 w2 h hb
            match i, h with
            | 0, h => exact h
            | 1, h => exact h
            | 2, h => obtain ⟨g, h1, h2⟩ := h; exact ⟨g, h1, h2.later hb⟩
            | 3, h => exact h
            | 4, h => exact h
            | 5, h => exact h
            | 6, h => exact h
            | 7, h => exact h
            | 8, h => exact h
            | 9, h => exact h
            | 10, h => exact h
            | 11, h => exact h
            | 12, h => exact h
            | 13, h => exact h
            | 14, h => exact h
            | 15, h => exact h
            | 16, h => exact h
            | 17, h => exact h
            | 18, h => exact h
            | 19, h => exact h
            | 20, h => exact h
            | 21, h => exact h
            | 22, h => exact h
            | 23, h => exact h
            | i + 24, _ => trivial
          case stepD =>
            intro i hi v w' hb hd
            match i, hi with
            | 0, _ =>
              refine wpOp_oneK rfl (fun KK hKK => ?_)
              have HKK := Lib.hid hKK
              clear hKK hd
              go_wp2
              exact HKK.out _ _ ⟨_, (by simp [upd]; done), Below.refl _ _, rfl⟩
            | 1, _ =>
              have h0 : v 0 = _ := hd 0 (List.elem_iff.1 (by kernel_rfl))
              refine wpOp_oneK rfl (fun KK hKK => ?_)
              have HKK := Lib.hid hKK
              clear hKK hd
              rw [h0]
              have q0 := cell_later hb (BX.out W1 (Below.refl _ _)).1
              have q1 := cell_later hb (BX.out W1 (Below.refl _ _)).2.1
              go_wp2
              exact HKK.out _ _ ⟨_, (by simp [upd, h0]; done), Below.refl _ _, rfl⟩
            | 2, _ =>
              have h1 : v 1 = _ := hd 1 (List.elem_iff.1 (by kernel_rfl))
              refine wpOp_oneK rfl (fun KK hKK => ?_)
              have HKK := Lib.hid hKK
              clear hKK hd
              rw [h1]
              go_wp2_with fail
              refine (alone_any _ _ _).mono ?_
              rintro e w'' ⟨g, rfl, ob, -, b⟩
              go_wp2
              exact HKK.out _ _ ⟨_, (by simp [upd, h1]; done), b, g, rfl, ob⟩
            | 3, _ =>
              obtain ⟨g2, h2, o2⟩ := hd 2 (List.elem_iff.1 (by kernel_rfl))
              refine wpOp_oneK rfl (fun KK hKK => ?_)
              have HKK := Lib.hid hKK
              clear hKK hd
              rw [h2]
              go_wp2_with fail
              refine (FS.out _ _ o2).mono ?_
              rintro e w'' ⟨rfl, b⟩
              go_wp2
              exact HKK.out _ _ ⟨_, (by simp [upd, h2]; done), b, rfl⟩
            | 4, _ =>
              have h3 : v 3 = _ := hd 3 (List.elem_iff.1 (by kernel_rfl))
              refine wpOp_oneK rfl (fun KK hKK => ?_)
              have HKK := Lib.hid hKK
              clear hKK hd
              rw [h3]
              go_wp2
              exact HKK.out _ _ ⟨_, (by simp [upd, h3]; done), Below.refl _ _, rfl⟩
            | 5, _ =>
              have h4 : v 4 = _ := hd 4 (List.elem_iff.1 (by kernel_rfl))
              refine wpOp_oneK rfl (fun KK hKK => ?_)
              have HKK := Lib.hid hKK
              clear hKK hd
              rw [h4]
              go_wp2
              exact HKK.out _ _ ⟨_, (by simp [upd, h4]; done), Below.refl _ _, rfl⟩
            | 6, _ =>
              have h5 : v 5 = _ := hd 5 (List.elem_iff.1 (by kernel_rfl))
              refine wpOp_oneK rfl (fun KK hKK => ?_)
              have HKK := Lib.hid hKK
              clear hKK hd
              rw [h5]
              go_wp2
              exact HKK.out _ _ ⟨_, (by simp [upd, h5]; done), Below.refl _ _, rfl⟩
            | 7, _ =>
              have h5 : v 5 = _ := hd 5 (List.elem_iff.1 (by kernel_rfl))
              have h6 : v 6 = _ := hd 6 (List.elem_iff.1 (by kernel_rfl))
              refine wpOp_oneK rfl (fun KK hKK => ?_)
              have HKK := Lib.hid hKK
              clear hKK hd
              rw [h5, h6]
              have q0 := cell_later hb (BX.out W1 (Below.refl _ _)).2.2
              go_wp2
              exact HKK.out _ _ ⟨_, (by simp [upd, h5, h6]; done), Below.refl _ _, rfl⟩
            | 8, _ =>
              have h5 : v 5 = _ := hd 5 (List.elem_iff.1 (by kernel_rfl))
              have h7 : v 7 = _ := hd 7 (List.elem_iff.1 (by kernel_rfl))
              refine wpOp_oneK rfl (fun KK hKK => ?_)
              have HKK := Lib.hid hKK
              clear hKK hd
              rw [h5, h7]
              go_wp2_with fail
              refine (FV.out _ hb).mono ?_
              rintro e w'' ⟨rfl, b⟩
              go_wp2
              exact HKK.out _ _ ⟨_, (by simp [upd, h5, h7]; done), b, rfl⟩
            | 9, _ =>
              have h5 : v 5 = _ := hd 5 (List.elem_iff.1 (by kernel_rfl))
              have h8 : v 8 = _ := hd 8 (List.elem_iff.1 (by kernel_rfl))
              refine wpOp_oneK rfl (fun KK hKK => ?_)
              have HKK := Lib.hid hKK
              clear hKK hd
              rw [h5, h8]
              go_wp2
              exact HKK.out _ _ ⟨_, (by simp [upd, h5, h8]; done), Below.refl _ _, rfl⟩
            | 10, _ =>
              have h5 : v 5 = _ := hd 5 (List.elem_iff.1 (by kernel_rfl))
              have h9 : v 9 = _ := hd 9 (List.elem_iff.1 (by kernel_rfl))
              refine wpOp_oneK rfl (fun KK hKK => ?_)
              have HKK := Lib.hid hKK
              clear hKK hd
              rw [h5, h9]
              go_wp2
              exact HKK.out _ _ ⟨_, (by simp [upd, h5, h9]; done), Below.refl _ _, rfl⟩
            | 11, _ =>
              have h10 : v 10 = _ := hd 10 (List.elem_iff.1 (by kernel_rfl))
              refine wpOp_oneK rfl (fun KK hKK => ?_)
              have HKK := Lib.hid hKK
              clear hKK hd
              rw [h10]
              go_wp2
              exact HKK.out _ _ ⟨_, (by simp [upd, h10]; done), Below.refl _ _, rfl⟩
            | 12, _ =>
              have h11 : v 11 = _ := hd 11 (List.elem_iff.1 (by kernel_rfl))
              refine wpOp_oneK rfl (fun KK hKK => ?_)
              have HKK := Lib.hid hKK
              clear hKK hd
              rw [h11]
              go_wp2
              exact HKK.out _ _ ⟨_, (by simp [upd, h11]; done), Below.refl _ _, rfl⟩
            | 13, _ =>
              have h11 : v 11 = _ := hd 11 (List.elem_iff.1 (by kernel_rfl))
              have h12 : v 12 = _ := hd 12 (List.elem_iff.1 (by kernel_rfl))
              refine wpOp_oneK rfl (fun KK hKK => ?_)
              have HKK := Lib.hid hKK
              clear hKK hd
              rw [h11, h12]
              go_wp2
              exact HKK.out _ _ ⟨_, (by simp [upd, h11, h12]; done), Below.refl _ _, rfl⟩
            | 14, _ =>
              have h11 : v 11 = _ := hd 11 (List.elem_iff.1 (by kernel_rfl))
              have h13 : v 13 = _ := hd 13 (List.elem_iff.1 (by kernel_rfl))
              refine wpOp_oneK rfl (fun KK hKK => ?_)
              have HKK := Lib.hid hKK
              clear hKK hd
              rw [h11, h13]
              go_wp2
              exact HKK.out _ _ ⟨_, (by simp [upd, h11, h13]; done), Below.refl _ _, rfl⟩
            | 15, _ =>
              have h14 : v 14 = _ := hd 14 (List.elem_iff.1 (by kernel_rfl))
              refine wpOp_oneK rfl (fun KK hKK => ?_)
              have HKK := Lib.hid hKK
              clear hKK hd
              rw [h14]
              go_wp2
              exact HKK.out _ _ ⟨_, (by simp [upd, h14]; done), Below.refl _ _, rfl⟩
            | 16, _ =>
              have h14 : v 14 = _ := hd 14 (List.elem_iff.1 (by kernel_rfl))
              refine wpOp_oneK rfl (fun KK hKK => ?_)
              have HKK := Lib.hid hKK
              clear hKK hd
              rw [h14]
              go_wp2
              exact HKK.out _ _ ⟨_, (by simp [upd, h14]; done), Below.refl _ _, rfl⟩
            | 17, _ =>
              have h14 : v 14 = _ := hd 14 (List.elem_iff.1 (by kernel_rfl))
              have h16 : v 16 = _ := hd 16 (List.elem_iff.1 (by kernel_rfl))
              refine wpOp_oneK rfl (fun KK hKK => ?_)
              have HKK := Lib.hid hKK
              clear hKK hd
              rw [h14, h16]
              go_wp2
              exact HKK.out _ _ ⟨_, (by simp [upd, h14, h16]; done), Below.refl _ _, rfl⟩
            | 18, _ =>
              have h14 : v 14 = _ := hd 14 (List.elem_iff.1 (by kernel_rfl))
              have h15 : v 15 = _ := hd 15 (List.elem_iff.1 (by kernel_rfl))
              have h17 : v 17 = _ := hd 17 (List.elem_iff.1 (by kernel_rfl))
              refine wpOp_oneK rfl (fun KK hKK => ?_)
              have HKK := Lib.hid hKK
              clear hKK hd
              rw [h14, h15, h17]
              go_wp2
              exact HKK.out _ _ ⟨_, (by simp [upd, h14, h15, h17]; done), Below.refl _ _, rfl⟩
            | 19, _ =>
              have h14 : v 14 = _ := hd 14 (List.elem_iff.1 (by kernel_rfl))
              have h18 : v 18 = _ := hd 18 (List.elem_iff.1 (by kernel_rfl))
              refine wpOp_oneK rfl (fun KK hKK => ?_)
              have HKK := Lib.hid hKK
              clear hKK hd
              rw [h14, h18]
              have q0 := cell_later hb (BY.out W1 (Below.refl _ _)).1
              have q1 := cell_later hb (BY.out W1 (Below.refl _ _)).2.1
              have q2 := cell_later hb (BY.out W1 (Below.refl _ _)).2.2
              go_wp2
              exact HKK.out _ _ ⟨_, (by simp [upd, h14, h18]; done), Below.refl _ _, rfl⟩
            | 20, _ =>
              have h14 : v 14 = _ := hd 14 (List.elem_iff.1 (by kernel_rfl))
              refine wpOp_oneK rfl (fun KK hKK => ?_)
              have HKK := Lib.hid hKK
              clear hKK hd
              rw [h14]
              have q0 := cell_later hb (BX.out W1 (Below.refl _ _)).1
              have q1 := cell_later hb (BX.out W1 (Below.refl _ _)).2.1
              have q2 := cell_later hb (BX.out W1 (Below.refl _ _)).2.2
              go_wp2
              exact HKK.out _ _ ⟨_, (by simp [upd, h14]; done), Below.refl _ _, rfl⟩
            | 21, _ =>
              have h14 : v 14 = _ := hd 14 (List.elem_iff.1 (by kernel_rfl))
              have h19 : v 19 = _ := hd 19 (List.elem_iff.1 (by kernel_rfl))
              have h20 : v 20 = _ := hd 20 (List.elem_iff.1 (by kernel_rfl))
              refine wpOp_oneK rfl (fun KK hKK => ?_)
              have HKK := Lib.hid hKK
              clear hKK hd
              rw [h14, h19, h20]
              go_wp2_with fail
              refine (CS.out _ hb).mono ?_
              rintro e w'' ⟨rfl, b⟩
              go_wp2
              exact HKK.out _ _ ⟨_, (by simp [upd, h14, h19, h20]; done), b, rfl⟩
            | 22, _ =>
              have h14 : v 14 = _ := hd 14 (List.elem_iff.1 (by kernel_rfl))
              have h21 : v 21 = _ := hd 21 (List.elem_iff.1 (by kernel_rfl))
              refine wpOp_oneK rfl (fun KK hKK => ?_)
              have HKK := Lib.hid hKK
              clear hKK hd
              rw [h14, h21]
              go_wp2
              exact HKK.out _ _ ⟨_, (by simp [upd, h14, h21]; done), Below.refl _ _, rfl⟩
            | 23, _ =>
              have h11 : v 11 = _ := hd 11 (List.elem_iff.1 (by kernel_rfl))
              have h14 : v 14 = _ := hd 14 (List.elem_iff.1 (by kernel_rfl))
              have h22 : v 22 = _ := hd 22 (List.elem_iff.1 (by kernel_rfl))
              refine wpOp_oneK rfl (fun KK hKK => ?_)
              have HKK := Lib.hid hKK
              clear hKK hd
              rw [h11, h14, h22]
              go_wp2
              exact HKK.out _ _ ⟨_, (by simp [upd, h11, h14, h22]; done), Below.refl _ _, rfl⟩
            | k + 24, hk => exact absurd hk (by omega)
          case doneD =>
            intro v w5 hb hf
            have h11 : v 11 = _ := hf 11 (by decide)
            have h23 : v 23 = _ := hf 23 (by decide)
            clear hf
            rw [h11, h23]
            have HBB := Lib.hid hb
            clear hb
            go_wp2
            go_ret
            exact ⟨rfl, below_on BN.out HBB.out⟩
        | true =>
          have HT := Lib.hid (NX.out ⟨T.out, HVF.out, fun _ => by
            have h1 := of_decide_eq_true HMF.out
            exact ⟨h1.1, fun h2 h3 => h1.2 ⟨by omega, h3⟩⟩⟩)
          refine wp_region_facts 24 (by kernel_rfl) (by kernel_rfl)
            (fun v => { tmps := #[.slice (some ⟨b, off, none⟩) L.length c, undef, u2, .int .i64 ↑(m + 1), .pointer (some ⟨wr.heap.size, 0, none⟩), .slice (some ⟨b, off, none⟩) L.length c, .int .i64 (L.length : Int), .int .i64 ↑(m + 1), .bool true, .int .i64 ↑(m + 1), .pointer (some ⟨b, off + (m + 1) * 3, none⟩), .agg #[.int .i64 lo, .int .i64 hi, .slice X l.length cx], v 0, v 1, v 2, v 3, v 4, v 5, v 6, v 7, v 8, v 9, v 10, v 11, v 12, v 13, v 14, v 15, v 16, v 17, v 18, v 19, v 20, v 21, v 22, v 23, u36, u37], defers := [] }) (fun i => match i with | 0 => u12 | 1 => u13 | 2 => u14 | 3 => u15 | 4 => u16 | 5 => u17 | 6 => u18 | 7 => u19 | 8 => u20 | 9 => u21 | 10 => u22 | 11 => u23 | 12 => u24 | 13 => u25 | 14 => u26 | 15 => u27 | 16 => u28 | 17 => u29 | 18 => u30 | 19 => u31 | 20 => u32 | 21 => u33 | 22 => u34 | 23 => u35 | _ => undef)
            (fun i x wx => match i with
              | 0 => x = .pointer (some ⟨wr.heap.size, 0, none⟩)
              | 1 => x = .agg #[.int .i64 lo, .int .i64 hi]
              | 2 => ∃ g, x = .slice (some ⟨g, 0, none⟩) 1 1 ∧ Blk wx g 55 #[.int .i64 lo, .int .i64 hi]
              | 3 => x = .bool true
              | 4 => x = .bool false
              | 5 => x = .bool false
              | 6 => x = .pointer (some ⟨wr.heap.size, 2, none⟩)
              | 7 => x = .slice X l.length cx
              | 8 => x = .bool true
              | 9 => x = .bool false
              | 10 => x = .bool false
              | 11 => x = .bool false
              | 12 => x = .int .i64 ((m + 1 : Nat) : Int)
              | 13 => x = .bool true
              | 14 => x = .bool true
              | 15 => x = .slice (some ⟨b, off, none⟩) L.length c
              | 16 => x = .int .i64 ((m + 1 : Nat) : Int)
              | 17 => x = .int .i64 (m : Int)
              | 18 => x = .pointer (some ⟨b, off + m * 3, none⟩)
              | 19 => x = .agg #[.int .i64 ylo, .int .i64 yhi, .slice Y yl.length cy]
              | 20 => x = .agg #[.int .i64 lo, .int .i64 hi, .slice X l.length cx]
              | 21 => x = .bool true
              | 22 => x = .bool false
              | 23 => x = .bool false
              | _ => True)
            (fun w1 w2 => Below w1.heap.size w1 w2) (fun h1 h2 => below_on h1 h2) (fun _ => Below.refl _ _) (Below.drew (Below.refl _ _)) ?stabE ?stepE ?doneE
          case stabE =>
            rintro i x w1 w2 h hb
            match i, h with
            | 0, h => exact h
            | 1, h => exact h
            | 2, h => obtain ⟨g, h1, h2⟩ := h; exact ⟨g, h1, h2.later hb⟩
            | 3, h => exact h
            | 4, h => exact h
            | 5, h => exact h
            | 6, h => exact h
            | 7, h => exact h
            | 8, h => exact h
            | 9, h => exact h
            | 10, h => exact h
            | 11, h => exact h
            | 12, h => exact h
            | 13, h => exact h
            | 14, h => exact h
            | 15, h => exact h
            | 16, h => exact h
            | 17, h => exact h
            | 18, h => exact h
            | 19, h => exact h
            | 20, h => exact h
            | 21, h => exact h
            | 22, h => exact h
            | 23, h => exact h
            | i + 24, _ => trivial
          case stepE =>
            intro i hi v w' hb hd
            match i, hi with
            | 0, _ =>
              refine wpOp_oneK rfl (fun KK hKK => ?_)
              have HKK := Lib.hid hKK
              clear hKK hd
              go_wp2
              exact HKK.out _ _ ⟨_, (by simp [upd]; done), Below.refl _ _, rfl⟩
            | 1, _ =>
              have h0 : v 0 = _ := hd 0 (List.elem_iff.1 (by kernel_rfl))
              refine wpOp_oneK rfl (fun KK hKK => ?_)
              have HKK := Lib.hid hKK
              clear hKK hd
              rw [h0]
              have q0 := cell_later hb (BX.out W1 (Below.refl _ _)).1
              have q1 := cell_later hb (BX.out W1 (Below.refl _ _)).2.1
              go_wp2
              exact HKK.out _ _ ⟨_, (by simp [upd, h0]; done), Below.refl _ _, rfl⟩
            | 2, _ =>
              have h1 : v 1 = _ := hd 1 (List.elem_iff.1 (by kernel_rfl))
              refine wpOp_oneK rfl (fun KK hKK => ?_)
              have HKK := Lib.hid hKK
              clear hKK hd
              rw [h1]
              go_wp2_with fail
              refine (alone_any _ _ _).mono ?_
              rintro e w'' ⟨g, rfl, ob, -, b⟩
              go_wp2
              exact HKK.out _ _ ⟨_, (by simp [upd, h1]; done), b, g, rfl, ob⟩
            | 3, _ =>
              obtain ⟨g2, h2, o2⟩ := hd 2 (List.elem_iff.1 (by kernel_rfl))
              refine wpOp_oneK rfl (fun KK hKK => ?_)
              have HKK := Lib.hid hKK
              clear hKK hd
              rw [h2]
              go_wp2_with fail
              refine (FS.out _ _ o2).mono ?_
              rintro e w'' ⟨rfl, b⟩
              go_wp2
              exact HKK.out _ _ ⟨_, (by simp [upd, h2]; done), b, rfl⟩
            | 4, _ =>
              have h3 : v 3 = _ := hd 3 (List.elem_iff.1 (by kernel_rfl))
              refine wpOp_oneK rfl (fun KK hKK => ?_)
              have HKK := Lib.hid hKK
              clear hKK hd
              rw [h3]
              go_wp2
              exact HKK.out _ _ ⟨_, (by simp [upd, h3]; done), Below.refl _ _, rfl⟩
            | 5, _ =>
              have h4 : v 4 = _ := hd 4 (List.elem_iff.1 (by kernel_rfl))
              refine wpOp_oneK rfl (fun KK hKK => ?_)
              have HKK := Lib.hid hKK
              clear hKK hd
              rw [h4]
              go_wp2
              exact HKK.out _ _ ⟨_, (by simp [upd, h4]; done), Below.refl _ _, rfl⟩
            | 6, _ =>
              have h5 : v 5 = _ := hd 5 (List.elem_iff.1 (by kernel_rfl))
              refine wpOp_oneK rfl (fun KK hKK => ?_)
              have HKK := Lib.hid hKK
              clear hKK hd
              rw [h5]
              go_wp2
              exact HKK.out _ _ ⟨_, (by simp [upd, h5]; done), Below.refl _ _, rfl⟩
            | 7, _ =>
              have h5 : v 5 = _ := hd 5 (List.elem_iff.1 (by kernel_rfl))
              have h6 : v 6 = _ := hd 6 (List.elem_iff.1 (by kernel_rfl))
              refine wpOp_oneK rfl (fun KK hKK => ?_)
              have HKK := Lib.hid hKK
              clear hKK hd
              rw [h5, h6]
              have q0 := cell_later hb (BX.out W1 (Below.refl _ _)).2.2
              go_wp2
              exact HKK.out _ _ ⟨_, (by simp [upd, h5, h6]; done), Below.refl _ _, rfl⟩
            | 8, _ =>
              have h5 : v 5 = _ := hd 5 (List.elem_iff.1 (by kernel_rfl))
              have h7 : v 7 = _ := hd 7 (List.elem_iff.1 (by kernel_rfl))
              refine wpOp_oneK rfl (fun KK hKK => ?_)
              have HKK := Lib.hid hKK
              clear hKK hd
              rw [h5, h7]
              go_wp2_with fail
              refine (FV.out _ hb).mono ?_
              rintro e w'' ⟨rfl, b⟩
              go_wp2
              exact HKK.out _ _ ⟨_, (by simp [upd, h5, h7]; done), b, rfl⟩
            | 9, _ =>
              have h5 : v 5 = _ := hd 5 (List.elem_iff.1 (by kernel_rfl))
              have h8 : v 8 = _ := hd 8 (List.elem_iff.1 (by kernel_rfl))
              refine wpOp_oneK rfl (fun KK hKK => ?_)
              have HKK := Lib.hid hKK
              clear hKK hd
              rw [h5, h8]
              go_wp2
              exact HKK.out _ _ ⟨_, (by simp [upd, h5, h8]; done), Below.refl _ _, rfl⟩
            | 10, _ =>
              have h5 : v 5 = _ := hd 5 (List.elem_iff.1 (by kernel_rfl))
              have h9 : v 9 = _ := hd 9 (List.elem_iff.1 (by kernel_rfl))
              refine wpOp_oneK rfl (fun KK hKK => ?_)
              have HKK := Lib.hid hKK
              clear hKK hd
              rw [h5, h9]
              go_wp2
              exact HKK.out _ _ ⟨_, (by simp [upd, h5, h9]; done), Below.refl _ _, rfl⟩
            | 11, _ =>
              have h10 : v 10 = _ := hd 10 (List.elem_iff.1 (by kernel_rfl))
              refine wpOp_oneK rfl (fun KK hKK => ?_)
              have HKK := Lib.hid hKK
              clear hKK hd
              rw [h10]
              go_wp2
              exact HKK.out _ _ ⟨_, (by simp [upd, h10]; done), Below.refl _ _, rfl⟩
            | 12, _ =>
              have h11 : v 11 = _ := hd 11 (List.elem_iff.1 (by kernel_rfl))
              refine wpOp_oneK rfl (fun KK hKK => ?_)
              have HKK := Lib.hid hKK
              clear hKK hd
              rw [h11]
              go_wp2
              exact HKK.out _ _ ⟨_, (by simp [upd, h11]; done), Below.refl _ _, rfl⟩
            | 13, _ =>
              have h11 : v 11 = _ := hd 11 (List.elem_iff.1 (by kernel_rfl))
              have h12 : v 12 = _ := hd 12 (List.elem_iff.1 (by kernel_rfl))
              refine wpOp_oneK rfl (fun KK hKK => ?_)
              have HKK := Lib.hid hKK
              clear hKK hd
              rw [h11, h12]
              go_wp2
              exact HKK.out _ _ ⟨_, (by simp [upd, h11, h12]; done), Below.refl _ _, rfl⟩
            | 14, _ =>
              have h11 : v 11 = _ := hd 11 (List.elem_iff.1 (by kernel_rfl))
              have h13 : v 13 = _ := hd 13 (List.elem_iff.1 (by kernel_rfl))
              refine wpOp_oneK rfl (fun KK hKK => ?_)
              have HKK := Lib.hid hKK
              clear hKK hd
              rw [h11, h13]
              go_wp2
              exact HKK.out _ _ ⟨_, (by simp [upd, h11, h13]; done), Below.refl _ _, rfl⟩
            | 15, _ =>
              have h14 : v 14 = _ := hd 14 (List.elem_iff.1 (by kernel_rfl))
              refine wpOp_oneK rfl (fun KK hKK => ?_)
              have HKK := Lib.hid hKK
              clear hKK hd
              rw [h14]
              go_wp2
              exact HKK.out _ _ ⟨_, (by simp [upd, h14]; done), Below.refl _ _, rfl⟩
            | 16, _ =>
              have h14 : v 14 = _ := hd 14 (List.elem_iff.1 (by kernel_rfl))
              refine wpOp_oneK rfl (fun KK hKK => ?_)
              have HKK := Lib.hid hKK
              clear hKK hd
              rw [h14]
              go_wp2
              exact HKK.out _ _ ⟨_, (by simp [upd, h14]; done), Below.refl _ _, rfl⟩
            | 17, _ =>
              have h14 : v 14 = _ := hd 14 (List.elem_iff.1 (by kernel_rfl))
              have h16 : v 16 = _ := hd 16 (List.elem_iff.1 (by kernel_rfl))
              refine wpOp_oneK rfl (fun KK hKK => ?_)
              have HKK := Lib.hid hKK
              clear hKK hd
              rw [h14, h16]
              go_wp2
              exact HKK.out _ _ ⟨_, (by simp [upd, h14, h16]; done), Below.refl _ _, rfl⟩
            | 18, _ =>
              have h14 : v 14 = _ := hd 14 (List.elem_iff.1 (by kernel_rfl))
              have h15 : v 15 = _ := hd 15 (List.elem_iff.1 (by kernel_rfl))
              have h17 : v 17 = _ := hd 17 (List.elem_iff.1 (by kernel_rfl))
              refine wpOp_oneK rfl (fun KK hKK => ?_)
              have HKK := Lib.hid hKK
              clear hKK hd
              rw [h14, h15, h17]
              go_wp2
              exact HKK.out _ _ ⟨_, (by simp [upd, h14, h15, h17]; done), Below.refl _ _, rfl⟩
            | 19, _ =>
              have h14 : v 14 = _ := hd 14 (List.elem_iff.1 (by kernel_rfl))
              have h18 : v 18 = _ := hd 18 (List.elem_iff.1 (by kernel_rfl))
              refine wpOp_oneK rfl (fun KK hKK => ?_)
              have HKK := Lib.hid hKK
              clear hKK hd
              rw [h14, h18]
              have q0 := cell_later hb (BY.out W1 (Below.refl _ _)).1
              have q1 := cell_later hb (BY.out W1 (Below.refl _ _)).2.1
              have q2 := cell_later hb (BY.out W1 (Below.refl _ _)).2.2
              go_wp2
              exact HKK.out _ _ ⟨_, (by simp [upd, h14, h18]; done), Below.refl _ _, rfl⟩
            | 20, _ =>
              have h14 : v 14 = _ := hd 14 (List.elem_iff.1 (by kernel_rfl))
              refine wpOp_oneK rfl (fun KK hKK => ?_)
              have HKK := Lib.hid hKK
              clear hKK hd
              rw [h14]
              have q0 := cell_later hb (BX.out W1 (Below.refl _ _)).1
              have q1 := cell_later hb (BX.out W1 (Below.refl _ _)).2.1
              have q2 := cell_later hb (BX.out W1 (Below.refl _ _)).2.2
              go_wp2
              exact HKK.out _ _ ⟨_, (by simp [upd, h14]; done), Below.refl _ _, rfl⟩
            | 21, _ =>
              have h14 : v 14 = _ := hd 14 (List.elem_iff.1 (by kernel_rfl))
              have h19 : v 19 = _ := hd 19 (List.elem_iff.1 (by kernel_rfl))
              have h20 : v 20 = _ := hd 20 (List.elem_iff.1 (by kernel_rfl))
              refine wpOp_oneK rfl (fun KK hKK => ?_)
              have HKK := Lib.hid hKK
              clear hKK hd
              rw [h14, h19, h20]
              go_wp2_with fail
              refine (CS.out _ hb).mono ?_
              rintro e w'' ⟨rfl, b⟩
              go_wp2
              exact HKK.out _ _ ⟨_, (by simp [upd, h14, h19, h20]; done), b, rfl⟩
            | 22, _ =>
              have h14 : v 14 = _ := hd 14 (List.elem_iff.1 (by kernel_rfl))
              have h21 : v 21 = _ := hd 21 (List.elem_iff.1 (by kernel_rfl))
              refine wpOp_oneK rfl (fun KK hKK => ?_)
              have HKK := Lib.hid hKK
              clear hKK hd
              rw [h14, h21]
              go_wp2
              exact HKK.out _ _ ⟨_, (by simp [upd, h14, h21]; done), Below.refl _ _, rfl⟩
            | 23, _ =>
              have h11 : v 11 = _ := hd 11 (List.elem_iff.1 (by kernel_rfl))
              have h14 : v 14 = _ := hd 14 (List.elem_iff.1 (by kernel_rfl))
              have h22 : v 22 = _ := hd 22 (List.elem_iff.1 (by kernel_rfl))
              refine wpOp_oneK rfl (fun KK hKK => ?_)
              have HKK := Lib.hid hKK
              clear hKK hd
              rw [h11, h14, h22]
              go_wp2
              exact HKK.out _ _ ⟨_, (by simp [upd, h11, h14, h22]; done), Below.refl _ _, rfl⟩
            | k + 24, hk => exact absurd hk (by omega)
          case doneE =>
            intro v w5 hb hf
            have h11 : v 11 = _ := hf 11 (by decide)
            have h23 : v 23 = _ := hf 23 (by decide)
            clear hf
            rw [h11, h23]
            have HBB := Lib.hid hb
            clear hb
            go_wp2_with fail
            go_roundw
            case rel => exact ⟨_, by omega, by first | rfl | go_num, HT.out, below_on BN.out HBB.out⟩
            case measure => simp [intOf]; omega
    · have hd : decide ((k : Int) < (L.length : Int)) = false := decide_eq_false (by omega)
      have hqt : q = true := by
        rw [← HQ.out]
        refine (Tr.fmd_iff _).2 ?_
        rw [List.length_map]
        rw [show L.length = k from by omega]
        exact HALL.out
      subst hqt
      go_wp2
      go_ret
      exact ⟨rfl, hbw⟩
end Go.Proofs.Ytcfkpjbakccgiaa
namespace Go.Proofs.Ytcfkpjbakccgiaa
open Go.RowKit Go.Shelf Fb
attribute [local go_sem] Oper.semAt_some

/-- What is asked of All. -/
def SpAllSpec : Prop := ∀ (A : Option Addr) (c : Nat) (l : List (Int × Int)) (w0 w : World), OneL w0 A c l → Below w0.heap.size w0 w →
  Calls Try.prog 88 #[.slice A l.length c] w fun e w1 => ∃ gf lb, e = .returned (.func (.func gf) #[] lb) ∧ Below w.heap.size w w1 ∧ (∀ args w, (callFunc gf args).run Try.prog w = .ok (.enter gf args) w) ∧
    SeqStopsK Fence.wide 2 Try.prog gf lb told1 (KeepC w0.heap.size w.heap.size) (· = Sp.obL (Sp.inL l)) (· <+: Sp.obL (Sp.inL l)) 256 w1

end Go.Proofs.Ytcfkpjbakccgiaa
namespace Go.Proofs.Ytcfkpjbakccgiaa
open Go.RowKit Go.Shelf Fb

/-- The places of a list, in a block from B on. -/
def FarL (B : Nat) (W : World) (D : Option Addr) (L : List (Int × Int)) : Prop :=
  L ≠ [] → ∃ g off, D = some ⟨g, off, none⟩ ∧ B ≤ g ∧ ∀ k, k < L.length → W.cell? ⟨g, off + k * 2, none⟩ = some (.int .i64 (L.getD k (0, 0)).1) ∧ W.cell? ⟨g, off + (k * 2 + 1), none⟩ = some (.int .i64 (L.getD k (0, 0)).2)
theorem FarL.later {B : Nat} {W W' : World} {D : Option Addr} {L : List (Int × Int)} (h : FarL B W D L) (hb : Below W.heap.size W W') : FarL B W' D L := fun hne => by
  obtain ⟨g, off, h1, h2, h3⟩ := h hne
  exact ⟨g, off, h1, h2, fun k hk => ⟨cell_later hb (h3 k hk).1, cell_later hb (h3 k hk).2⟩⟩
theorem own_far {w : World} {base : Nat} {e : TypeId} {v : Value} {L : List (Int × Int)} (h : w.ownsRow base e 2 v L.length (stCells L)) : ∃ D dc, v = .slice D L.length dc ∧ FarL base w D L := by
  by_cases hne : L = []
  · subst hne
    obtain ⟨D, dc, rfl, _⟩ := own_form h
    exact ⟨D, dc, rfl, fun h => absurd rfl h⟩
  · obtain ⟨g, cap, rfl⟩ := own_len h (List.length_pos_iff.2 hne)
    refine ⟨_, _, rfl, fun _ => ⟨g, 0, rfl, (own_base_le h).1, fun k hk => ?_⟩⟩
    obtain ⟨q1, q2⟩ := stCells_get L k hk
    exact ⟨by rw [Nat.zero_add]; exact own_cell_at h q1, by rw [Nat.zero_add]; exact own_cell_at h q2⟩

theorem join_one {w : World} {A : Option Addr} {c : Nat} {l : List (Int × Int)} (h1 : OneL w A c l) (t : TypeId) :
    Calls Try.prog 38 #[.slice (some ⟨w.heap.size, 0, none⟩) 1 1] (w.alloc (.cells #[.slice A l.length c] t)) (GivesS (Sp.ofL (Sp.inL l)) w) := by
  have b0 := below_new (Below.refl w.heap.size w) (.cells #[.slice A l.length c] t)
  rw [← joinS_one l]
  refine (spjoin_any (some ⟨w.heap.size, 0, none⟩) 1 [l] _ (by simp) (by rw [Sp.tot_one]; exact h1.len) (rows_one (Blk.new w t _) (h1.later b0))).mono ?_
  rintro e w' ⟨v, he, ho, hb⟩
  exact ⟨v, he, own_base ho (by simp), below_on b0 hb⟩
theorem setOf_one {w : World} {A : Option Addr} {c : Nat} {l : List (Int × Int)} (h1 : OneL w A c l) (t : TypeId) :
    Calls Try.prog 69 #[.slice (some ⟨w.heap.size, 0, none⟩) 1 1] (w.alloc (.cells #[.slice A l.length c] t)) fun e w' => e = .returned (.agg (Sp.arr (Sp.inL l))) ∧ Below w.heap.size w w' := by
  have b0 := below_new (Below.refl w.heap.size w) (.cells #[.slice A l.length c] t)
  have e0 : Sp.arr (Sp.inL l) = Sp.arr (Sp.anyTo [l] [l].length) := Sp.arr_ext fun o _ => by
    show Sp.inL l o = (false || Sp.inL l o)
    rw [Bool.false_or]
  rw [e0]
  refine (setOf_any (some ⟨w.heap.size, 0, none⟩) 1 [l] _ (by simp) (by rw [Sp.tot_one]; exact h1.len) (rows_one (Blk.new w t _) (h1.later b0))).mono ?_
  rintro e w' ⟨he, hb⟩
  exact ⟨he, below_on b0 hb⟩

/-- A function over the objects of a list is answered. -/
def WalkerS (L : List (Int × Int)) (w : World) (e : Ending) (w1 : World) : Prop :=
  ∃ bc D dc, e = .returned (.func (.func 93) #[] #[.pointer (some ⟨bc, 0, none⟩)]) ∧ w1.cell? ⟨bc, 0, none⟩ = some (.slice D L.length dc) ∧ FarL w.heap.size w1 D L ∧ Below w.heap.size w w1

set_option maxHeartbeats 800000 in
theorem spAll_any (A : Option Addr) (c : Nat) (l : List (Int × Int)) (w : World) (h : OneL w A c l) :
    Calls Try.prog 88 #[.slice A l.length c] w (WalkerS (Sp.ofL (Sp.inL l)) w) := by
  have H := Lib.hid (fun t => join_one h t)
  clear h
  obtain ⟨L, hL⟩ : ∃ L, Sp.ofL (Sp.inL l) = L := ⟨_, rfl⟩
  rw [hL] at H ⊢
  clear hL
  go_enter Try.func88, Try.ntmps88
  go_wp2_with fail
  refine (H.out _).mono ?_
  rintro e w1 ⟨v, rfl, ho, b1⟩
  obtain ⟨D, dc, rfl, hf⟩ := own_far ho
  have HF := Lib.hid hf
  clear H ho hf
  go_wp2
  go_ret
  exact ⟨w1.heap.size, D, dc, rfl, (Blk.new w1 _ _).cell rfl, HF.out.later (below_new (Below.refl _ _) _), below_new b1 _⟩

theorem enters_eachO : ∀ args w, (callFunc 93 args).run Try.prog w = .ok (.enter 93 args) w :=
  enters_of Try.func93 (by kernel_rfl) rfl

/-- The loop over such a function: with numbers, with objects as the rounds' things. -/
theorem eachO_stops (f : Nat → Bool) (n₀ B bc dc : Nat) (D : Option Addr) (w : World) (hle : B ≤ w.heap.size)
    (hc : w.cell? ⟨bc, 0, none⟩ = some (.slice D (Sp.ofL f).length dc)) (hL : FarL B w D (Sp.ofL f)) :
    SeqStopsK Fence.wide 2 Try.prog 93 #[.pointer (some ⟨bc, 0, none⟩)] told1 (KeepC n₀ B) (· = Sp.obL f) (· <+: Sp.obL f) 256 w := by
  rw [← Sp.comesO_obL f]
  exact fun l J Jx W hW hJ _ hY h0 => eachO_in told1 (fun k => (k : Int)) (fun _ _ => rfl) f 2 (by omega) l n₀ B bc W.heap.size dc D J Jx hJ hY W (cell_later hW hc) (hL.later hW) (Nat.le_trans hle hW.size) h0
theorem walkO_stops (f : Nat → Bool) (n₀ B bc dc : Nat) (D : Option Addr) (w : World) (hle : B ≤ w.heap.size)
    (hc : w.cell? ⟨bc, 0, none⟩ = some (.slice D (Sp.ofL f).length dc)) (hL : FarL B w D (Sp.ofL f)) :
    SeqStopsK Fence.wide 2 Try.prog 93 #[.pointer (some ⟨bc, 0, none⟩)] tellO (KeepC n₀ B) (· = Sp.comesO Sp.objF f 256) (· <+: Sp.comesO Sp.objF f 256) 256 w :=
  fun l J Jx W hW hJ _ hY h0 => eachO_in tellO Sp.objF (fun k hk => by unfold tellO; rw [Sp.objF_val hk]) f 2 (by omega) l n₀ B bc W.heap.size dc D J Jx hJ hY W (cell_later hW hc) (hL.later hW) (Nat.le_trans hle hW.size) h0

theorem spAllSpec : SpAllSpec := by
  unfold SpAllSpec
  intro A c l w0 w h hb
  refine (spAll_any A c l w (h.later hb)).mono ?_
  rintro e w1 ⟨bc, D, dc, rfl, hc, hf, b1⟩
  exact ⟨_, _, rfl, b1, enters_eachO, eachO_stops (Sp.inL l) w0.heap.size w.heap.size bc dc D w1 b1.size hc hf⟩

end Go.Proofs.Ytcfkpjbakccgiaa
