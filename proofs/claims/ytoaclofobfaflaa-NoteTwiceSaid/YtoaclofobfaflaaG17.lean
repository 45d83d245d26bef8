/-
  What SpanWalks asks of span's All.
  What span's All answers: a function over the objects of the list, which was read when it was made.
  What span's Size, Of, Meet, Less, Covers and Touch answer.
  What note's Told and written answer.
-/
import Derived.RangeFuncFrom
import Derived.RangeFuncNested
import Derived.RangeFuncBound
import Derived.RangeFuncCalls
import Derived.RangeFuncLeaves
import Derived.Shelf.Abstract
import Derived.Shelf.RegionOpen
import Derived.OwnWalkIn
import Derived.TacticsInMore
import Derived.LoopNIn
import Derived.LoopIn
import Derived.Deep.RegionWith
import Derived.Test.YtoaclofobfaflaaG12
import Derived.Test.YtoaclofobfaflaaG16
import Derived.Test.YtoaclofobfaflaaG06
import Derived.Test.YtoaclofobfaflaaG15
namespace Go.Proofs.Ytoaclofobfaflaa
open Go.RowKit Go.Shelf Fb
attribute [local go_sem] Oper.semAt_some

/-- What is asked of All. -/
def SpAllSpec : Prop := ∀ (A : Option Addr) (c : Nat) (l : List (Int × Int)) (w0 w : World), OneL w0 A c l → Below w0.heap.size w0 w →
  Calls Try.prog 76 #[.slice A l.length c] w fun e w1 => ∃ gf lb, e = .returned (.func (.func gf) #[] lb) ∧ Below w.heap.size w w1 ∧ (∀ args w, (callFunc gf args).run Try.prog w = .ok (.enter gf args) w) ∧
    SeqStopsK Fence.wide 2 Try.prog gf lb told1 (KeepC w0.heap.size w.heap.size) (· = Sp.obL (Sp.inL l)) (· <+: Sp.obL (Sp.inL l)) 256 w1

end Go.Proofs.Ytoaclofobfaflaa
namespace Go.Proofs.Ytoaclofobfaflaa
open Go.RowKit Go.Shelf Fb

/-- The places of a list, in a block from B on. -/
def FarL (B : Nat) (W : World) (D : Option Addr) (L : List (Int × Int)) : Prop :=
  L ≠ [] → ∃ g off, D = some ⟨g, off, none⟩ ∧ B ≤ g ∧ ∀ k, k < L.length → W.cell? ⟨g, off + k * 2, none⟩ = some (.int .i64 (L.getD k (0, 0)).1) ∧ W.cell? ⟨g, off + (k * 2 + 1), none⟩ = some (.int .i64 (L.getD k (0, 0)).2)
theorem FarL.later {B : Nat} {W W' : World} {D : Option Addr} {L : List (Int × Int)} (h : FarL B W D L) (hb : Below W.heap.size W W') : FarL B W' D L := fun hne => by
  obtain ⟨g, off, h1, h2, h3⟩ := h hne
  exact ⟨g, off, h1, h2, fun k hk => ⟨cell_later hb (h3 k hk).1, cell_later hb (h3 k hk).2⟩⟩
theorem own_far {w : World} {base : Nat} {e : TypeId} {v : Value} {L : List (Int × Int)} (h : w.ownsRow base e 2 v L.length (stCells L)) : ∃ D dc, v = .slice D L.length dc ∧ FarL base w D L := by
  by_cases hne : L = []
  · subst hne
    obtain ⟨D, dc, rfl, _⟩ := own_form h
    exact ⟨D, dc, rfl, fun h => absurd rfl h⟩
  · obtain ⟨g, cap, rfl⟩ := own_len h (List.length_pos_iff.2 hne)
    refine ⟨_, _, rfl, fun _ => ⟨g, 0, rfl, (own_base_le h).1, fun k hk => ?_⟩⟩
    obtain ⟨q1, q2⟩ := stCells_get L k hk
    exact ⟨by rw [Nat.zero_add]; exact own_cell_at h q1, by rw [Nat.zero_add]; exact own_cell_at h q2⟩

theorem join_one {w : World} {A : Option Addr} {c : Nat} {l : List (Int × Int)} (h1 : OneL w A c l) (t : TypeId) :
    Calls Try.prog 53 #[.slice (some ⟨w.heap.size, 0, none⟩) 1 1] (w.alloc (.cells #[.slice A l.length c] t)) (GivesS (Sp.ofL (Sp.inL l)) w) := by
  have b0 := below_new (Below.refl w.heap.size w) (.cells #[.slice A l.length c] t)
  rw [← joinS_one l]
  refine (spjoin_any (some ⟨w.heap.size, 0, none⟩) 1 [l] _ (by simp) (by rw [Sp.tot_one]; exact h1.len) (rows_one (Blk.new w t _) (h1.later b0))).mono ?_
  rintro e w' ⟨v, he, ho, hb⟩
  exact ⟨v, he, own_base ho (by simp), below_on b0 hb⟩
theorem setOf_one {w : World} {A : Option Addr} {c : Nat} {l : List (Int × Int)} (h1 : OneL w A c l) (t : TypeId) :
    Calls Try.prog 74 #[.slice (some ⟨w.heap.size, 0, none⟩) 1 1] (w.alloc (.cells #[.slice A l.length c] t)) fun e w' => e = .returned (.agg (Sp.arr (Sp.inL l))) ∧ Below w.heap.size w w' := by
  have b0 := below_new (Below.refl w.heap.size w) (.cells #[.slice A l.length c] t)
  have e0 : Sp.arr (Sp.inL l) = Sp.arr (Sp.anyTo [l] [l].length) := Sp.arr_ext fun o _ => by
    show Sp.inL l o = (false || Sp.inL l o)
    rw [Bool.false_or]
  rw [e0]
  refine (setOf_any (some ⟨w.heap.size, 0, none⟩) 1 [l] _ (by simp) (by rw [Sp.tot_one]; exact h1.len) (rows_one (Blk.new w t _) (h1.later b0))).mono ?_
  rintro e w' ⟨he, hb⟩
  exact ⟨he, below_on b0 hb⟩

/-- A function over the objects of a list is answered. -/
def WalkerS (L : List (Int × Int)) (w : World) (e : Ending) (w1 : World) : Prop :=
  ∃ bc D dc, e = .returned (.func (.func 94) #[] #[.pointer (some ⟨bc, 0, none⟩)]) ∧ w1.cell? ⟨bc, 0, none⟩ = some (.slice D L.length dc) ∧ FarL w.heap.size w1 D L ∧ Below w.heap.size w w1

set_option maxHeartbeats 800000 in
theorem spAll_any (A : Option Addr) (c : Nat) (l : List (Int × Int)) (w : World) (h : OneL w A c l) :
    Calls Try.prog 76 #[.slice A l.length c] w (WalkerS (Sp.ofL (Sp.inL l)) w) := by
  have H := Lib.hid (fun t => join_one h t)
  clear h
  obtain ⟨L, hL⟩ : ∃ L, Sp.ofL (Sp.inL l) = L := ⟨_, rfl⟩
  rw [hL] at H ⊢
  clear hL
  go_enter Try.func76, Try.ntmps76
  go_wp2_with fail
  refine (H.out _).mono ?_
  rintro e w1 ⟨v, rfl, ho, b1⟩
  obtain ⟨D, dc, rfl, hf⟩ := own_far ho
  have HF := Lib.hid hf
  clear H ho hf
  go_wp2
  go_ret
  exact ⟨w1.heap.size, D, dc, rfl, (Blk.new w1 _ _).cell rfl, HF.out.later (below_new (Below.refl _ _) _), below_new b1 _⟩

theorem enters_eachO : ∀ args w, (callFunc 94 args).run Try.prog w = .ok (.enter 94 args) w :=
  enters_of Try.func94 (by kernel_rfl) rfl

/-- The loop over such a function: with numbers, with objects as the rounds' things. -/
theorem eachO_stops (f : Nat → Bool) (n₀ B bc dc : Nat) (D : Option Addr) (w : World) (hle : B ≤ w.heap.size)
    (hc : w.cell? ⟨bc, 0, none⟩ = some (.slice D (Sp.ofL f).length dc)) (hL : FarL B w D (Sp.ofL f)) :
    SeqStopsK Fence.wide 2 Try.prog 94 #[.pointer (some ⟨bc, 0, none⟩)] told1 (KeepC n₀ B) (· = Sp.obL f) (· <+: Sp.obL f) 256 w := by
  rw [← Sp.comesO_obL f]
  exact fun l J Jx W hW hJ _ hY h0 => eachO_in told1 (fun k => (k : Int)) (fun _ _ => rfl) f 2 (by omega) l n₀ B bc W.heap.size dc D J Jx hJ hY W (cell_later hW hc) (hL.later hW) (Nat.le_trans hle hW.size) h0
theorem walkO_stops (f : Nat → Bool) (n₀ B bc dc : Nat) (D : Option Addr) (w : World) (hle : B ≤ w.heap.size)
    (hc : w.cell? ⟨bc, 0, none⟩ = some (.slice D (Sp.ofL f).length dc)) (hL : FarL B w D (Sp.ofL f)) :
    SeqStopsK Fence.wide 2 Try.prog 94 #[.pointer (some ⟨bc, 0, none⟩)] tellO (KeepC n₀ B) (· = Sp.comesO Sp.objF f 256) (· <+: Sp.comesO Sp.objF f 256) 256 w :=
  fun l J Jx W hW hJ _ hY h0 => eachO_in tellO Sp.objF (fun k hk => by unfold tellO; rw [Sp.objF_val hk]) f 2 (by omega) l n₀ B bc W.heap.size dc D J Jx hJ hY W (cell_later hW hc) (hL.later hW) (Nat.le_trans hle hW.size) h0

theorem spAllSpec : SpAllSpec := by
  unfold SpAllSpec
  intro A c l w0 w h hb
  refine (spAll_any A c l w (h.later hb)).mono ?_
  rintro e w1 ⟨bc, D, dc, rfl, hc, hf, b1⟩
  exact ⟨_, _, rfl, b1, enters_eachO, eachO_stops (Sp.inL l) w0.heap.size w.heap.size bc dc D w1 b1.size hc hf⟩

end Go.Proofs.Ytoaclofobfaflaa
namespace Go.Proofs.Ytoaclofobfaflaa
open Go.RowKit Go.Shelf Fb
attribute [local go_sem] Oper.semAt_some

set_option maxRecDepth 100000 in
set_option maxHeartbeats 1600000 in
theorem spof_any (A : Option Addr) (c : Nat) (xs : List Int) (w : World) (hl : xs.length ≤ 9223372036854775807) (h1 : Lies w A (xs.map (Value.int .i64))) :
    Calls Try.prog 77 #[.slice A xs.length c] w (GivesS (Sp.ofL (Sp.someOf xs)) w) := by
  have H1 := Lib.hid h1
  clear h1
  go_enter Try.func77, Try.ntmps77
  go_wp2_with fail
  rw [set_zero]
  go_loopw [8] (fun s4 wr => ∃ k : Nat, k ≤ xs.length ∧ s4 = .int .i64 (k : Int) ∧ Blk wr w.heap.size 88 (Sp.arr (Sp.someOf (xs.take k))) ∧ Below w.heap.size w wr) (fun s4 _ => xs.length - (intOf s4).toNat)
  case atStart => exact ⟨0, Nat.zero_le _, rfl, Blk.new _ _ _, below_new (Below.refl _ _) _⟩
  case round =>
    obtain ⟨k, hk, rfl, hB, hbw⟩ := hrel
    by_cases hlt : k < xs.length
    · have hne : xs.map (Value.int .i64) ≠ [] := fun e => by rw [List.map_eq_nil_iff] at e; subst e; simp at hlt
      obtain ⟨b, off, hA, hc⟩ := (H1.out.later hbw) hne
      subst hA
      have e0 := hc k (.int .i64 xs[k]) (by rw [List.getElem?_map, List.getElem?_eq_getElem hlt]; rfl)
      have hit := Sp.someOf_take xs k hlt
      obtain ⟨x, hx⟩ : ∃ x, xs[k] = x := ⟨_, rfl⟩
      rw [hx] at e0 hit
      obtain ⟨f, hf⟩ : ∃ f, Sp.someOf (xs.take k) = f := ⟨_, rfl⟩
      rw [hf] at hB hit
      have hi0 : (0 : Int) ≤ (k : Int) := by omega
      have hi1 : (k : Int) < (xs.length : Int) := by omega
      have hout : ¬ (0 ≤ x ∧ x ≤ 255) → ∀ i, i < 256 → f i = Sp.someOf (xs.take (k + 1)) i := fun h i hi => by
        rw [hit i, decide_eq_false (by omega), Bool.or_false]
      have HOUT := Lib.hid hout
      have HIT := Lib.hid hit
      have HB := Lib.hid hB
      clear hout hit hB hc hf hx
      have n1 := fun wx => isObject_any x wx
      by_cases h0 : 0 ≤ x ∧ x ≤ 255
      · rw [decide_eq_true h0] at n1
        have N1 := Lib.hid n1
        obtain ⟨n, rfl⟩ : ∃ n : Nat, x = (n : Int) := ⟨x.toNat, by omega⟩
        have hn : n < 256 := by omega
        clear n1 h0
        go_wp2_with fail
        refine (N1.out _).mono ?_
        rintro e w2 ⟨rfl, b2⟩
        have hbx := below_on hbw b2
        have HC := HB.out.later b2
        have x1 := HC.marks_cell n hn
        have x2 := HC.free n
        have hj0 : (0 : Int) ≤ (n : Int) := by omega
        have hj1 : (n : Int) < 256 := by omega
        have hB2 := (HC.marks_put n hn true).marks_same (f' := Sp.someOf (xs.take (k + 1))) (fun i _ => by
          rw [HIT.out i]
          by_cases e : i = n
          · rw [if_pos e, decide_eq_true (by omega), Bool.or_true]
          · rw [if_neg e, decide_eq_false (by omega), Bool.or_false])
        have HB2 := Lib.hid hB2
        have hbz := hbx.setCell (p := ⟨w.heap.size, n, none⟩) (Nat.le_refl _) (.bool true)
        clear hB2 HC N1
        go_wp2_with fail
        go_roundw
        case rel => exact ⟨k + 1, by omega, by go_num, HB2.out, hbz⟩
        case measure => simp [intOf]; omega
      · rw [decide_eq_false h0] at n1
        have N1 := Lib.hid n1
        have HB2 := Lib.hid (HB.out.marks_same (HOUT.out h0))
        clear n1
        go_wp2_with fail
        refine (N1.out _).mono ?_
        rintro e w2 ⟨rfl, b2⟩
        have HB3 := Lib.hid (HB2.out.later b2)
        have hbx := below_on hbw b2
        clear N1
        go_wp2_with fail
        go_roundw
        case rel => exact ⟨k + 1, by omega, by go_num, HB3.out, hbx⟩
        case measure => simp [intOf]; omega
    · have hkl : k = xs.length := by omega
      subst hkl
      rw [List.take_length] at hB
      have HB := Lib.hid hB
      clear hB
      go_wp2_with (refine wpList_load_row rfl 88 _ rfl w.heap.size rfl 88 _ (0, 0) _ HB.out Try.underlying88 rfl (by rw [Sp.arr_size]; exact infoSet) ?_)
      refine (spans_any _ _).mono ?_
      rintro e w3 ⟨v, rfl, ho, hb3⟩
      have HO := Lib.hid ho
      have hz := hbw.size
      clear ho
      go_wp2
      go_ret
      exact ⟨_, rfl, own_base HO.out hz, below_on hbw hb3⟩

set_option maxRecDepth 100000 in
set_option maxHeartbeats 3200000 in
theorem spless_any (A B : Option Addr) (c d : Nat) (l r : List (Int × Int)) (w : World) (h1 : OneL w A c l) (h2 : OneL w B d r) :
    Calls Try.prog 54 #[.slice A l.length c, .slice B r.length d] w (GivesS (Sp.lessS l r) w) := by
  have n0 := fun t => setOf_one h1 t
  have n1 := fun wx (hx : OneL wx B d r) => spAll_any B d r wx hx
  have hsq := fun n₀ B bc dc D wx hx h1 h2 => walkO_stops (Sp.inL r) n₀ B bc dc D wx hx h1 h2
  have hall := Sp.hasF_all (Sp.inL r)
  unfold Sp.lessS
  obtain ⟨J, hJ⟩ : ∃ J, Sp.comesO Sp.objF (Sp.inL r) 256 = J := ⟨_, rfl⟩
  obtain ⟨L, hL⟩ : ∃ L, Sp.ofL (Sp.inL r) = L := ⟨_, rfl⟩
  obtain ⟨f, hf⟩ : ∃ f, Sp.inL l = f := ⟨_, rfl⟩
  obtain ⟨g, hg⟩ : ∃ g, Sp.inL r = g := ⟨_, rfl⟩
  rw [hJ] at hsq hall
  rw [hL] at n1 hsq
  rw [hg] at hall ⊢
  rw [hf] at n0 ⊢
  have SQ := Lib.hid hsq
  have N0 := Lib.hid n0
  have N1 := Lib.hid n1
  have H2 := Lib.hid h2
  have HALL := Lib.hid hall
  clear n0 n1 h1 h2 hJ hL hf hg hsq hall
  refine (callsIn_wide (n := 3)).1 ?_
  refine callsIn_of_wp_marks Try.func54 rfl trivial ?_ rfl
  simp only [Try.ntmps54, List.size_toArray, List.length_cons, List.length_nil, Nat.reduceAdd, Nat.reduceSub, Array.replicate_succ, Array.replicate_zero, List.push_toArray, List.append_toArray, List.nil_append, List.cons_append]
  gi_wp2_with fail
  refine ⟨trivial, (callsIn_wide.2 (N0.out _)).mono ?_⟩
  rintro e w1 ⟨rfl, b1⟩
  have E5 := Blk.new w1 88 (Sp.arr fun _ => false)
  have F5 := E5.row (Sp.arr f)
  have b3 := below_setRow (below_new b1 (.cells (Sp.arr fun _ => false) 88)) b1.size (Sp.arr f)
  have z3 : ((w1.alloc (.cells (Sp.arr fun _ => false) 88)).setRow w1.heap.size (Sp.arr f)).heap.size = w1.heap.size + 1 := by simp
  rw [← set_zero] at E5
  gi_wp2_with (refine in_store_row rfl 88 _ _ rfl w1.heap.size _ rfl rfl 88 _ E5 (by rw [Sp.arr_size]; exact infoSet) (by rw [set_zero, Sp.arr_size, Sp.arr_size]) (one_marks _) ?_)
  rw [set_zero]
  obtain ⟨W3, hW3⟩ : ∃ W3, (w1.alloc (.cells (Sp.arr fun _ => false) 88)).setRow w1.heap.size (Sp.arr f) = W3 := ⟨_, rfl⟩
  rw [hW3] at F5 b3 z3 ⊢
  have hz1 := b1.size
  clear hW3 E5 N0
  refine ⟨trivial, (callsIn_wide.2 (N1.out _ (H2.out.later b3))).mono ?_⟩
  rintro e w4 ⟨bc, D, dc, rfl, hc, hfar, b4⟩
  have bb4 := below_on b3 b4
  have G5 := F5.later b4
  have z4 := b4.size
  clear F5 N1 H2
  gi_wp2_with fail
  refine wpIn_rangeFunc_ownF rfl (by omega) (gf := 94) (lb := #[.pointer (some ⟨bc, 0, none⟩)]) rfl trivial enters_eachO (SQ.out w.heap.size W3.heap.size bc dc D w4 b4.size hc hfar) KeepC.trans (fun W l' o o' _ h1 h2 _ => KeepC.mark W l' o o' h1 h2) (Below.refl _ _) (fun _ => rfl)
    (fun pre W => Blk W w1.heap.size 88 (Sp.arr fun j => f j && !Sp.hasF pre j) ∧ Below w.heap.size w W)
    (fun _ _ _ => False) ?hI (fun _ _ _ _ _ h _ _ => h) ⟨G5.marks_same (fun i _ => by show f i = (f i && !false); cases f i <;> rfl), bb4⟩
    (fun x => { tmps := #[.slice A l.length c, .slice B r.length d, undef, undef, .slice none 0 0, .pointer (some ⟨w1.heap.size, 0, none⟩), .int .i64 (x.val : Int), .slice A l.length c, .slice (some ⟨w.heap.size, 0, none⟩) 1 1, .agg (Sp.arr f), .slice B r.length d, .func (.func 94) #[] #[.pointer (some ⟨bc, 0, none⟩)], .int .i64 (x.val : Int), undef, undef, undef, undef], defers := [] }) ?assign ?body ?done ?stop
  case hI => exact OwnFrom.and (Own.from (blk_own _ _ fun pre => Sp.arr fun j => f j && !Sp.hasF pre j) _) (ownFrom_below (Nat.le_refl _) bb4.size)
  case assign =>
    intro l' x W K hK
    unfold tellO
    gi_wp2
    exact hK
  case body =>
    rintro l' pre x W ⟨hB5, hBw⟩ _
    have c2 := hB5.marks_cell x.val x.isLt
    have c3 := hB5.free x.val
    have hx0 : (0 : Int) ≤ (x.val : Int) := by omega
    have hx1 : (x.val : Int) < 256 := by have := x.isLt; omega
    have hst : ∀ i, i < 256 → (if i = x.val then false else (f i && !Sp.hasF pre i)) = (f i && !Sp.hasF (pre ++ [x]) i) := fun i _ => by
      rw [Sp.hasF_snoc]
      by_cases hi : i = x.val
      · rw [if_pos hi, decide_eq_true hi.symm, Bool.or_true, Bool.not_true, Bool.and_false]
      · rw [if_neg hi, decide_eq_false (fun h => hi h.symm), Bool.or_false]
    have B5 := (hB5.marks_put x.val x.isLt false).marks_same hst
    have hbs := hBw.setCell (p := ⟨w1.heap.size, x.val, none⟩) hz1 (.bool false)
    have HB5 := Lib.hid B5
    clear hst hB5 B5
    gi_wp2
    exact ⟨KeepsOthers.setCell _ _ _, KeepC.set _ _ _ hz1 (by show w1.heap.size < W3.heap.size; omega), HB5.out, hbs⟩
  case done =>
    rintro DD ys W hD hys ⟨hB5, hBw⟩ hK
    rw [hys] at hB5
    have hN2 := hB5.marks_same (f' := fun j => f j && !g j) (fun i hi => by rw [HALL.out i hi])
    have hDl := (Array.getElem?_eq_some_iff.1 hK).1
    have HN := Lib.hid hN2
    clear hB5 hN2 G5
    gi_wp2_with (refine in_load_row rfl 88 _ rfl w1.heap.size rfl 88 _ _ HN.out Try.underlying88 rfl (by rw [Sp.arr_size]; exact infoSet) ?_)
    refine ⟨trivial, (callsIn_wide.2 (spans_any _ _)).mono ?_⟩
    rintro e w5 ⟨v, rfl, ho, b5⟩
    have hK5 := (b5.block DD hDl).trans hK
    have hb5 := below_on hBw b5
    have HO := Lib.hid ho
    clear ho HN
    gi_wp2
    refine ⟨by simp, .inl ⟨_, _, rfl, run_takeDeferred hK5, ?_⟩⟩
    exact ⟨_, results_tmp rfl _ _ _, v, rfl, ownsRow_putObj (own_base HO.out hBw.size) _ hK5 rfl, hb5.trans (belowK_b (w := w) (Nat.le_refl _) w5 DD _ _ (by have := bb4.size; omega) hK5 rfl rfl)⟩
  case stop =>
    rintro DD c pre W _ _ h _
    exact h.elim

end Go.Proofs.Ytoaclofobfaflaa
namespace Go.Proofs.Ytoaclofobfaflaa
open Go.RowKit Fb

set_option maxRecDepth 100000 in
set_option maxHeartbeats 6400000 in
theorem dntold_any (S E B V : Option Addr) (cs ce cb cv : Nat) (n : Note) (o : Int) (w : World) (h1 : NoteAt w S E B V cs ce cb cv n) :
    Calls Try.prog 23 #[.agg (noteCells S E B V cs ce cb cv n), .int .i64 o] w (Says (Nt.toldV (Nt.told n o)) w) := by
  obtain ⟨W, hW⟩ : ∃ W, (w.alloc (.cells (noteCells S E B V cs ce cb cv n) 26)).alloc (.cells #[.int .i64 0, .int .i64 0, .int .i64 0, .bool false] 35) = W := ⟨_, rfl⟩
  have hb0 : Below w.heap.size w W := by rw [← hW]; exact below_new (below_new (Below.refl _ _) _) _
  have hB0 : Blk W w.heap.size 26 (noteCells S E B V cs ce cb cv n) := by rw [← hW]; exact (Blk.new w _ _).alloc _
  have hB1 : Blk W (w.heap.size + 1) 35 (Nt.wrArr Nt.zeroW) := by
    rw [← hW, show w.heap.size + 1 = (w.alloc (.cells (noteCells S E B V cs ce cb cv n) 26)).heap.size from by simp]
    exact Blk.new _ _ _
  obtain ⟨c0, c1, c2, c3⟩ := note_cells hB0
  have p0 := c0
  have p1 := c1
  have p2 := c2
  have p3 := c3
  rw [← hW] at p0 p1 p2 p3
  have HN := Lib.hid (h1.later hb0)
  have HB1 := Lib.hid hB1
  have N0 := Lib.hid (show Calls Try.prog 12 #[.agg #[.slice S n.s.length cs, .slice E n.e.length ce, .slice B n.b.length cb, .slice V n.ws.length cv]] W (Says (.bool (Nt.fmd n)) W) from dnformed_any S E B V cs ce cb cv n W (h1.later hb0))
  have NO := Lib.hid (fun wx => nisObject_any o wx)
  have HOB := Lib.hid (show (0 ≤ o ∧ o ≤ 255) ↔ decide (0 ≤ o ∧ o ≤ 255) = true from decide_eq_true_iff.symm)
  obtain ⟨xo, hxo⟩ : ∃ x, decide (0 ≤ o ∧ o ≤ 255) = x := ⟨_, rfl⟩
  rw [hxo] at NO HOB
  have HT := Lib.hid (show Nt.told n o = if Nt.fmd n = true ∧ 0 ≤ o ∧ o ≤ 255 then (if (Nt.at_ n.ws o).2 = true then ((Nt.at_ n.ws o).1, true, 0) else (Nt.zeroW, !inOf n.b o, 8)) else (Nt.zeroW, false, 1) from rfl)
  obtain ⟨x0, hx0⟩ : ∃ x, Nt.fmd n = x := ⟨_, rfl⟩
  rw [hx0] at N0 HT
  have HW := Lib.hid hW
  clear hW hB0 hB1 h1 hx0 hxo
  have hcs : (x0 = false) ∨ (x0 = true ∧ xo = false) ∨ (x0 = true ∧ xo = true) := by
    cases x0 <;> cases xo <;> simp
  rcases hcs with rfl | ⟨rfl, rfl⟩ | ⟨rfl, rfl⟩
  · have HT2 := Lib.hid (HT.out.trans (if_neg (fun h => by cases h.1)))
    go_enter Try.func23, Try.ntmps23
    go_wp2_with fail
    rw [HW.out]
    refine N0.out.mono ?_
    rintro e w1 ⟨rfl, b1⟩
    have hq := HB1.out.later b1
    obtain ⟨⟨z0, z1, z2, z3⟩, y0, y1, y2, y3⟩ := wr_cells hq
    have HQ := Lib.hid hq
    clear hq
    go_wp2
    exact bodyPost_ret (v := Nt.toldV (Nt.zeroW, false, 1)) (results_cell_tmp2 (p := 4) (t1 := 5) (t2 := 6) (ty := 35) rfl _ _ (w.heap.size + 1) 35 (Nt.wrArr Nt.zeroW) _ rfl (wr_puts HQ.out Nt.zeroW) Try.underlying35 rfl infoW4) rfl ⟨by rw [HT2.out], below_puts (below_on hb0 b1) (by omega) _ _ _ _⟩
  · have HT2 := Lib.hid (HT.out.trans (if_neg (fun h => by have := HOB.out.1 h.2; cases this)))
    go_enter Try.func23, Try.ntmps23
    go_wp2_with fail
    rw [HW.out]
    refine N0.out.mono ?_
    rintro e w1 ⟨rfl, b1⟩
    go_wp2_with fail
    refine (NO.out _).mono ?_
    rintro e w2 ⟨rfl, b2⟩
    have bb2 := below_on b1 b2
    have hq := HB1.out.later bb2
    obtain ⟨⟨z0, z1, z2, z3⟩, y0, y1, y2, y3⟩ := wr_cells hq
    have HQ := Lib.hid hq
    clear hq
    go_wp2
    exact bodyPost_ret (v := Nt.toldV (Nt.zeroW, false, 1)) (results_cell_tmp2 (p := 4) (t1 := 5) (t2 := 6) (ty := 35) rfl _ _ (w.heap.size + 1) 35 (Nt.wrArr Nt.zeroW) _ rfl (wr_puts HQ.out Nt.zeroW) Try.underlying35 rfl infoW4) rfl ⟨by rw [HT2.out], below_puts (below_on hb0 bb2) (by omega) _ _ _ _⟩
  have HT2 := Lib.hid (HT.out.trans (if_pos ⟨rfl, HOB.out.2 rfl⟩))
  have NH := Lib.hid (fun wx (hb : Below W.heap.size W wx) => sphas_any B cb n.b o wx (HN.out.hb.later hb))
  obtain ⟨ib, hib⟩ : ∃ ib, inOf n.b o = ib := ⟨_, rfl⟩
  rw [hib] at NH HT2
  clear hib
  have hlenw := HN.out.hv.len
  go_enter Try.func23, Try.ntmps23
  go_wp2_with fail
  rw [HW.out]
  refine N0.out.mono ?_
  rintro e w1 ⟨rfl, b1⟩
  go_wp2_with fail
  refine (NO.out _).mono ?_
  rintro e w2 ⟨rfl, b2⟩
  have bb2 := below_on b1 b2
  have q3 := cell_later bb2 c3
  go_wp2_with fail
  go_loopw [21] (fun s21 wr => ∃ k : Nat, k ≤ n.ws.length ∧ s21 = .int .i64 (k : Int) ∧ (∀ j, j < k → Nt.obj n.ws j ≠ o) ∧ Below W.heap.size W wr) (fun s21 _ => n.ws.length - (intOf s21).toNat)
  case atStart => exact ⟨0, Nat.zero_le _, rfl, (fun j hj => by omega), bb2⟩
  case round =>
    obtain ⟨k, hk, rfl, hall, hbw⟩ := hrel
    have HALL := Lib.hid hall
    clear hall p0 p1 p2 p3 q3
    by_cases hlt : k < n.ws.length
    · have hne : n.ws ≠ [] := fun e => by rw [e] at hlt; simp at hlt
      obtain ⟨b, off, hA, hcA⟩ := (HN.out.hv.later hbw).at hne
      subst hA
      obtain ⟨e0, e1, e2, e3⟩ := hcA k hlt
      clear hcA
      have hi0 : (0 : Int) ≤ (k : Int) := by omega
      have hi1 : (k : Int) < (n.ws.length : Int) := by omega
      have hob : (n.ws.getD k Nt.zeroW).2.2.1 = Nt.obj n.ws k := rfl
      have hat := fun h => Nt.at_some hlt h HALL.out
      obtain ⟨x, hx⟩ : ∃ x, n.ws.getD k Nt.zeroW = x := ⟨_, rfl⟩
      rw [hx] at e0 e1 e2 e3 hob hat
      obtain ⟨x1, x2, x3, x4⟩ := x
      have HX := Lib.hid (show x3 = Nt.obj n.ws k from hob)
      have HAT := Lib.hid hat
      obtain ⟨W1, hW1⟩ : ∃ W1, wr.alloc (.cells #[.int .i64 x1, .int .i64 x2, .int .i64 x3, .bool x4] 35) = W1 := ⟨_, rfl⟩
      have hbn : Below wr.heap.size wr W1 := by rw [← hW1]; exact below_new (Below.refl _ _) _
      have hBx : Blk W1 wr.heap.size 35 #[.int .i64 x1, .int .i64 x2, .int .i64 x3, .bool x4] := by rw [← hW1]; exact Blk.new wr _ _
      have hbw1 := below_on hbw hbn
      have hq := HB1.out.later hbw1
      obtain ⟨⟨z0, z1, z2, z3⟩, y0, y1, y2, y3⟩ := wr_cells hq
      have r0 := hBx.cell (i := 0) rfl
      have r1 := hBx.cell (i := 1) rfl
      have r2 := hBx.cell (i := 2) rfl
      have r3 := hBx.cell (i := 3) rfl
      have hq0 := hq
      rw [← hW1] at r0 r1 r2 r3 z0 z1 z2 z3 y0 y1 y2 y3 hq0
      have hbw0 := hbw1
      rw [← hW1] at hbw0
      have HQ := Lib.hid hq0
      have HBW := Lib.hid hbw0
      have hneq : w.heap.size + 1 ≠ wr.heap.size := by have := hbw.size; have := HB1.out.lt; omega
      have hneq2 : wr.heap.size ≠ w.heap.size + 1 := Ne.symm hneq
      clear hx hob hat hBx hW1 hq hq0 hbw0 hbw1
      by_cases heq : x3 = o
      · have hd : (x3 == o) = true := beq_iff_eq.2 heq
        have HA2 := Lib.hid (HAT.out (by rw [← HX.out]; exact heq))
        clear heq
        go_wp2
        exact bodyPost_ret (v := Nt.toldV ((x1, x2, x3, x4), true, 0)) (results_cell_tmp2 (p := 4) (t1 := 5) (t2 := 6) (ty := 35) rfl _ _ (w.heap.size + 1) 35 (Nt.wrArr (x1, x2, x3, x4)) _ rfl (wr_puts HQ.out (x1, x2, x3, x4)) Try.underlying35 rfl infoW4) rfl ⟨by rw [HT2.out, HA2.out]; rfl, below_puts (below_on hb0 HBW.out) (by omega) _ _ _ _⟩
      · have hd : (x3 == o) = false := beq_eq_false_iff_ne.2 heq
        have HT3 := Lib.hid (show ∀ j, j < k + 1 → Nt.obj n.ws j ≠ o from fun j hj => by
          by_cases e : j = k
          · subst e; rw [← HX.out]; exact heq
          · exact HALL.out j (by omega))
        clear heq
        go_wp2_with fail
        go_roundw
        case rel => exact ⟨k + 1, by omega, by go_num, HT3.out, HBW.out⟩
        case measure => simp [intOf]; omega
    · have hkl : k = n.ws.length := by omega
      have HA2 := Lib.hid (Nt.at_none (l := n.ws) (o := o) (fun j hj => HALL.out j (by omega)))
      have q2 := cell_later hbw c2
      subst hkl
      go_wp2_with fail
      refine (NH.out _ hbw).mono ?_
      rintro e w4 ⟨rfl, b4⟩
      have hbw4 := below_on hbw b4
      have hq := HB1.out.later hbw4
      obtain ⟨⟨z0, z1, z2, z3⟩, y0, y1, y2, y3⟩ := wr_cells hq
      have HQ := Lib.hid hq
      clear hq
      go_wp2
      exact bodyPost_ret (v := Nt.toldV (Nt.zeroW, !ib, 8)) (results_cell_tmp2 (p := 4) (t1 := 5) (t2 := 6) (ty := 35) rfl _ _ (w.heap.size + 1) 35 (Nt.wrArr Nt.zeroW) _ rfl (wr_puts HQ.out Nt.zeroW) Try.underlying35 rfl infoW4) rfl ⟨by rw [HT2.out, HA2.out]; rfl, below_puts (below_on hb0 hbw4) (by omega) _ _ _ _⟩

theorem infoInt1 : (Try.prog.info? 3).map (fun i => (i.zero, i.size, i.bytes)) = some (some (.int .i64 0), 1, 8) := by kernel_rfl

/-- The objects of the first k writes. -/
def Nt.objs (ws : List Wr) (k : Nat) : List Int := (ws.take k).map (·.2.2.1)
theorem Nt.objs_step (ws : List Wr) (k : Nat) (h : k < ws.length) : Nt.objs ws (k + 1) = Nt.objs ws k ++ [(ws.getD k Nt.zeroW).2.2.1] := by
  unfold Nt.objs
  rw [List.take_succ_eq_append_getElem h, List.map_append, List.getD_eq_getElem?_getD, List.getElem?_eq_getElem h]
  rfl
theorem Nt.objs_len (ws : List Wr) (k : Nat) (h : k ≤ ws.length) : (Nt.objs ws k).length = k := by
  unfold Nt.objs
  rw [List.length_map, List.length_take]
  omega

set_option maxRecDepth 100000 in
set_option maxHeartbeats 1600000 in
theorem written_any (V : Option Addr) (cv : Nat) (ws : List Wr) (w : World) (hl8 : ws.length * 8 ≤ 140737488355328) (h : OneW w V cv ws) :
    Calls Try.prog 55 #[.slice V ws.length cv] w (GivesS (Sp.ofL (Sp.someOf (ws.map (·.2.2.1)))) w) := by
  obtain ⟨i0, hi, hz0, hz1, hz2⟩ := info_parts infoInt1
  have hlen := h.len
  have HV := Lib.hid h
  obtain ⟨R, hR⟩ : ∃ R, Sp.ofL (Sp.someOf (ws.map (·.2.2.1))) = R := ⟨_, rfl⟩
  rw [hR]
  have HR := Lib.hid hR
  clear h hR
  go_enter Try.func55, Try.ntmps55
  go_wp2_with fail
  go_loopw [3, 8] (fun s3 s8 wr => ∃ k : Nat, k ≤ ws.length ∧ s8 = .int .i64 (k : Int) ∧ wr.ownsRow w.heap.size 3 1 s3 (Nt.objs ws k).length ((Nt.objs ws k).map (Value.int .i64)) ∧ Below w.heap.size w wr) (fun _ s8 _ => ws.length - (intOf s8).toNat)
  case atStart => exact ⟨0, Nat.zero_le _, rfl, ⟨rfl, .inl ⟨rfl, rfl⟩⟩, Below.refl _ _⟩
  case round =>
    obtain ⟨k, hk, rfl, hown, hbw⟩ := hrel
    by_cases hlt : k < ws.length
    · have hne : ws ≠ [] := fun e => by subst e; simp at hlt
      obtain ⟨b, off, hA, hcA⟩ := (HV.out.later hbw).at hne
      subst hA
      obtain ⟨e0, e1, e2, e3⟩ := hcA k hlt
      clear hcA
      have hi0 : (0 : Int) ≤ (k : Int) := by omega
      have hi1 : (k : Int) < (ws.length : Int) := by omega
      have hst := Nt.objs_step ws k hlt
      have hln := Nt.objs_len ws k hk
      obtain ⟨x, hx⟩ : ∃ x, ws.getD k Nt.zeroW = x := ⟨_, rfl⟩
      rw [hx] at e0 e1 e2 e3 hst
      obtain ⟨x1, x2, x3, x4⟩ := x
      have HST := Lib.hid (show Nt.objs ws (k + 1) = Nt.objs ws k ++ [x3] from hst)
      have hbw1 := below_new hbw (.cells #[.int .i64 x1, .int .i64 x2, .int .i64 x3, .bool x4] 35)
      have ho1 := hown.alloc (.cells #[.int .i64 x1, .int .i64 x2, .int .i64 x3, .bool x4] 35)
      have hsz := hbw.size
      clear hx hst hown
      go_wp2_with (at_builtin; refine wpList_append_lies _ rfl _ _ 94 rfl w.heap.size 3 i0 (.int .i64 0) 1 8 Try.underlying94 hi hz0 hz1 hz2 rfl (by decide) _ (Nt.objs ws k).length ((Nt.objs ws k).map (Value.int .i64)) rfl (ho1.alloc _) (some ⟨wr.heap.size + 1, 0, none⟩) 1 1 (fun h => by cases h) [.int .i64 x3] rfl rfl ?c1 (by intro u hu; simp at hu; subst hu; rfl) ?c3 ?c4 ?c5 ?_)
      case c1 =>
        intro _
        refine ⟨wr.heap.size + 1, 0, rfl, fun j u hu => ?_⟩
        rw [Nat.zero_add]
        have hn := Blk.new (wr.alloc (.cells #[.int .i64 x1, .int .i64 x2, .int .i64 x3, .bool x4] 35)) 3 #[.int .i64 x3]
        rw [show (wr.alloc (.cells #[.int .i64 x1, .int .i64 x2, .int .i64 x3, .bool x4] 35)).heap.size = wr.heap.size + 1 from by simp] at hn
        exact hn.cell (by simpa using hu)
      case c3 => first | (unfold maxLen; omega) | (rw [hln]; unfold maxLen; omega)
      case c4 => first | omega | (rw [hln]; omega)
      case c5 => first | omega | (simp; omega)
      intro v' w1 hown1 hg1 _
      have hb1 : Below w.heap.size w w1 := (below_new hbw1 _).grown hg1 (by simp; omega) (fun k' hk' => own_ge ho1 _ hk')
      rw [show ((Nt.objs ws k).map (Value.int .i64)) ++ [Value.int .i64 x3] = (Nt.objs ws k ++ [x3]).map (Value.int .i64) from by simp, show k + 1 = (Nt.objs ws k ++ [x3]).length from by simp [hln], ← HST.out] at hown1
      have HO := Lib.hid hown1
      clear hown1 ho1 hg1
      go_wp2_with fail
      go_roundw
      case rel => exact ⟨k + 1, by omega, by go_num, HO.out, hb1⟩
      case measure => simp [intOf]; omega
    · have hkl : k = ws.length := by omega
      subst hkl
      have hob : Nt.objs ws ws.length = ws.map (·.2.2.1) := by unfold Nt.objs; rw [List.take_length]
      rw [hob] at hown
      obtain ⟨A, c, rfl, h1, h2, h3, h4⟩ := own_form hown
      have hxl : (ws.map (·.2.2.1)).length ≤ 9223372036854775807 := by rw [List.length_map]; exact hlen
      have n := spof_any A c (ws.map (·.2.2.1)) wr hxl h4
      rw [HR.out] at n
      obtain ⟨xs, hxs⟩ : ∃ xs, ws.map (·.2.2.1) = xs := ⟨_, rfl⟩
      rw [hxs] at n
      have N := Lib.hid n
      clear hown hob h4 n h1 hxl
      rw [hxs]
      clear hxs
      go_wp2_with fail
      refine N.out.mono ?_
      rintro e w1 ⟨v, rfl, ho, b1⟩
      have HO := Lib.hid ho
      have hz := hbw.size
      clear ho
      go_wp2
      go_ret
      exact ⟨_, rfl, own_base HO.out (by omega), below_on hbw b1⟩

end Go.Proofs.Ytoaclofobfaflaa
