/-
  What span's All answers: a function over the objects of the list, which was read when it was made.
-/
import Derived.Test.YtnnmcnbpnfegpaaSpDevEach
import Derived.Test.YtnnmcnbpnfegpaaSpLawWalks
namespace Go.Proofs.Ytnnmcnbpnfegpaa
open Go.RowKit Go.Shelf Fb

/-- The places of a list, in a block from B on. -/
def FarL (B : Nat) (W : World) (D : Option Addr) (L : List (Int × Int)) : Prop :=
  L ≠ [] → ∃ g off, D = some ⟨g, off, none⟩ ∧ B ≤ g ∧ ∀ k, k < L.length → W.cell? ⟨g, off + k * 2, none⟩ = some (.int .i64 (L.getD k (0, 0)).1) ∧ W.cell? ⟨g, off + (k * 2 + 1), none⟩ = some (.int .i64 (L.getD k (0, 0)).2)
theorem FarL.later {B : Nat} {W W' : World} {D : Option Addr} {L : List (Int × Int)} (h : FarL B W D L) (hb : Below W.heap.size W W') : FarL B W' D L := fun hne => by
  obtain ⟨g, off, h1, h2, h3⟩ := h hne
  exact ⟨g, off, h1, h2, fun k hk => ⟨cell_later hb (h3 k hk).1, cell_later hb (h3 k hk).2⟩⟩
theorem own_far {w : World} {base : Nat} {e : TypeId} {v : Value} {L : List (Int × Int)} (h : w.ownsRow base e 2 v L.length (stCells L)) : ∃ D dc, v = .slice D L.length dc ∧ FarL base w D L := by
  by_cases hne : L = []
  · subst hne
    obtain ⟨D, dc, rfl, _⟩ := own_form h
    exact ⟨D, dc, rfl, fun h => absurd rfl h⟩
  · obtain ⟨g, cap, rfl⟩ := own_len h (List.length_pos_iff.2 hne)
    refine ⟨_, _, rfl, fun _ => ⟨g, 0, rfl, (own_base_le h).1, fun k hk => ?_⟩⟩
    obtain ⟨q1, q2⟩ := stCells_get L k hk
    exact ⟨by rw [Nat.zero_add]; exact own_cell_at h q1, by rw [Nat.zero_add]; exact own_cell_at h q2⟩

theorem join_one {w : World} {A : Option Addr} {c : Nat} {l : List (Int × Int)} (h1 : OneL w A c l) (t : TypeId) :
    Calls Try.prog 20 #[.slice (some ⟨w.heap.size, 0, none⟩) 1 1] (w.alloc (.cells #[.slice A l.length c] t)) (GivesS (Sp.ofL (Sp.inL l)) w) := by
  have b0 := below_new (Below.refl w.heap.size w) (.cells #[.slice A l.length c] t)
  rw [← joinS_one l]
  refine (join_any (some ⟨w.heap.size, 0, none⟩) 1 [l] _ (by simp) (by rw [Sp.tot_one]; exact h1.len) (rows_one (Blk.new w t _) (h1.later b0))).mono ?_
  rintro e w' ⟨v, he, ho, hb⟩
  exact ⟨v, he, own_base ho (by simp), below_on b0 hb⟩
theorem setOf_one {w : World} {A : Option Addr} {c : Nat} {l : List (Int × Int)} (h1 : OneL w A c l) (t : TypeId) :
    Calls Try.prog 35 #[.slice (some ⟨w.heap.size, 0, none⟩) 1 1] (w.alloc (.cells #[.slice A l.length c] t)) fun e w' => e = .returned (.agg (Sp.arr (Sp.inL l))) ∧ Below w.heap.size w w' := by
  have b0 := below_new (Below.refl w.heap.size w) (.cells #[.slice A l.length c] t)
  have e0 : Sp.arr (Sp.inL l) = Sp.arr (Sp.anyTo [l] [l].length) := Sp.arr_ext fun o _ => by
    show Sp.inL l o = (false || Sp.inL l o)
    rw [Bool.false_or]
  rw [e0]
  refine (setOf_any (some ⟨w.heap.size, 0, none⟩) 1 [l] _ (by simp) (by rw [Sp.tot_one]; exact h1.len) (rows_one (Blk.new w t _) (h1.later b0))).mono ?_
  rintro e w' ⟨he, hb⟩
  exact ⟨he, below_on b0 hb⟩

/-- A function over the objects of a list is answered. -/
def WalkerS (L : List (Int × Int)) (w : World) (e : Ending) (w1 : World) : Prop :=
  ∃ bc D dc, e = .returned (.func (.func 36) #[] #[.pointer (some ⟨bc, 0, none⟩)]) ∧ w1.cell? ⟨bc, 0, none⟩ = some (.slice D L.length dc) ∧ FarL w.heap.size w1 D L ∧ Below w.heap.size w w1

set_option maxHeartbeats 800000 in
theorem All_any (A : Option Addr) (c : Nat) (l : List (Int × Int)) (w : World) (h : OneL w A c l) :
    Calls Try.prog 31 #[.slice A l.length c] w (WalkerS (Sp.ofL (Sp.inL l)) w) := by
  have H := Lib.hid (fun t => join_one h t)
  clear h
  obtain ⟨L, hL⟩ : ∃ L, Sp.ofL (Sp.inL l) = L := ⟨_, rfl⟩
  rw [hL] at H ⊢
  clear hL
  go_enter Try.func31, Try.ntmps31
  go_wp2_with fail
  refine (H.out _).mono ?_
  rintro e w1 ⟨v, rfl, ho, b1⟩
  obtain ⟨D, dc, rfl, hf⟩ := own_far ho
  have HF := Lib.hid hf
  clear H ho hf
  go_wp2
  go_ret
  exact ⟨w1.heap.size, D, dc, rfl, (Blk.new w1 _ _).cell rfl, HF.out.later (below_new (Below.refl _ _) _), below_new b1 _⟩

theorem enters_eachO : ∀ args w, (callFunc 36 args).run Try.prog w = .ok (.enter 36 args) w :=
  enters_of Try.func36 (by kernel_rfl) rfl

/-- The loop over such a function: with numbers, with objects as the rounds' things. -/
theorem eachO_stops (f : Nat → Bool) (n₀ B bc dc : Nat) (D : Option Addr) (w : World) (hle : B ≤ w.heap.size)
    (hc : w.cell? ⟨bc, 0, none⟩ = some (.slice D (Sp.ofL f).length dc)) (hL : FarL B w D (Sp.ofL f)) :
    SeqStopsK Fence.wide 2 Try.prog 36 #[.pointer (some ⟨bc, 0, none⟩)] told1 (KeepC n₀ B) (· = Sp.obL f) (· <+: Sp.obL f) 256 w := by
  rw [← Sp.comesO_obL f]
  exact fun l J Jx W hW hJ _ hY h0 => eachO_in told1 (fun k => (k : Int)) (fun _ _ => rfl) f 2 (by omega) l n₀ B bc W.heap.size dc D J Jx hJ hY W (cell_later hW hc) (hL.later hW) (Nat.le_trans hle hW.size) h0
theorem walkO_stops (f : Nat → Bool) (n₀ B bc dc : Nat) (D : Option Addr) (w : World) (hle : B ≤ w.heap.size)
    (hc : w.cell? ⟨bc, 0, none⟩ = some (.slice D (Sp.ofL f).length dc)) (hL : FarL B w D (Sp.ofL f)) :
    SeqStopsK Fence.wide 2 Try.prog 36 #[.pointer (some ⟨bc, 0, none⟩)] tellO (KeepC n₀ B) (· = Sp.comesO Sp.objF f 256) (· <+: Sp.comesO Sp.objF f 256) 256 w :=
  fun l J Jx W hW hJ _ hY h0 => eachO_in tellO Sp.objF (fun k hk => by unfold tellO; rw [Sp.objF_val hk]) f 2 (by omega) l n₀ B bc W.heap.size dc D J Jx hJ hY W (cell_later hW hc) (hL.later hW) (Nat.le_trans hle hW.size) h0

theorem spAllSpec : SpAllSpec := by
  unfold SpAllSpec
  intro A c l w0 w h hb
  refine (All_any A c l w (h.later hb)).mono ?_
  rintro e w1 ⟨bc, D, dc, rfl, hc, hf, b1⟩
  exact ⟨_, _, rfl, b1, enters_eachO, eachO_stops (Sp.inL l) w0.heap.size w.heap.size bc dc D w1 b1.size hc hf⟩

end Go.Proofs.Ytnnmcnbpnfegpaa
