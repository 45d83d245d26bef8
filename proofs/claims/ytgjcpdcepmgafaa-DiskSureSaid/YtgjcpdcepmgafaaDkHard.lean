/-
  Files in memory of the call's own, each one's bytes in a block that is theirs alone: what appends find. Nothing of the program is imported.
-/
import Derived.Test.YtgjcpdcepmgafaaDkHalf
namespace Go.Proofs.Ytgjcpdcepmgafaa
open Go.RowKit

/-- A file's bytes: as they are read, and as they lie. -/
structure OwnBS (w : World) (base : Nat) (e : TypeId) (f : Fc) : Prop where
  b : OwnB w base e f
  s : OwnS w base e f
structure HardD (w : World) (base : Nat) (t e : TypeId) (v : Value) (L : List Fc) : Prop where
  own : OwnD w base t e v L
  hard : ∀ f ∈ L, OwnS w base e f
section
variable {w w' : World} {base : Nat} {t e : TypeId} {v : Value} {L : List Fc} {f : Fc}
theorem OwnBS.later (h : OwnBS w base e f) (hb : Below w.heap.size w w') : OwnBS w' base e f := ⟨h.b.later hb, h.s.later hb⟩
theorem OwnBS.lower {base' : Nat} (h : OwnBS w base e f) (hb : base' ≤ base) : OwnBS w base' e f := ⟨h.b.lower hb, h.s.lower hb⟩
theorem OwnBS.zero (w : World) (base : Nat) (e : TypeId) (n : Int) : OwnBS w base e ⟨n, none, 0, [], 0⟩ :=
  ⟨⟨Nat.le_refl _, Nat.zero_le _, (fun _ h => by cases h), (fun _ => ⟨rfl, rfl⟩), (fun a h => by cases h)⟩, ⟨rfl, .inl ⟨rfl, rfl⟩⟩⟩
theorem HardD.later (h : HardD w base t e v L) (hb : Below w.heap.size w w') : HardD w' base t e v L := ⟨h.own.later hb, fun f hf => (h.hard f hf).later hb⟩
theorem HardD.lower {base' : Nat} (h : HardD w base t e v L) (hb : base' ≤ base) : HardD w base' t e v L := ⟨h.own.lower hb, fun f hf => (h.hard f hf).lower hb⟩
theorem HardD.low (h : HardD w base t e v L) {p : Addr} (hp : p.block < base) (u : Value) : HardD (w.setCell p u) base t e v L :=
  ⟨h.own.low hp u, fun f hf => (h.hard f hf).stays fun k hk => Below.heap_setCell _ _ _ _ (by have := ((h.own.each f hf).lt k hk).1; omega)⟩
theorem HardD.nil (w : World) (n0 : Nat) (t e : TypeId) : HardD w n0 t e (.slice none 0 0) [] := ⟨OwnD.nil _ _ _ _, fun _ h => by cases h⟩
/-- A file behind the others, and the slice stored into a block O below. -/
theorem HardD.push {W w2 : World} {n0 O B : Nat} {d t e : TypeId} {room : Int} {V : Option Addr} {cv : Nat} {M : List Fc} {x : Fc} {v2 : Value} (hne : t ≠ e) (h : HardD W n0 t e (.slice V M.length cv) M) (hY : Blk W O d #[.int .i64 room, .slice V M.length cv]) (hO : O < n0)
    (hb : Below W.heap.size W w') (hB : W.heap.size ≤ B) (hn : n0 ≤ B) (ho : OwnBS w' B e x) (hg : w'.grownBy w2 (Value.ownBlock (.slice V M.length cv)))
    (h2 : w2.ownsRow n0 t 3 v2 (M.length + 1) (fCells M ++ fCells [x])) :
    HardD (w2.setCell ⟨O, 1, none⟩ v2) n0 t e v2 (M ++ [x]) ∧ Blk (w2.setCell ⟨O, 1, none⟩ v2) O d #[.int .i64 room, v2] ∧ w2.cell? ⟨O, 1, none⟩ = some (.slice V M.length cv) ∧ w2.frozen? ⟨O, 1, none⟩ = false ∧
      (∀ k, k < n0 → k ≠ O → k < w'.heap.size → (w2.setCell ⟨O, 1, none⟩ v2).heap[k]? = w'.heap[k]?) ∧ (∀ k, Value.ownBlock (.slice V M.length cv) = some k → n0 ≤ k) ∧ w'.heap.size ≤ (w2.setCell ⟨O, 1, none⟩ v2).heap.size := by
  have hL := h.later hb
  have hge := own_ge hL.own.row
  have hs := hb.size
  have hsn := OwnD.snoc hne hL.own hn (fun f hf q hq => Nat.lt_of_lt_of_le (h.own.blk_lt f hf q hq) hB) ho.b hg h2
  have keepS : ∀ {q : Nat} {f : Fc}, OwnB w' q e f → OwnS w' q e f → OwnS w2 q e f := fun {q f} hf hs => hs.stays fun k hk => hg.block k (hf.lt k hk).2 (fun ek => by
    have hr := hL.own.row
    rcases hr.2 with ⟨hv, _⟩ | ⟨g, cap, cur, hv, _⟩
    · rw [hv] at ek; cases ek
    · rw [hv] at ek hr
      have : f.blk = some g := by rw [hk]; exact ek
      exact hf.off_row hr hne this)
  have hlt : O < w'.heap.size := by have := hY.lt; omega
  have eO : w2.heap[O]? = w'.heap[O]? := hg.block O hlt (fun e => by have := hge O e.symm; omega)
  have Y2 : Blk w2 O d #[.int .i64 room, .slice V M.length cv] := eO.trans (hY.later hb)
  have hH : HardD w2 n0 t e v2 (M ++ [x]) := ⟨hsn, fun f hf => by
    rcases List.mem_append.1 hf with hf | hf
    · exact keepS (hL.own.each f hf) (hL.hard f hf)
    · simp at hf
      subst hf
      exact (keepS ho.b ho.s).lower hn⟩
  refine ⟨hH.low (by exact hO) _, Y2.put 1 v2, Y2.cell (i := 1) rfl, Y2.free 1, fun k hk hkO hkl => ?_, hge, by simpa using hg.size⟩
  exact (Below.heap_setCell _ _ _ _ hkO).trans (hg.block k hkl (fun e => by have := hge k e.symm; omega))
/-- One file's bytes are laid anew, in their own block or in a new one. -/
theorem OwnD.upd2 {w w' : World} {n0 g N cap i : Nat} {t e : TypeId} {L : List Fc} {f f' : Fc} (hne : t ≠ e) (h : OwnD w n0 t e (.slice (some ⟨g, 0, none⟩) N cap) L) (hN : L.length = N) (hf : L[i]? = some f)
    (row : w'.ownsRow n0 t 3 (.slice (some ⟨g, 0, none⟩) N cap) N (fCells (L.set i f'))) (own : OwnB w' n0 e f') (blk : f'.blk = f.blk ∨ ∀ b, f'.blk = some b → w.heap.size ≤ b) (rest : ∀ b, n0 ≤ b → b < w.heap.size → b ≠ g → f.blk ≠ some b → w'.heap[b]? = w.heap[b]?) : OwnD w' n0 t e (.slice (some ⟨g, 0, none⟩) N cap) (L.set i f') := by
  have hi : i < L.length := (List.getElem?_eq_some_iff.1 hf).1
  have hrow : w.ownsRow n0 t 3 (.slice (some ⟨g, 0, none⟩) N cap) L.length (fCells L) := h.row
  have ap : ∀ (j : Nat) (x : Fc) (b : Nat), j ≠ i → L[j]? = some x → x.blk = some b → f.blk ≠ some b := fun j x b hj hx hb => by
    rcases Nat.lt_or_gt_of_ne hj with h1 | h1
    · exact h.apart j i x f b h1 hx hf hb
    · intro h2
      exact h.apart i j f x b h1 hf hx h2 hb
  have ap' : ∀ (j : Nat) (x : Fc) (b : Nat), j ≠ i → L[j]? = some x → x.blk = some b → f'.blk ≠ some b := fun j x b hj hx hb => by
    rcases blk with h1 | h1
    · rw [h1]; exact ap j x b hj hx hb
    · intro h2
      have h3 := h1 b h2
      have h4 := ((h.each x (List.mem_of_getElem? hx)).lt b hb).2
      omega
  refine ⟨by rw [List.length_set, hN]; exact row, fun x hx => ?_, fun j k x y b hjk hx hy hxb => ?_⟩
  · obtain ⟨j, hj⟩ := List.getElem?_of_mem hx
    by_cases ej : j = i
    · subst ej
      rw [List.getElem?_set_self hi] at hj
      cases hj
      exact own
    · rw [List.getElem?_set_ne (fun e2 => ej e2.symm)] at hj
      have hO := h.each x (List.mem_of_getElem? hj)
      refine hO.stays fun b hb => rest b (hO.lt b hb).1 (hO.lt b hb).2 (fun e2 => ?_) (ap j x b ej hj hb)
      subst e2
      subst hN
      exact hO.off_row hrow hne hb
  · by_cases e1 : j = i
    · subst e1
      rw [List.getElem?_set_self hi] at hx
      cases hx
      rw [List.getElem?_set_ne (by omega)] at hy
      intro hyb
      exact ap' k y b (by omega) hy hyb hxb
    · rw [List.getElem?_set_ne (fun e2 => e1 e2.symm)] at hx
      by_cases e2 : k = i
      · subst e2
        rw [List.getElem?_set_self hi] at hy
        cases hy
        exact ap' j x b e1 hx hxb
      · rw [List.getElem?_set_ne (fun e3 => e2 e3.symm)] at hy
        exact h.apart j k x y b hjk hx hy hxb
/-- Blocks of different kinds are different ones. -/
theorem OwnD.off {O d : Nat} {cs : Array Value} {g N cap : Nat} (h : OwnD w base t e (.slice (some ⟨g, 0, none⟩) N cap) L) (hY : Blk w O d cs) (hd : d ≠ t) : O ≠ g := by
  intro e2
  subst e2
  rcases h.row.2 with ⟨h2, _⟩ | ⟨g', cap', cur', h2, _, h3, _⟩
  · cases h2
  · injection h2 with h2
    injection h2 with h2
    injection h2 with h2
    subst h2
    have h1 := hY
    unfold Blk at h1
    rw [h1] at h3
    injection h3 with h3
    injection h3 with _ h3
    exact hd h3
theorem OwnB.off {O d : Nat} {cs : Array Value} (h : OwnB w base e f) (hY : Blk w O d cs) (hd : d ≠ e) : f.blk ≠ some O := by
  intro hb
  unfold Fc.blk at hb
  cases hX : f.X with
  | none => rw [hX] at hb; cases hb
  | some a =>
    obtain ⟨b, cur, rfl, _, h3, _⟩ := h.at_ a hX
    rw [hX] at hb
    injection hb with hb
    have hb2 : b = O := hb
    subst hb2
    have h1 := hY
    unfold Blk at h1 h3
    rw [h1] at h3
    injection h3 with h3
    injection h3 with _ h3
    exact hd h3
theorem OwnD.oneD {V : Option Addr} {N cv : Nat} (h : OwnD w base t e (.slice V N cv) L) : OneD w V cv L := by
  obtain ⟨A, c, h1, h2⟩ := h.one
  injection h1 with h1 _ h3
  subst h1 h3
  exact h2
/-- Bytes behind a file's: the slice grown, and stored into the file. -/
theorem HardD.app {W w2 : World} {n0 g N cap i : Nat} {t e : TypeId} {M : List Fc} {x : Fc} {b : List Int} {X2 : Option Addr} {c2 : Nat} (hne : t ≠ e) (hN : M.length = N) (h : HardD W n0 t e (.slice (some ⟨g, 0, none⟩) N cap) M) (hx : M[i]? = some x) (hbb : ∀ y ∈ b, isB y)
    (hc : W.cell? ⟨g, i * 3 + 1, none⟩ = some (.slice x.X x.l.length x.c)) (hfz : W.frozen? ⟨g, i * 3 + 1, none⟩ = false)
    (put : ∀ {w' : World} (l : List Int) (X : Option Addr) (c : Nat), w'.ownsRow n0 t 3 (.slice (some ⟨g, 0, none⟩) N cap) N (fCells M) → (w'.setCell ⟨g, i * 3 + 1, none⟩ (.slice X l.length c)).ownsRow n0 t 3 (.slice (some ⟨g, 0, none⟩) N cap) N (fCells (M.set i { x with X := X, c := c, l := l })))
    (ho2 : w2.ownsRow n0 e 1 (.slice X2 (x.l.length + b.length) c2) (x.l.length + b.length) (bCells x.l ++ bCells b)) (hg2 : W.grownBy w2 (Value.ownBlock (.slice x.X x.l.length x.c)))
    (hblk : Value.ownBlock (.slice X2 (x.l.length + b.length) c2) = Value.ownBlock (.slice x.X x.l.length x.c) ∨ Value.ownBlock (.slice X2 (x.l.length + b.length) c2) = some W.heap.size) :
    w2.cell? ⟨g, i * 3 + 1, none⟩ = some (.slice x.X x.l.length x.c) ∧ w2.frozen? ⟨g, i * 3 + 1, none⟩ = false ∧
      OwnD (w2.setCell ⟨g, i * 3 + 1, none⟩ (.slice X2 (x.l.length + b.length) c2)) n0 t e (.slice (some ⟨g, 0, none⟩) N cap) (M.set i { x with X := X2, c := c2, l := x.l ++ b }) ∧
      (∀ k, k < W.heap.size → k ≠ g → x.blk ≠ some k → (w2.setCell ⟨g, i * 3 + 1, none⟩ (.slice X2 (x.l.length + b.length) c2)).heap[k]? = W.heap[k]?) ∧
      (∀ q, q ≤ n0 → Below q W (w2.setCell ⟨g, i * 3 + 1, none⟩ (.slice X2 (x.l.length + b.length) c2))) := by
  subst hN
  have ho := h.own.each x (List.mem_of_getElem? hx)
  have hr := h.own.row
  have hg := own_base_le hr
  have hng : x.blk ≠ some g := ho.off_row hr hne
  rw [sl_blk x] at hg2 hblk
  have hgb : w2.heap[g]? = W.heap[g]? := hg2.block g hg.2 (fun e => hng e.symm)
  rw [← bCells_append, ← List.length_append] at ho2
  rw [← List.length_append] at hblk ⊢
  have r2 : w2.ownsRow n0 t 3 (.slice (some ⟨g, 0, none⟩) M.length cap) M.length (fCells M) := own_stays hr (fun k hk => by
    have : g = k := by injection hk
    subst this
    exact hgb)
  have ob := OwnB.of_own (f := { x with X := X2, c := c2, l := x.l ++ b }) ho2 (fun y hy => (List.mem_append.1 hy).elim (ho.byte y) (hbb y))
  have hblk2 : ({ x with X := X2, c := c2, l := x.l ++ b } : Fc).blk = x.blk ∨ ({ x with X := X2, c := c2, l := x.l ++ b } : Fc).blk = some W.heap.size := by
    have := sl_blk { x with X := X2, c := c2, l := x.l ++ b }
    dsimp only at this
    rw [← this]
    exact hblk
  have rest : ∀ k, k < W.heap.size → k ≠ g → x.blk ≠ some k → (w2.setCell ⟨g, i * 3 + 1, none⟩ (.slice X2 (x.l ++ b).length c2)).heap[k]? = W.heap[k]? := fun k h2 h3 h4 =>
    (Below.heap_setCell _ _ _ _ h3).trans (hg2.block k h2 (fun e => h4 e.symm))
  refine ⟨(World.cell?_of_block (w := W) (a := ⟨g, i * 3 + 1, none⟩) hgb).trans hc, (World.frozen?_of_block (w := W) (a := ⟨g, i * 3 + 1, none⟩) hgb).trans hfz, ?_, rest, fun q hq => ?_⟩
  · exact h.own.upd2 hne rfl hx (put (x.l ++ b) X2 c2 r2) (ob.far (p := ⟨g, i * 3 + 1, none⟩) (ob.off_row r2 hne) _) (hblk2.imp id (fun h k hk => by rw [h] at hk; injection hk with hk; omega)) (fun k _ h2 h3 h4 => rest k h2 h3 h4)
  · exact ((Below.refl q W).grown hg2 (by omega) (fun k hk => by have := (ho.lt k hk).1; omega)).setCell (by show q ≤ g; omega) _
end
end Go.Proofs.Ytgjcpdcepmgafaa
