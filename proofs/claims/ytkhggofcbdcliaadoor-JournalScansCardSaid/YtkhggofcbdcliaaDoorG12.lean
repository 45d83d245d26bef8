/-
  Files in memory of the call's own, each one's bytes in a block that is theirs alone: what appends find. Nothing of the program is imported.
  What telltaleref08's Copy answers.
  What telltaleref08's Get and Sync answer.
  What disk's Crash answers.
-/
import Derived.Test.YtkhggofcbdcliaaDoorG06
import Derived.Test.YtkhggofcbdcliaaDoorG07
import Derived.Test.YtkhggofcbdcliaaDoorG11
import Derived.Laws.BitsLemmas
namespace Go.Proofs.YtkhggofcbdcliaaDoor
open Go.RowKit

/-- A file's bytes: as they are read, and as they lie. -/
structure OwnBS (w : World) (base : Nat) (e : TypeId) (f : Fc) : Prop where
  b : OwnB w base e f
  s : OwnS w base e f
structure HardD (w : World) (base : Nat) (t e : TypeId) (v : Value) (L : List Fc) : Prop where
  own : OwnD w base t e v L
  hard : ∀ f ∈ L, OwnS w base e f
section
variable {w w' : World} {base : Nat} {t e : TypeId} {v : Value} {L : List Fc} {f : Fc}
theorem OwnBS.later (h : OwnBS w base e f) (hb : Below w.heap.size w w') : OwnBS w' base e f := ⟨h.b.later hb, h.s.later hb⟩
theorem OwnBS.lower {base' : Nat} (h : OwnBS w base e f) (hb : base' ≤ base) : OwnBS w base' e f := ⟨h.b.lower hb, h.s.lower hb⟩
theorem OwnBS.zero (w : World) (base : Nat) (e : TypeId) (n : Int) : OwnBS w base e ⟨n, none, 0, [], 0⟩ :=
  ⟨⟨Nat.le_refl _, Nat.zero_le _, (fun _ h => by cases h), (fun _ => ⟨rfl, rfl⟩), (fun a h => by cases h)⟩, ⟨rfl, .inl ⟨rfl, rfl⟩⟩⟩
theorem HardD.later (h : HardD w base t e v L) (hb : Below w.heap.size w w') : HardD w' base t e v L := ⟨h.own.later hb, fun f hf => (h.hard f hf).later hb⟩
theorem HardD.lower {base' : Nat} (h : HardD w base t e v L) (hb : base' ≤ base) : HardD w base' t e v L := ⟨h.own.lower hb, fun f hf => (h.hard f hf).lower hb⟩
theorem HardD.low (h : HardD w base t e v L) {p : Addr} (hp : p.block < base) (u : Value) : HardD (w.setCell p u) base t e v L :=
  ⟨h.own.low hp u, fun f hf => (h.hard f hf).stays fun k hk => Below.heap_setCell _ _ _ _ (by have := ((h.own.each f hf).lt k hk).1; omega)⟩
theorem HardD.nil (w : World) (n0 : Nat) (t e : TypeId) : HardD w n0 t e (.slice none 0 0) [] := ⟨OwnD.nil _ _ _ _, fun _ h => by cases h⟩
/-- A file behind the others, and the slice stored into a block O below. -/
theorem HardD.push {W w2 : World} {n0 O B : Nat} {d t e : TypeId} {room : Int} {V : Option Addr} {cv : Nat} {M : List Fc} {x : Fc} {v2 : Value} (hne : t ≠ e) (h : HardD W n0 t e (.slice V M.length cv) M) (hY : Blk W O d #[.int .i64 room, .slice V M.length cv]) (hO : O < n0)
    (hb : Below W.heap.size W w') (hB : W.heap.size ≤ B) (hn : n0 ≤ B) (ho : OwnBS w' B e x) (hg : w'.grownBy w2 (Value.ownBlock (.slice V M.length cv)))
    (h2 : w2.ownsRow n0 t 3 v2 (M.length + 1) (fCells M ++ fCells [x])) :
    HardD (w2.setCell ⟨O, 1, none⟩ v2) n0 t e v2 (M ++ [x]) ∧ Blk (w2.setCell ⟨O, 1, none⟩ v2) O d #[.int .i64 room, v2] ∧ w2.cell? ⟨O, 1, none⟩ = some (.slice V M.length cv) ∧ w2.frozen? ⟨O, 1, none⟩ = false ∧
      (∀ k, k < n0 → k ≠ O → k < w'.heap.size → (w2.setCell ⟨O, 1, none⟩ v2).heap[k]? = w'.heap[k]?) ∧ (∀ k, Value.ownBlock (.slice V M.length cv) = some k → n0 ≤ k) ∧ w'.heap.size ≤ (w2.setCell ⟨O, 1, none⟩ v2).heap.size := by
  have hL := h.later hb
  have hge := own_ge hL.own.row
  have hs := hb.size
  have hsn := OwnD.snoc hne hL.own hn (fun f hf q hq => Nat.lt_of_lt_of_le (h.own.blk_lt f hf q hq) hB) ho.b hg h2
  have keepS : ∀ {q : Nat} {f : Fc}, OwnB w' q e f → OwnS w' q e f → OwnS w2 q e f := fun {q f} hf hs => hs.stays fun k hk => hg.block k (hf.lt k hk).2 (fun ek => by
    have hr := hL.own.row
    rcases hr.2 with ⟨hv, _⟩ | ⟨g, cap, cur, hv, _⟩
    · rw [hv] at ek; cases ek
    · rw [hv] at ek hr
      have : f.blk = some g := by rw [hk]; exact ek
      exact hf.off_row hr hne this)
  have hlt : O < w'.heap.size := by have := hY.lt; omega
  have eO : w2.heap[O]? = w'.heap[O]? := hg.block O hlt (fun e => by have := hge O e.symm; omega)
  have Y2 : Blk w2 O d #[.int .i64 room, .slice V M.length cv] := eO.trans (hY.later hb)
  have hH : HardD w2 n0 t e v2 (M ++ [x]) := ⟨hsn, fun f hf => by
    rcases List.mem_append.1 hf with hf | hf
    · exact keepS (hL.own.each f hf) (hL.hard f hf)
    · simp at hf
      subst hf
      exact (keepS ho.b ho.s).lower hn⟩
  refine ⟨hH.low (by exact hO) _, Y2.put 1 v2, Y2.cell (i := 1) rfl, Y2.free 1, fun k hk hkO hkl => ?_, hge, by simpa using hg.size⟩
  exact (Below.heap_setCell _ _ _ _ hkO).trans (hg.block k hkl (fun e => by have := hge k e.symm; omega))
/-- One file's bytes are laid anew, in their own block or in a new one. -/
theorem OwnD.upd2 {w w' : World} {n0 g N cap i : Nat} {t e : TypeId} {L : List Fc} {f f' : Fc} (hne : t ≠ e) (h : OwnD w n0 t e (.slice (some ⟨g, 0, none⟩) N cap) L) (hN : L.length = N) (hf : L[i]? = some f)
    (row : w'.ownsRow n0 t 3 (.slice (some ⟨g, 0, none⟩) N cap) N (fCells (L.set i f'))) (own : OwnB w' n0 e f') (blk : f'.blk = f.blk ∨ ∀ b, f'.blk = some b → w.heap.size ≤ b) (rest : ∀ b, n0 ≤ b → b < w.heap.size → b ≠ g → f.blk ≠ some b → w'.heap[b]? = w.heap[b]?) : OwnD w' n0 t e (.slice (some ⟨g, 0, none⟩) N cap) (L.set i f') := by
  have hi : i < L.length := (List.getElem?_eq_some_iff.1 hf).1
  have hrow : w.ownsRow n0 t 3 (.slice (some ⟨g, 0, none⟩) N cap) L.length (fCells L) := h.row
  have ap : ∀ (j : Nat) (x : Fc) (b : Nat), j ≠ i → L[j]? = some x → x.blk = some b → f.blk ≠ some b := fun j x b hj hx hb => by
    rcases Nat.lt_or_gt_of_ne hj with h1 | h1
    · exact h.apart j i x f b h1 hx hf hb
    · intro h2
      exact h.apart i j f x b h1 hf hx h2 hb
  have ap' : ∀ (j : Nat) (x : Fc) (b : Nat), j ≠ i → L[j]? = some x → x.blk = some b → f'.blk ≠ some b := fun j x b hj hx hb => by
    rcases blk with h1 | h1
    · rw [h1]; exact ap j x b hj hx hb
    · intro h2
      have h3 := h1 b h2
      have h4 := ((h.each x (List.mem_of_getElem? hx)).lt b hb).2
      omega
  refine ⟨by rw [List.length_set, hN]; exact row, fun x hx => ?_, fun j k x y b hjk hx hy hxb => ?_⟩
  · obtain ⟨j, hj⟩ := List.getElem?_of_mem hx
    by_cases ej : j = i
    · subst ej
      rw [List.getElem?_set_self hi] at hj
      cases hj
      exact own
    · rw [List.getElem?_set_ne (fun e2 => ej e2.symm)] at hj
      have hO := h.each x (List.mem_of_getElem? hj)
      refine hO.stays fun b hb => rest b (hO.lt b hb).1 (hO.lt b hb).2 (fun e2 => ?_) (ap j x b ej hj hb)
      subst e2
      subst hN
      exact hO.off_row hrow hne hb
  · by_cases e1 : j = i
    · subst e1
      rw [List.getElem?_set_self hi] at hx
      cases hx
      rw [List.getElem?_set_ne (by omega)] at hy
      intro hyb
      exact ap' k y b (by omega) hy hyb hxb
    · rw [List.getElem?_set_ne (fun e2 => e1 e2.symm)] at hx
      by_cases e2 : k = i
      · subst e2
        rw [List.getElem?_set_self hi] at hy
        cases hy
        exact ap' j x b e1 hx hxb
      · rw [List.getElem?_set_ne (fun e3 => e2 e3.symm)] at hy
        exact h.apart j k x y b hjk hx hy hxb
/-- Blocks of different kinds are different ones. -/
theorem OwnD.off {O d : Nat} {cs : Array Value} {g N cap : Nat} (h : OwnD w base t e (.slice (some ⟨g, 0, none⟩) N cap) L) (hY : Blk w O d cs) (hd : d ≠ t) : O ≠ g := by
  intro e2
  subst e2
  rcases h.row.2 with ⟨h2, _⟩ | ⟨g', cap', cur', h2, _, h3, _⟩
  · cases h2
  · injection h2 with h2
    injection h2 with h2
    injection h2 with h2
    subst h2
    have h1 := hY
    unfold Blk at h1
    rw [h1] at h3
    injection h3 with h3
    injection h3 with _ h3
    exact hd h3
theorem OwnB.off {O d : Nat} {cs : Array Value} (h : OwnB w base e f) (hY : Blk w O d cs) (hd : d ≠ e) : f.blk ≠ some O := by
  intro hb
  unfold Fc.blk at hb
  cases hX : f.X with
  | none => rw [hX] at hb; cases hb
  | some a =>
    obtain ⟨b, cur, rfl, _, h3, _⟩ := h.at_ a hX
    rw [hX] at hb
    injection hb with hb
    have hb2 : b = O := hb
    subst hb2
    have h1 := hY
    unfold Blk at h1 h3
    rw [h1] at h3
    injection h3 with h3
    injection h3 with _ h3
    exact hd h3
theorem OwnD.oneD {V : Option Addr} {N cv : Nat} (h : OwnD w base t e (.slice V N cv) L) : OneD w V cv L := by
  obtain ⟨A, c, h1, h2⟩ := h.one
  injection h1 with h1 _ h3
  subst h1 h3
  exact h2
/-- Bytes behind a file's: the slice grown, and stored into the file. -/
theorem HardD.app {W w2 : World} {n0 g N cap i : Nat} {t e : TypeId} {M : List Fc} {x : Fc} {b : List Int} {X2 : Option Addr} {c2 : Nat} (hne : t ≠ e) (hN : M.length = N) (h : HardD W n0 t e (.slice (some ⟨g, 0, none⟩) N cap) M) (hx : M[i]? = some x) (hbb : ∀ y ∈ b, isB y)
    (hc : W.cell? ⟨g, i * 3 + 1, none⟩ = some (.slice x.X x.l.length x.c)) (hfz : W.frozen? ⟨g, i * 3 + 1, none⟩ = false)
    (put : ∀ {w' : World} (l : List Int) (X : Option Addr) (c : Nat), w'.ownsRow n0 t 3 (.slice (some ⟨g, 0, none⟩) N cap) N (fCells M) → (w'.setCell ⟨g, i * 3 + 1, none⟩ (.slice X l.length c)).ownsRow n0 t 3 (.slice (some ⟨g, 0, none⟩) N cap) N (fCells (M.set i { x with X := X, c := c, l := l })))
    (ho2 : w2.ownsRow n0 e 1 (.slice X2 (x.l.length + b.length) c2) (x.l.length + b.length) (bCells x.l ++ bCells b)) (hg2 : W.grownBy w2 (Value.ownBlock (.slice x.X x.l.length x.c)))
    (hblk : Value.ownBlock (.slice X2 (x.l.length + b.length) c2) = Value.ownBlock (.slice x.X x.l.length x.c) ∨ Value.ownBlock (.slice X2 (x.l.length + b.length) c2) = some W.heap.size) :
    w2.cell? ⟨g, i * 3 + 1, none⟩ = some (.slice x.X x.l.length x.c) ∧ w2.frozen? ⟨g, i * 3 + 1, none⟩ = false ∧
      OwnD (w2.setCell ⟨g, i * 3 + 1, none⟩ (.slice X2 (x.l.length + b.length) c2)) n0 t e (.slice (some ⟨g, 0, none⟩) N cap) (M.set i { x with X := X2, c := c2, l := x.l ++ b }) ∧
      (∀ k, k < W.heap.size → k ≠ g → x.blk ≠ some k → (w2.setCell ⟨g, i * 3 + 1, none⟩ (.slice X2 (x.l.length + b.length) c2)).heap[k]? = W.heap[k]?) ∧
      (∀ q, q ≤ n0 → Below q W (w2.setCell ⟨g, i * 3 + 1, none⟩ (.slice X2 (x.l.length + b.length) c2))) := by
  subst hN
  have ho := h.own.each x (List.mem_of_getElem? hx)
  have hr := h.own.row
  have hg := own_base_le hr
  have hng : x.blk ≠ some g := ho.off_row hr hne
  rw [sl_blk x] at hg2 hblk
  have hgb : w2.heap[g]? = W.heap[g]? := hg2.block g hg.2 (fun e => hng e.symm)
  rw [← bCells_append, ← List.length_append] at ho2
  rw [← List.length_append] at hblk ⊢
  have r2 : w2.ownsRow n0 t 3 (.slice (some ⟨g, 0, none⟩) M.length cap) M.length (fCells M) := own_stays hr (fun k hk => by
    have : g = k := by injection hk
    subst this
    exact hgb)
  have ob := OwnB.of_own (f := { x with X := X2, c := c2, l := x.l ++ b }) ho2 (fun y hy => (List.mem_append.1 hy).elim (ho.byte y) (hbb y))
  have hblk2 : ({ x with X := X2, c := c2, l := x.l ++ b } : Fc).blk = x.blk ∨ ({ x with X := X2, c := c2, l := x.l ++ b } : Fc).blk = some W.heap.size := by
    have := sl_blk { x with X := X2, c := c2, l := x.l ++ b }
    dsimp only at this
    rw [← this]
    exact hblk
  have rest : ∀ k, k < W.heap.size → k ≠ g → x.blk ≠ some k → (w2.setCell ⟨g, i * 3 + 1, none⟩ (.slice X2 (x.l ++ b).length c2)).heap[k]? = W.heap[k]? := fun k h2 h3 h4 =>
    (Below.heap_setCell _ _ _ _ h3).trans (hg2.block k h2 (fun e => h4 e.symm))
  refine ⟨(World.cell?_of_block (w := W) (a := ⟨g, i * 3 + 1, none⟩) hgb).trans hc, (World.frozen?_of_block (w := W) (a := ⟨g, i * 3 + 1, none⟩) hgb).trans hfz, ?_, rest, fun q hq => ?_⟩
  · exact h.own.upd2 hne rfl hx (put (x.l ++ b) X2 c2 r2) (ob.far (p := ⟨g, i * 3 + 1, none⟩) (ob.off_row r2 hne) _) (hblk2.imp id (fun h k hk => by rw [h] at hk; injection hk with hk; omega)) (fun k _ h2 h3 h4 => rest k h2 h3 h4)
  · exact ((Below.refl q W).grown hg2 (by omega) (fun k hk => by have := (ho.lt k hk).1; omega)).setCell (by show q ≤ g; omega) _
end
end Go.Proofs.YtkhggofcbdcliaaDoor
namespace Go.Proofs.YtkhggofcbdcliaaDoor
open Go.RowKit

/-- A disk is answered, in memory of the call's own, each file's bytes in a block of theirs alone. -/
def GivesDH (room : Int) (fs : List Fi) (w : World) (e : Ending) (w' : World) : Prop :=
  ∃ v L, e = .returned (.agg #[.int .i64 room, v]) ∧ HardD w' w.heap.size 50 5 v L ∧ L.map Fc.fi = fs ∧ Below w.heap.size w w'

set_option maxRecDepth 100000 in
set_option maxHeartbeats 3200000 in
theorem rcopyDS_any (room : Int) (A : Option Addr) (c : Nat) (L : List Fc) (w : World) (h : OneD w A c L) (hf : Fit L) :
    Calls Tryd.prog 9 #[.agg #[.int .i64 room, .slice A L.length c]] w (GivesDH room (L.map Fc.fi) w) := by
  have hlen := hf.n
  obtain ⟨i0, hI, hz0, hz1, hz2⟩ := info_parts infoFi
  have hB := ((Blk.new w 24 #[.int .i64 room, .slice A L.length c]).alloc (.cells #[.int .i64 0, .slice none 0 0] 24)).alloc (.cells #[.int .i64 room, .slice none 0 0] 24)
  have hB1 := ((Blk.new (w.alloc (.cells #[.int .i64 room, .slice A L.length c] 24)) 24 #[.int .i64 0, .slice none 0 0])).alloc (.cells #[.int .i64 room, .slice none 0 0] 24)
  have hB2 := Blk.new ((w.alloc (.cells #[.int .i64 room, .slice A L.length c] 24)).alloc (.cells #[.int .i64 0, .slice none 0 0] 24)) 24 #[.int .i64 room, .slice none 0 0]
  have b0 := below_new (below_new (below_new (Below.refl w.heap.size w) (.cells #[.int .i64 room, .slice A L.length c] 24)) (.cells #[.int .i64 0, .slice none 0 0] 24)) (.cells #[.int .i64 room, .slice none 0 0] 24)
  have HB := Lib.hid hB
  have HB1 := Lib.hid (show Blk _ (w.heap.size + 1) 24 #[.int .i64 0, .slice none 0 0] from by simpa using hB1)
  have HB2 := Lib.hid (show Blk _ (w.heap.size + 1 + 1) 24 #[.int .i64 room, .slice none 0 0] from by simpa using hB2)
  have B0 := Lib.hid b0
  have HD := Lib.hid h
  have HF := Lib.hid hf.each
  clear h hf hB hB1 hB2 b0
  go_enter Tryd.func9, Tryd.ntmps9
  go_wp2_with fail
  go_loopw [4] (fun s4 wr => ∃ (k : Nat) (v : Value) (M : List Fc), k ≤ L.length ∧ s4 = .int .i64 (k : Int) ∧ HardD wr (w.heap.size + 3) 50 5 v M ∧ M.map Fc.fi = (L.take k).map Fc.fi ∧ M.length = k ∧ Blk wr w.heap.size 24 #[.int .i64 room, .slice A L.length c] ∧ Blk wr (w.heap.size + 1) 24 #[.int .i64 0, .slice none 0 0] ∧ Blk wr (w.heap.size + 1 + 1) 24 #[.int .i64 room, v] ∧ Below w.heap.size w wr) (fun s4 _ => L.length - (intOf s4).toNat)
  case atStart => exact ⟨0, _, [], Nat.zero_le _, rfl, HardD.nil _ _ _ _, rfl, rfl, HB.out, HB1.out, HB2.out, B0.out⟩
  case round =>
    obtain ⟨k, v, M, hk, rfl, hO, hfi, hMl, hD0, hD1, hD2, hbw⟩ := hrel
    obtain ⟨V, cv, rfl, -, hcm, -, -⟩ := own_form hO.own.row
    unfold maxLen at hcm
    have d01 := hD0.cell (i := 1) rfl
    have d21 := hD2.cell (i := 1) rfl
    have f21 := hD2.free 1
    by_cases hlt : k < L.length
    · have hne : L ≠ [] := fun e => by subst e; simp at hlt
      obtain ⟨b, off, hA, hc⟩ := (HD.out.later hbw).at hne
      obtain ⟨x, hx⟩ : ∃ x, L[k]? = some x := ⟨L[k], List.getElem?_eq_getElem hlt⟩
      obtain ⟨e0, e1, e2⟩ := hc k x hx
      subst hA
      have hi0 : (0 : Int) ≤ (k : Int) := by omega
      have hi1 : (k : Int) < (L.length : Int) := by omega
      obtain ⟨W1, hW1⟩ : ∃ W1, wr.alloc (.cells #[.int .i64 x.num, .slice x.X x.l.length x.c, .int .i64 x.s] 50) = W1 := ⟨_, rfl⟩
      have hb1 : Below wr.heap.size wr W1 := by rw [← hW1]; exact below_new (Below.refl _ _) _
      have hB1 : Blk W1 wr.heap.size 50 #[.int .i64 x.num, .slice x.X x.l.length x.c, .int .i64 x.s] := by rw [← hW1]; exact Blk.new wr _ _
      have hxo := ((HD.out.later hbw).later hb1).one hx
      have hxl := HF.out x (List.mem_of_getElem? hx)
      have x0 := Lib.hid (hB1.cell (i := 0) rfl)
      have x1 := Lib.hid (hB1.cell (i := 1) rfl)
      have x2 := Lib.hid (hB1.cell (i := 2) rfl)
      have y1 := Lib.hid (cell_later hb1 d21)
      have HW1 := Lib.hid hW1
      have HX := Lib.hid hx
      have XO := Lib.hid hxo
      have BB := Lib.hid hb1
      have HO := Lib.hid hO
      have HFI := Lib.hid hfi
      have D0 := Lib.hid hD0
      have D1 := Lib.hid hD1
      have D2 := Lib.hid hD2
      have HM := Lib.hid hMl
      clear hx hc hne hxo hb1 hB1 hW1 hO hfi hD0 hD1 hD2 hMl
      have PUSH := Lib.hid (fun (w' : World) (X' : Option Addr) (c' : Nat) (hb : Below W1.heap.size W1 w') (ho : OwnBS w' W1.heap.size 5 { x with X := X', c := c' }) (v2 : Value) (w2 : World) (hg : w'.grownBy w2 (Value.ownBlock (.slice V M.length cv)))
          (h2 : w2.ownsRow (w.heap.size + 3) 50 3 v2 (M.length + 1) (fCells M ++ [.int .i64 x.num, .slice X' x.l.length c', .int .i64 x.s])) =>
        (show HardD (w2.setCell ⟨w.heap.size + 1 + 1, 1, none⟩ v2) (w.heap.size + 3) 50 5 v2 (M ++ [{ x with X := X', c := c' }]) ∧ Blk (w2.setCell ⟨w.heap.size + 1 + 1, 1, none⟩ v2) w.heap.size 24 #[.int .i64 room, .slice (some ⟨b, off, none⟩) L.length c] ∧ Blk (w2.setCell ⟨w.heap.size + 1 + 1, 1, none⟩ v2) (w.heap.size + 1) 24 #[.int .i64 0, .slice none 0 0] ∧ Blk (w2.setCell ⟨w.heap.size + 1 + 1, 1, none⟩ v2) (w.heap.size + 1 + 1) 24 #[.int .i64 room, v2] ∧ Below w.heap.size w (w2.setCell ⟨w.heap.size + 1 + 1, 1, none⟩ v2) ∧ w2.cell? ⟨w.heap.size + 1 + 1, 1, none⟩ = some (.slice V M.length cv) ∧ w2.frozen? ⟨w.heap.size + 1 + 1, 1, none⟩ = false from by
          have bb := below_on BB.out hb
          have hs := bb.size
          have hs0 := BB.out.size
          have hs1 := hb.size
          have hD2lt := D2.out.lt
          obtain ⟨p1, p2, p3, p4, p5, p6, -⟩ := HardD.push (W := wr) (w' := w') (x := { x with X := X', c := c' }) (B := W1.heap.size) (by decide) HO.out D2.out (by omega) bb hs0 (by omega) ho hg h2
          have hge := p6
          refine ⟨p1, (p5 _ (by omega) (by omega) (by omega)).trans (D0.out.later bb), (p5 _ (by omega) (by omega) (by omega)).trans (D1.out.later bb), p2, ((below_on hbw bb).grown hg (by have := hbw.size; omega) (fun k hk => by have := hge k hk; omega)).setCell (by show w.heap.size ≤ w.heap.size + 1 + 1; omega) _, p3, p4⟩))
      have OWN := Lib.hid (fun (w' : World) (hb : Below W1.heap.size W1 w') => (HO.out.own.later (below_on BB.out hb)).row)
      have hMn : (M.length + 1) * 40 ≤ 140737488355328 := by have := HM.out; omega
      have hMs : w.heap.size + 3 ≤ W1.heap.size := by have := BB.out.size; have := D2.out.lt; omega
      clear D0 D1 D2 HO
      go_wp2_with fail
      rw [HW1.out]
      refine wp_region_facts 11 (by kernel_rfl) (by kernel_rfl)
        (fun v => { tmps := #[.agg #[.int .i64 room, .slice (some ⟨b, off, none⟩) L.length c], .pointer (some ⟨w.heap.size, 0, none⟩), .pointer (some ⟨w.heap.size + 1, 0, none⟩), .pointer (some ⟨w.heap.size + 1 + 1, 0, none⟩), .int .i64 (k : Int), .pointer (some ⟨wr.heap.size, 0, none⟩), .pointer (some ⟨w.heap.size, 0, none⟩), .int .i64 room, .agg #[.int .i64 room, .slice none 0 0], .int .i64 (k : Int), .pointer (some ⟨w.heap.size, 1, none⟩), .slice (some ⟨b, off, none⟩) L.length c, .int .i64 (L.length : Int), .bool true, u14, u15, .pointer (some ⟨w.heap.size, 1, none⟩), .slice (some ⟨b, off, none⟩) L.length c, .int .i64 (k : Int), .pointer (some ⟨b, off + k * 3, none⟩), .agg #[.int .i64 x.num, .slice x.X x.l.length x.c, .int .i64 x.s], v 0, v 1, v 2, v 3, v 4, v 5, v 6, v 7, v 8, v 9, v 10, u32, u33, undef], defers := [] }) (fun i => match i with | 0 => u21 | 1 => u22 | 2 => u23 | 3 => u24 | 4 => u25 | 5 => u26 | 6 => u27 | 7 => u28 | 8 => u29 | 9 => u30 | 10 => u31 | _ => undef)
        (fun i x_ wx => match i with
          | 0 => x_ = .pointer (some ⟨w.heap.size + 1 + 1, 1, none⟩)
          | 1 => x_ = .slice V M.length cv
          | 2 => x_ = .pointer (some ⟨wr.heap.size, 0, none⟩)
          | 3 => x_ = .int .i64 x.num
          | 4 => x_ = .pointer (some ⟨wr.heap.size, 1, none⟩)
          | 5 => x_ = .slice x.X x.l.length x.c
          | 6 => ∃ X' c', x_ = .slice X' x.l.length c' ∧ OwnBS wx W1.heap.size 5 { x with X := X', c := c' }
          | 7 => x_ = .pointer (some ⟨wr.heap.size, 2, none⟩)
          | 8 => x_ = .int .i64 x.s
          | 9 => ∃ X' c', x_ = .agg #[.int .i64 x.num, .slice X' x.l.length c', .int .i64 x.s] ∧ OwnBS wx W1.heap.size 5 { x with X := X', c := c' }
          | 10 => ∃ g X' c', x_ = .slice (some ⟨g, 0, none⟩) 1 1 ∧ Blk wx g 50 #[.int .i64 x.num, .slice X' x.l.length c', .int .i64 x.s] ∧ OwnBS wx W1.heap.size 5 { x with X := X', c := c' }
          | _ => True)
        (fun w1 w2 => Below w1.heap.size w1 w2) (fun h1 h2 => below_on h1 h2) (fun _ => Below.refl _ _) (Below.drew (Below.refl _ _)) ?stab ?step ?done
      case stab =>
        rintro i x_ w1 w2 h hb
        match i, h with
        | 0, h => exact h
        | 1, h => exact h
        | 2, h => exact h
        | 3, h => exact h
        | 4, h => exact h
        | 5, h => exact h
        | 6, h => obtain ⟨X', c', h1, h2⟩ := h; exact ⟨X', c', h1, h2.later hb⟩
        | 7, h => exact h
        | 8, h => exact h
        | 9, h => obtain ⟨X', c', h1, h2⟩ := h; exact ⟨X', c', h1, h2.later hb⟩
        | 10, h => obtain ⟨g, X', c', h1, h2, h3⟩ := h; exact ⟨g, X', c', h1, h2.later hb, h3.later hb⟩
        | i + 11, _ => trivial
      case step =>
        intro i hi v w' hb hd
        match i, hi with
        | 0, _ =>
          refine wpOp_one rfl ?_
          clear hd
          go_wp2
          first | exact ⟨_, (by simp [upd]; done), Below.refl _ _, rfl⟩ | exact ⟨(by simp [upd]; done), Below.refl _ _⟩
        | 1, _ =>
          have h0 : v 0 = _ := hd 0 (List.elem_iff.1 (by kernel_rfl))
          refine wpOp_one rfl ?_
          clear hd
          rw [h0]
          have q0 := cell_later hb y1.out
          go_wp2
          first | exact ⟨_, (by simp [upd, h0]; done), Below.refl _ _, rfl⟩ | exact ⟨(by simp [upd, h0]; done), Below.refl _ _⟩
        | 2, _ =>
          refine wpOp_one rfl ?_
          clear hd
          go_wp2
          first | exact ⟨_, (by simp [upd]; done), Below.refl _ _, rfl⟩ | exact ⟨(by simp [upd]; done), Below.refl _ _⟩
        | 3, _ =>
          have h2 : v 2 = _ := hd 2 (List.elem_iff.1 (by kernel_rfl))
          refine wpOp_one rfl ?_
          clear hd
          rw [h2]
          have q0 := cell_later hb x0.out
          go_wp2
          first | exact ⟨_, (by simp [upd, h2]; done), Below.refl _ _, rfl⟩ | exact ⟨(by simp [upd, h2]; done), Below.refl _ _⟩
        | 4, _ =>
          refine wpOp_one rfl ?_
          clear hd
          go_wp2
          first | exact ⟨_, (by simp [upd]; done), Below.refl _ _, rfl⟩ | exact ⟨(by simp [upd]; done), Below.refl _ _⟩
        | 5, _ =>
          have h4 : v 4 = _ := hd 4 (List.elem_iff.1 (by kernel_rfl))
          refine wpOp_one rfl ?_
          clear hd
          rw [h4]
          have q0 := cell_later hb x1.out
          go_wp2
          first | exact ⟨_, (by simp [upd, h4]; done), Below.refl _ _, rfl⟩ | exact ⟨(by simp [upd, h4]; done), Below.refl _ _⟩
        | 6, _ =>
          have h5 : v 5 = _ := hd 5 (List.elem_iff.1 (by kernel_rfl))
          refine wpOp_one rfl ?_
          clear hd
          rw [h5]
          have CL := bcopy_any x.X x.c x.l w' hxl (XO.out.later hb)
          have hsz := hb.size
          go_wp2_with fail
          refine CL.mono ?_
          rintro e w'' ⟨v2, rfl, ho, b2⟩
          obtain ⟨X', c', rfl, -, -, -, -⟩ := own_form ho
          have ON : OwnBS w'' w'.heap.size 5 { x with X := X', c := c' } := ⟨OwnB.of_own (f := { x with X := X', c := c' }) ho XO.out.byte, ho⟩
          go_wp2
          exact ⟨_, (by simp [upd, h5]; done), b2, X', c', rfl, ON.lower hsz⟩
        | 7, _ =>
          refine wpOp_one rfl ?_
          clear hd
          go_wp2
          first | exact ⟨_, (by simp [upd]; done), Below.refl _ _, rfl⟩ | exact ⟨(by simp [upd]; done), Below.refl _ _⟩
        | 8, _ =>
          have h7 : v 7 = _ := hd 7 (List.elem_iff.1 (by kernel_rfl))
          refine wpOp_one rfl ?_
          clear hd
          rw [h7]
          have q0 := cell_later hb x2.out
          go_wp2
          first | exact ⟨_, (by simp [upd, h7]; done), Below.refl _ _, rfl⟩ | exact ⟨(by simp [upd, h7]; done), Below.refl _ _⟩
        | 9, _ =>
          have h3 : v 3 = _ := hd 3 (List.elem_iff.1 (by kernel_rfl))
          obtain ⟨X6, c6, h6, o6⟩ := hd 6 (List.elem_iff.1 (by kernel_rfl))
          have h8 : v 8 = _ := hd 8 (List.elem_iff.1 (by kernel_rfl))
          refine wpOp_one rfl ?_
          clear hd
          rw [h3, h6, h8]
          go_wp2
          exact ⟨_, (by simp [upd, h3, h6, h8]; done), Below.refl _ _, X6, c6, rfl, o6⟩
        | 10, _ =>
          obtain ⟨X9, c9, h9, o9⟩ := hd 9 (List.elem_iff.1 (by kernel_rfl))
          refine wpOp_one rfl ?_
          clear hd
          rw [h9]
          have hbn := below_new (Below.refl w'.heap.size w') (.cells #[.int .i64 x.num, .slice X9 x.l.length c9, .int .i64 x.s] 50)
          have hbk := Blk.new w' 50 #[.int .i64 x.num, .slice X9 x.l.length c9, .int .i64 x.s]
          have o9' := o9.later hbn
          have OO := Lib.hid o9'
          have KK := Lib.hid hbk
          clear o9 o9' hbk
          go_wp2
          exact ⟨_, (by simp [upd, h9]; done), hbn, w'.heap.size, X9, c9, rfl, KK.out, OO.out⟩
      case done =>
        intro v w' hb hf
        obtain ⟨gA, XA, cA, h10, B10, o10⟩ := hf 10 (by omega)
        have h1 : v 1 = _ := hf 1 (by omega)
        clear hf
        simp only [List.drop_succ_cons, List.drop_zero]
        rw [h1, h10]
        have hown := OWN.out w' hb
        have hsz := hb.size
        have PU := Lib.hid (PUSH.out w' XA cA hb o10)
        have hy : Lies w' (some ⟨gA, 0, none⟩) [.int .i64 x.num, .slice XA x.l.length cA, .int .i64 x.s] := fun _ => ⟨gA, 0, rfl, fun j u hu => by
          rw [Nat.zero_add]
          exact B10.cell (by simpa using hu)⟩
        clear PUSH OWN B10 o10 x0 x1 x2 y1
        go_wp2_with (at_builtin; refine wpList_append_lies _ rfl _ _ 22 rfl (w.heap.size + 3) 50 i0 (.agg #[.int .i64 0, .slice none 0 0, .int .i64 0]) 3 40 Tryd.underlying22 hI hz0 hz1 hz2 rfl (by decide) _ M.length (fCells M) rfl hown (some ⟨gA, 0, none⟩) 1 1 (fun h => by cases h) [.int .i64 x.num, .slice XA x.l.length cA, .int .i64 x.s] rfl rfl hy (by intro u hu; simp at hu; rcases hu with rfl | rfl | rfl <;> rfl) ?c3 ?c4 ?c5 ?_)
        case c3 => unfold maxLen; omega
        case c4 => exact hMn
        case c5 => omega
        intro v2 w2 ho2 hg2 _
        have nx := Lib.hid (PU.out v2 w2 hg2 ho2)
        obtain ⟨V2, cv2, rfl, -, -, -, -⟩ := own_form ho2
        have z1 := nx.out.2.2.2.2.2.1
        have z2 := nx.out.2.2.2.2.2.2
        clear ho2 hg2 hown hy PU
        go_wp2_with fail
        go_roundw
        case rel => exact ⟨k + 1, _, _, by omega, by first | rfl | go_num, nx.out.1, (by rw [List.map_append, HFI.out, List.take_succ_eq_append_getElem hlt, List.map_append]; obtain ⟨_, hh⟩ := List.getElem?_eq_some_iff.1 HX.out; rw [hh]; rfl), by simp [HM.out], nx.out.2.1, nx.out.2.2.1, nx.out.2.2.2.1, nx.out.2.2.2.2.1⟩
        case measure => simp [intOf]; omega
    · have hd : decide ((k : Int) < (L.length : Int)) = false := decide_eq_false (by omega)
      have hML : M.length = L.length := by omega
      have q0 := hD2.cell (i := 0) rfl
      have r0 := hD1.cell (i := 0) rfl
      have r1 := hD1.cell (i := 1) rfl
      have s0 := hD1.free 0
      have s1 := hD1.free 1
      have hz := (hD1.put 0 (.int .i64 room)).put 1 (.slice V M.length cv)
      have z0 := hz.cell (i := 0) rfl
      have z1 := hz.cell (i := 1) rfl
      have hbz := (hbw.setCell (p := ⟨w.heap.size + 1, 0, none⟩) (by show w.heap.size ≤ w.heap.size + 1; omega) (.int .i64 room)).setCell (p := ⟨w.heap.size + 1, 1, none⟩) (by show w.heap.size ≤ w.heap.size + 1; omega) (.slice V M.length cv)
      have hOz := ((hO.low (p := ⟨w.heap.size + 1, 0, none⟩) (by show w.heap.size + 1 < w.heap.size + 3; omega) (.int .i64 room)).low (p := ⟨w.heap.size + 1, 1, none⟩) (by show w.heap.size + 1 < w.heap.size + 3; omega) (.slice V M.length cv)).lower (base' := w.heap.size) (by omega)
      rw [List.take_of_length_le (by omega)] at hfi
      have FIN := Lib.hid (show GivesDH room (L.map Fc.fi) w (.returned (.agg #[.int .i64 room, .slice V M.length cv])) _ from ⟨_, M, rfl, hOz, hfi, hbz⟩)
      have Z0 := Lib.hid z0
      have Z1 := Lib.hid z1
      clear hO hfi hD0 hD1 hD2 hz z0 z1 hbz hOz hML hMl
      go_wp2
      have z0 := Z0.out
      have z1 := Z1.out
      exact bodyPost_ret (v := .agg #[.int .i64 room, .slice V M.length cv]) (by simp [results, Tryd.results9, go_sem, z0, z1]) rfl FIN.out
theorem rcopyD_any (room : Int) (A : Option Addr) (c : Nat) (L : List Fc) (w : World) (h : OneD w A c L) (hf : Fit L) :
    Calls Tryd.prog 9 #[.agg #[.int .i64 room, .slice A L.length c]] w (GivesD room (L.map Fc.fi) w) := by
  refine (rcopyDS_any room A c L w h hf).mono ?_
  rintro e w' ⟨v, M, h1, h2, h3, h4⟩
  exact ⟨v, M, h1, h2.own, h3, h4⟩
end Go.Proofs.YtkhggofcbdcliaaDoor
namespace Go.Proofs.YtkhggofcbdcliaaDoor
open Go.RowKit

/-- One file of a list in memory of the call's own is laid anew. -/
theorem OwnD.upd {w w' : World} {n0 g N cap i : Nat} {t e : TypeId} {L : List Fc} {f f' : Fc} (hne : t ≠ e) (h : OwnD w n0 t e (.slice (some ⟨g, 0, none⟩) N cap) L) (hN : L.length = N) (hf : L[i]? = some f)
    (row : w'.ownsRow n0 t 3 (.slice (some ⟨g, 0, none⟩) N cap) N (fCells (L.set i f'))) (own : OwnB w' n0 e f') (blk : f'.blk = f.blk) (rest : ∀ b, b < w.heap.size → b ≠ g → f.blk ≠ some b → w'.heap[b]? = w.heap[b]?) : OwnD w' n0 t e (.slice (some ⟨g, 0, none⟩) N cap) (L.set i f') := by
  have hi : i < L.length := (List.getElem?_eq_some_iff.1 hf).1
  have hrow : w.ownsRow n0 t 3 (.slice (some ⟨g, 0, none⟩) N cap) L.length (fCells L) := h.row
  have ap : ∀ (j : Nat) (x : Fc) (b : Nat), j ≠ i → L[j]? = some x → x.blk = some b → f.blk ≠ some b := fun j x b hj hx hb => by
    rcases Nat.lt_or_gt_of_ne hj with h1 | h1
    · exact h.apart j i x f b h1 hx hf hb
    · intro h2
      exact h.apart i j f x b h1 hf hx h2 hb
  refine ⟨by rw [List.length_set, hN]; exact row, fun x hx => ?_, fun j k x y b hjk hx hy hxb => ?_⟩
  · obtain ⟨j, hj⟩ := List.getElem?_of_mem hx
    by_cases ej : j = i
    · subst ej
      rw [List.getElem?_set_self hi] at hj
      cases hj
      exact own
    · rw [List.getElem?_set_ne (fun e2 => ej e2.symm)] at hj
      have hO := h.each x (List.mem_of_getElem? hj)
      refine hO.stays fun b hb => rest b (hO.lt b hb).2 (fun e2 => ?_) (ap j x b ej hj hb)
      subst e2
      subst hN
      exact hO.off_row hrow hne hb
  · by_cases e1 : j = i
    · subst e1
      rw [List.getElem?_set_self hi] at hx
      cases hx
      rw [List.getElem?_set_ne (by omega)] at hy
      rw [blk] at hxb
      exact h.apart j k f y b hjk hf hy hxb
    · rw [List.getElem?_set_ne (fun e2 => e1 e2.symm)] at hx
      by_cases e2 : k = i
      · subst e2
        rw [List.getElem?_set_self hi] at hy
        cases hy
        rw [blk]
        exact h.apart j k x f b hjk hx hf hxb
      · rw [List.getElem?_set_ne (fun e3 => e2 e3.symm)] at hy
        exact h.apart j k x y b hjk hx hy hxb
/-- Its number of sure bytes, in place. -/
theorem OwnD.put2 {w : World} {n0 g cap i : Nat} {t e : TypeId} {L : List Fc} {f : Fc} (hne : t ≠ e) (h : OwnD w n0 t e (.slice (some ⟨g, 0, none⟩) L.length cap) L) (hf : L[i]? = some f) (s : Int) : OwnD (w.setCell ⟨g, i * 3 + 2, none⟩ (.int .i64 s)) n0 t e (.slice (some ⟨g, 0, none⟩) L.length cap) (L.set i { f with s := s }) :=
  have ho := h.each f (List.mem_of_getElem? hf)
  have hrow : w.ownsRow n0 t 3 (.slice (some ⟨g, 0, none⟩) L.length cap) L.length (fCells L) := h.row
  have hb := ho.off_row hrow hne
  h.upd hne rfl hf (row_put2 hrow hf s) ((ho.num f.num s).far (p := ⟨g, i * 3 + 2, none⟩) hb _) rfl (fun _ _ h1 _ => Below.heap_setCell _ _ _ _ h1)
/-- Its first bytes alone, in place. -/
theorem OwnD.put1 {w : World} {n0 g cap i : Nat} {t e : TypeId} {L : List Fc} {f : Fc} (hne : t ≠ e) (h : OwnD w n0 t e (.slice (some ⟨g, 0, none⟩) L.length cap) L) (hf : L[i]? = some f) (n : Nat) (hn : n ≤ f.l.length) : OwnD (w.setCell ⟨g, i * 3 + 1, none⟩ (.slice f.X n f.c)) n0 t e (.slice (some ⟨g, 0, none⟩) L.length cap) (L.set i { f with l := f.l.take n }) :=
  have ho := h.each f (List.mem_of_getElem? hf)
  have hrow : w.ownsRow n0 t 3 (.slice (some ⟨g, 0, none⟩) L.length cap) L.length (fCells L) := h.row
  have hb := ho.off_row hrow hne
  have hr := row_put1 hrow hf f.X f.c (f.l.take n)
  have hln : (f.l.take n).length = n := by rw [List.length_take]; omega
  h.upd hne rfl hf (by rw [hln] at hr; exact hr) ((ho.cut n f.c hn (Nat.le_trans hn ho.le) (Nat.le_refl _)).far (p := ⟨g, i * 3 + 1, none⟩) hb _) rfl (fun _ _ h1 _ => Below.heap_setCell _ _ _ _ h1)

/-- One file more has become what G says. -/
theorem map_step {G : Fi → Fi} {A : List Fi} {M : List Fc} {k : Nat} {x f' : Fc} (h : M.map Fc.fi = (A.take k).map G ++ A.drop k) (hk : k < A.length) (hx : M[k]? = some x) (hG : f'.fi = G x.fi) : (M.set k f').map Fc.fi = (A.take (k + 1)).map G ++ A.drop (k + 1) ∧ x.fi = A[k] := by
  have hxx : x.fi = A[k] := by
    have h1 : (M.map Fc.fi)[k]? = some x.fi := by rw [List.getElem?_map, hx]; rfl
    rw [h, List.getElem?_append_right (by simp; omega)] at h1
    simp only [List.length_map, List.length_take, Nat.min_eq_left (Nat.le_of_lt hk), Nat.sub_self] at h1
    rw [List.getElem?_drop, Nat.add_zero, List.getElem?_eq_getElem hk] at h1
    exact (Option.some.inj h1).symm
  refine ⟨?_, hxx⟩
  apply List.ext_getElem?
  intro j
  have hj : (M.map Fc.fi)[j]? = ((A.take k).map G ++ A.drop k)[j]? := by rw [h]
  rw [List.getElem?_map] at hj ⊢
  have hlk : ((A.take k).map G).length = k := by rw [List.length_map, List.length_take]; omega
  have hlk1 : ((A.take (k + 1)).map G).length = k + 1 := by rw [List.length_map, List.length_take]; omega
  by_cases e : k = j
  · subst e
    rw [List.getElem?_set_self (List.getElem?_eq_some_iff.1 hx).1, List.getElem?_append_left (by omega), List.getElem?_map, List.getElem?_take_of_lt (by omega), List.getElem?_eq_getElem hk]
    simp [hG, hxx]
  · rw [List.getElem?_set_ne e, hj]
    by_cases e2 : j < k
    · rw [List.getElem?_append_left (by omega), List.getElem?_append_left (by omega), List.getElem?_map, List.getElem?_map, List.getElem?_take_of_lt e2, List.getElem?_take_of_lt (by omega)]
    · rw [List.getElem?_append_right (by omega), List.getElem?_append_right (by omega), hlk, hlk1, List.getElem?_drop, List.getElem?_drop]
      congr 1
      omega

set_option maxRecDepth 100000 in
set_option maxHeartbeats 3200000 in
theorem rsync_any (room : Int) (A : Option Addr) (c : Nat) (L : List Fc) (w : World) (h : OneD w A c L) :
    Calls Tryd.prog 35 #[.agg #[.int .i64 room, .slice A L.length c]] w (GivesDE (Dk.synR room (L.map Fc.fi)) w) := by
  have bn := below_new (below_new (Below.refl w.heap.size w) (.cells #[.int .i64 room, .slice A L.length c] 24)) (.cells #[.int .i64 0, .slice none 0 0] 24)
  have N := Lib.hid (rformed_any room A c L _ (h.later bn))
  have B1 := Lib.hid (show Blk _ (w.heap.size + 1) 24 #[.int .i64 0, .slice none 0 0] from by simpa using Blk.new (w.alloc (.cells #[.int .i64 room, .slice A L.length c] 24)) 24 #[.int .i64 0, .slice none 0 0])
  have B0 := Lib.hid ((Blk.new w 24 #[.int .i64 room, .slice A L.length c]).alloc (.cells #[.int .i64 0, .slice none 0 0] 24))
  have HD := Lib.hid h
  clear h
  cases hq : Dk.fmd room (L.map Fc.fi) with
  | false =>
    have hR : Dk.synR room (L.map Fc.fi) = (0, [], 1) := by unfold Dk.synR; rw [if_neg (by rw [hq]; exact Bool.false_ne_true)]
    rw [hR]
    rw [hq] at N
    clear hq hR HD
    go_enter Tryd.func35, Tryd.ntmps35
    go_wp2_with fail
    refine N.out.mono ?_
    rintro e w1 ⟨rfl, b1⟩
    have z' := B1.out.later b1
    have y0 := z'.cell (i := 0) rfl
    have y1 := z'.cell (i := 1) rfl
    have s0 := z'.free 0
    have s1 := z'.free 1
    have hz := (z'.put 0 (.int .i64 0)).put 1 (.slice none 0 0)
    have z0 := Lib.hid (hz.cell (i := 0) rfl)
    have z1 := Lib.hid (hz.cell (i := 1) rfl)
    have hbz := ((below_on bn b1).setCell (p := ⟨w.heap.size + 1, 0, none⟩) (by show w.heap.size ≤ w.heap.size + 1; omega) (.int .i64 0)).setCell (p := ⟨w.heap.size + 1, 1, none⟩) (by show w.heap.size ≤ w.heap.size + 1; omega) (.slice none 0 0)
    have FIN := Lib.hid (GivesDE.err 1 hbz)
    clear z' hz hbz 
    go_wp2
    have z0 := z0.out
    have z1 := z1.out
    exact bodyPost_ret (v := .tuple #[.agg #[.int .i64 0, .slice none 0 0], .int .i64 1]) (by simp [results, Tryd.results35, go_sem, z0, z1]) rfl FIN.out
  | true =>
    have hR : Dk.synR room (L.map Fc.fi) = (room, (L.map Fc.fi).map Dk.syn1, 0) := by unfold Dk.synR; rw [if_pos hq]
    rw [hR]
    rw [hq] at N
    have HF := Lib.hid (Dk.fit hq)
    have hlen := Dk.len_le hq
    clear hq hR
    go_enter Tryd.func35, Tryd.ntmps35
    go_wp2_with fail
    refine N.out.mono ?_
    rintro e w1 ⟨rfl, b1⟩
    have bb := below_on bn b1
    have c0 := (B0.out.later b1).cell (i := 0) rfl
    have c1 := (B0.out.later b1).cell (i := 1) rfl
    have N2 := Lib.hid (rcopyD_any room A c L w1 (HD.out.later bb) HF.out)
    have Z := Lib.hid (B1.out.later b1)
    go_wp2_with fail
    refine N2.out.mono ?_
    rintro e w2 ⟨v, L2, rfl, hO, hfi, b2⟩
    have hl2 : L2.length = L.length := by have := congrArg List.length hfi; simpa using this
    obtain ⟨V, cv, rfl, -, hcm, -, -⟩ := own_form hO.row
    have bb2 := below_on bb b2
    have b3 := below_new bb2 (.cells #[.int .i64 room, .slice V L2.length cv] 24)
    have hs2 := b2.size
    have hzl := (Z.out).lt
    have O3 := Lib.hid (hO.later (below_new (Below.refl w2.heap.size w2) (.cells #[.int .i64 room, .slice V L2.length cv] 24)))
    have Z3 := Lib.hid ((Z.out.later b2).alloc (.cells #[.int .i64 room, .slice V L2.length cv] 24))
    have Y3 := Lib.hid (Blk.new w2 24 #[.int .i64 room, .slice V L2.length cv])
    have HB3 := Lib.hid b3
    have HFI := Lib.hid hfi
    have HL2 := Lib.hid hl2
    have hl2' : L2.length ≤ 1048577 := by omega
    clear hO hfi hl2 b3 bb2 b2
    go_wp2_with fail
    go_loopw [5] (fun s5 wr => ∃ (k : Nat) (M : List Fc), k ≤ L2.length ∧ s5 = .int .i64 (k : Int) ∧ OwnD wr w1.heap.size 50 5 (.slice V L2.length cv) M ∧ M.length = L2.length ∧ M.map Fc.fi = ((L2.map Fc.fi).take k).map Dk.syn1 ++ (L2.map Fc.fi).drop k ∧ Blk wr w2.heap.size 24 #[.int .i64 room, .slice V L2.length cv] ∧ Blk wr (w.heap.size + 1) 24 #[.int .i64 0, .slice none 0 0] ∧ Below w.heap.size w wr) (fun s5 _ => L2.length - (intOf s5).toNat)
    case atStart => exact ⟨0, L2, Nat.zero_le _, rfl, O3.out, rfl, by simp, Y3.out, Z3.out, HB3.out⟩
    case round =>
      obtain ⟨k, M, hk, rfl, hO, hM, hfi, hY, hZ, hbw⟩ := hrel
      have y1 := hY.cell (i := 1) rfl
      by_cases hlt : k < L2.length
      · obtain ⟨g, cap, hgv⟩ := own_len hO.row (by omega)
        injection hgv with hV h2 h3
        subst hV h3
        obtain ⟨x, hx⟩ : ∃ x, M[k]? = some x := ⟨M[k]'(by omega), List.getElem?_eq_getElem (by omega)⟩
        have hrow : wr.ownsRow w1.heap.size 50 3 (.slice (some ⟨g, 0, none⟩) M.length cv) M.length (fCells M) := by rw [hM]; have := hO.row; rw [hM] at this; exact this
        obtain ⟨q0, q1, q2, q3, q4⟩ := row_cells hrow hx
        have hg := own_base_le hrow
        have hi0 : (0 : Int) ≤ (k : Int) := by omega
        have hi1 : (k : Int) < (L2.length : Int) := by omega
        have hOd : OwnD wr.drew w1.heap.size 50 5 (.slice (some ⟨g, 0, none⟩) M.length cv) M := by rw [hM]; exact hO.later (Below.refl _ _).drew
        have hn := hOd.put2 (by decide) hx (x.l.length : Int)
        rw [hM] at hn
        have HNX := Lib.hid hn
        have HY := Lib.hid ((show Blk wr.drew w2.heap.size 24 _ from hY).far (p := ⟨g, k * 3 + 2, none⟩) (by
          show w2.heap.size ≠ g
          intro e
          subst e
          have h1 := hY
          rcases hrow.2 with ⟨h2, _⟩ | ⟨g', cap', cur', h2, _, h3, _⟩
          · cases h2
          · injection h2 with h2
            injection h2 with h2
            injection h2 with h2
            subst h2
            unfold Blk at h1
            rw [h1] at h3
            injection h3 with h3
            injection h3 with _ h3
            exact absurd h3 (by decide)) (.int .i64 (x.l.length : Int)))
        have HZ := Lib.hid ((show Blk wr.drew (w.heap.size + 1) 24 _ from hZ).far (p := ⟨g, k * 3 + 2, none⟩) (by show w.heap.size + 1 ≠ g; omega) (.int .i64 (x.l.length : Int)))
        have HBW := Lib.hid ((hbw.drew).setCell (p := ⟨g, k * 3 + 2, none⟩) (by have := bb.size; show w.heap.size ≤ g; omega) (.int .i64 (x.l.length : Int)))
        have HX := Lib.hid hx
        have HM := Lib.hid hM
        have HFI2 := Lib.hid hfi
        have H1 := Lib.hid (map_step (f' := { x with s := (x.l.length : Int) }) hfi (by rw [List.length_map]; exact hlt) hx rfl).1
        clear hO hM hfi hY hZ hx hrow hOd hn
        go_wp2_with fail
        go_region
        all_goals
          go_wp2_with fail
          go_roundw
          case rel => exact ⟨k + 1, _, by omega, by first | rfl | go_num, HNX.out, by rw [List.length_set]; exact HM.out, H1.out, HY.out, HZ.out, HBW.out⟩
          case measure => simp [intOf]; omega
      · have hd : decide ((k : Int) < (L2.length : Int)) = false := decide_eq_false (by omega)
        have x0 := hY.cell (i := 0) rfl
        have hfin : M.map Fc.fi = (L.map Fc.fi).map Dk.syn1 := by
          rw [hfi, List.take_of_length_le (by rw [List.length_map]; omega), List.drop_of_length_le (by rw [List.length_map]; omega), List.append_nil, HFI.out]
        clear hfi
        have z' := hZ
        have y0 := z'.cell (i := 0) rfl
        have y1 := z'.cell (i := 1) rfl
        have s0 := z'.free 0
        have s1 := z'.free 1
        have hz := (z'.put 0 (.int .i64 room)).put 1 (.slice V L2.length cv)
        have z0 := Lib.hid (hz.cell (i := 0) rfl)
        have z1 := Lib.hid (hz.cell (i := 1) rfl)
        have hbz := ((hbw).setCell (p := ⟨w.heap.size + 1, 0, none⟩) (by show w.heap.size ≤ w.heap.size + 1; omega) (.int .i64 room)).setCell (p := ⟨w.heap.size + 1, 1, none⟩) (by show w.heap.size ≤ w.heap.size + 1; omega) (.slice V L2.length cv)
        have hO2 := (((hO).low (p := ⟨w.heap.size + 1, 0, none⟩) (by show w.heap.size + 1 < _; omega) (.int .i64 room)).low (p := ⟨w.heap.size + 1, 1, none⟩) (by show w.heap.size + 1 < _; omega) (.slice V L2.length cv)).lower (base' := w.heap.size) (by omega)
        have FIN := Lib.hid (show GivesDE (room, (L.map Fc.fi).map Dk.syn1, 0) w (.returned (.tuple #[.agg #[.int .i64 room, .slice V L2.length cv], .int .i64 0])) _ from ⟨_, M, rfl, hO2, hfin, hbz⟩)
        clear z' hz hbz hO hfin hY hZ hO2
        go_wp2
        have z0 := z0.out
        have z1 := z1.out
        exact bodyPost_ret (v := .tuple #[.agg #[.int .i64 room, .slice V L2.length cv], .int .i64 0]) (by simp [results, Tryd.results35, go_sem, z0, z1]) rfl FIN.out
end Go.Proofs.YtkhggofcbdcliaaDoor
namespace Go.Proofs.YtkhggofcbdcliaaDoor
open Go.RowKit

theorem crashChg (h0 n0 N kb lb keep : Nat) (w : World) (fs : List Fi) (hk0 : h0 ≤ kb) (hk1 : kb < n0) (hl0 : h0 ≤ lb) (hl1 : lb < n0) (hkl : kb ≠ lb) (hkn : keep ≤ 9223372036854775807) (hs : ∀ f ∈ fs, 0 ≤ f.2.2 ∧ f.2.2 ≤ (f.2.1.length : Int)) :
    Chg n0 N fs 43 #[.pointer (some ⟨kb, 0, none⟩), .pointer (some ⟨lb, 0, none⟩)] (JC h0 n0 kb lb keep w fs) := by
  intro done Lk f g i cap W hJ hi hf hN hx hsz hr hs2 ho
  have hg := own_base_le hr
  obtain ⟨P, hP1, hP2⟩ := hJ.lbox
  have hkb := hJ.kbox
  rw [hi] at hkb hP2
  have hsf := hs f.fi (List.mem_of_getElem? hf)
  have hs0 : f.s = ((f.s.toNat : Nat) : Int) := by have : 0 ≤ f.s := hsf.1; omega
  have hs1 : f.s.toNat ≤ f.l.length := by have h1 : f.s ≤ (f.l.length : Int) := hsf.2; have : 0 ≤ f.s := hsf.1; omega
  have hka : ∀ j, Dk.kAt keep fs j ≤ keep := fun j => by
    induction j with
    | zero => exact Nat.le_refl _
    | succ j ih =>
      rw [Dk.kAt]
      split
      · omega
      · exact ih
  have hlow : ∀ b, f.blk = some b → n0 + 2 ≤ b := fun b hb => (ho.lt b hb).1
  refine (crash1_any n0 N cap g i kb lb (Dk.kAt keep fs i) f.s.toNat P Lk f W hs0 hs1 hkb hP1 hkl (by omega) (by omega) (fun h => by have := hlow _ h; omega) (fun h => by have := hlow _ h; omega) hr hx ho (Nat.le_trans (hka i) hkn)).mono ?_
  rintro e w' ⟨rfl, f', hc⟩
  refine ⟨rfl, f', ⟨?_, hc.size, hc.row, hc.own, .inl hc.blk, fun b h1 _ h3 _ => hc.rest b h3 (by omega) (by omega)⟩⟩
  have hlen : (done ++ [f']).length = i + 1 := by rw [List.length_append, hi]; rfl
  refine ⟨hJ.low.trans ⟨hc.same.1, hc.same.2.1, hc.same.2.2, hc.size, fun k hk => hc.rest k (by omega) (by omega) (by omega)⟩, fun k h1 h2 h3 h4 => (hc.rest k (by omega) h3 h4).trans (hJ.mid k h1 h2 h3 h4), ?_, ?_, ?_⟩
  · rw [hlen, Dk.kAt_step hf]
    exact hc.kbox
  · obtain ⟨P', h1, h2⟩ := hc.lbox
    refine ⟨P', h1, ?_⟩
    rw [hlen, Dk.lstTo_step hf]
    rcases h2 with ⟨h3, h4⟩ | ⟨h3, b, h4, h5, h6⟩
    · rw [if_neg (by omega), h4]
      exact hP2.snoc f'
    · rw [if_pos h3]
      exact ⟨f', b, by rw [← hi, List.getElem?_concat_length], h4, h5, h6⟩
  · rw [hlen, List.map_append, hJ.fi, hi, Dk.crsTo_step hf]
    show _ ++ [f'.fi] = _
    rw [hc.fi]
namespace Dk
theorem crsTo_len (keep : Nat) (fs : List Fi) : ∀ i, i ≤ fs.length → (crsTo keep fs i).length = i
  | 0, _ => rfl
  | i + 1, h => by
    rw [crsTo_step (List.getElem?_eq_getElem (show i < fs.length by omega)), List.length_append, crsTo_len keep fs i (by omega)]
    rfl
/-- A byte that is turned. -/
def trn (x t : Int) : Int := bits .xor .u8 x t
theorem trn_byte {x t : Int} (hx : isB x) (ht : 0 ≤ t ∧ t ≤ 255) : isB (trn x t) := by
  unfold isB at *
  obtain ⟨a, rfl⟩ : ∃ a : Nat, x = (a : Int) := ⟨x.toNat, by omega⟩
  obtain ⟨b, rfl⟩ : ∃ b : Nat, t = (b : Int) := ⟨t.toNat, by omega⟩
  unfold trn bits
  first
    | (simp only [IntKind.wrap_u8]; omega)
    | (split <;> simp only [IntKind.wrap_u8] <;> omega)
/-- Its last byte is turned. -/
def turnF (t : Int) (f : Fi) : Fi := (f.1, f.2.1.set (f.2.1.length - 1) (trn (f.2.1.getD (f.2.1.length - 1) 0) t), f.2.2)
def atF (G : Fi → Fi) : Option Nat → List Fi → List Fi
  | none, l => l
  | some j, l => match l[j]? with
    | some f => l.set j (G f)
    | none => l
theorem atF_some {G : Fi → Fi} {j : Nat} {l : List Fi} {f : Fi} (h : l[j]? = some f) : atF G (some j) l = l.set j (G f) := by
  show (match l[j]? with | some f => l.set j (G f) | none => l) = _
  rw [h]
def crsR (room : Int) (fs : List Fi) (keep turn : Int) : Ans3 := if fmd room fs = true ∧ 0 ≤ keep ∧ win turn 255 = true then (room, atF (turnF turn) (lstTo keep.toNat fs fs.length) (crsTo keep.toNat fs fs.length), 0) else (0, [], 1)
end Dk
theorem fCells_same : ∀ (L : List Fc) (i : Nat) (x : Fc) (l : List Int), L[i]? = some x → l.length = x.l.length → fCells (L.set i { x with l := l }) = fCells L
  | [], i, x, l, h, _ => by simp at h
  | y :: r, 0, x, l, h, hl => by
    simp at h
    subst h
    simp [fCells, hl]
  | y :: r, i + 1, x, l, h, hl => by
    have := fCells_same r i x l (by simpa using h) hl
    simp [fCells, this]

set_option maxRecDepth 100000 in
set_option maxHeartbeats 3200000 in
theorem dcrash_any (room keep turn : Int) (A : Option Addr) (c : Nat) (L : List Fc) (w : World) (h : OneD w A c L) (hkm : keep ≤ 9223372036854775807) :
    Calls Tryd.prog 23 #[.agg #[.int .i64 room, .slice A L.length c], .int .i64 keep, .int .i64 turn] w (GivesDE (Dk.crsR room (L.map Fc.fi) keep turn) w) := by
  have bn := below_new (below_new (below_new (Below.refl w.heap.size w) (.cells #[.int .i64 room, .slice A L.length c] 24)) (.cells #[.int .i64 keep] 3)) (.cells #[.int .i64 0, .slice none 0 0] 24)
  have N := Lib.hid (dformed_any room A c L _ (h.later bn))
  have B0 := Lib.hid (((Blk.new w 24 #[.int .i64 room, .slice A L.length c]).alloc (.cells #[.int .i64 keep] 3)).alloc (.cells #[.int .i64 0, .slice none 0 0] 24))
  have B1 := Lib.hid (show Blk _ (w.heap.size + 1) 3 #[.int .i64 keep] from by simpa using (Blk.new (w.alloc (.cells #[.int .i64 room, .slice A L.length c] 24)) 3 #[.int .i64 keep]).alloc (.cells #[.int .i64 0, .slice none 0 0] 24))
  have B2 := Lib.hid (show Blk _ (w.heap.size + 1 + 1) 24 #[.int .i64 0, .slice none 0 0] from by simpa using Blk.new ((w.alloc (.cells #[.int .i64 room, .slice A L.length c] 24)).alloc (.cells #[.int .i64 keep] 3)) 24 #[.int .i64 0, .slice none 0 0])
  have HD := Lib.hid h
  have W3 := Lib.hid (fun w => within_any turn 255 w)
  clear h
  cases hq : Dk.fmd room (L.map Fc.fi) with
  | false =>
    have hR : Dk.crsR room (L.map Fc.fi) keep turn = (0, [], 1) := by unfold Dk.crsR; rw [if_neg (fun h => by rw [hq] at h; exact absurd h.1 Bool.false_ne_true)]
    rw [hR]
    rw [hq] at N
    clear hq hR HD B0 B1
    go_enter Tryd.func23, Tryd.ntmps23
    go_wp2_with fail
    refine N.out.mono ?_
    rintro e w1 ⟨rfl, b1⟩
    have z' := B2.out.later b1
    have y0 := z'.cell (i := 0) rfl
    have y1 := z'.cell (i := 1) rfl
    have s0 := z'.free 0
    have s1 := z'.free 1
    have hz := (z'.put 0 (.int .i64 0)).put 1 (.slice none 0 0)
    have z0 := Lib.hid (hz.cell (i := 0) rfl)
    have z1 := Lib.hid (hz.cell (i := 1) rfl)
    have hbz := ((below_on bn b1).setCell (p := ⟨w.heap.size + 1 + 1, 0, none⟩) (by show w.heap.size ≤ w.heap.size + 1 + 1; omega) (.int .i64 0)).setCell (p := ⟨w.heap.size + 1 + 1, 1, none⟩) (by show w.heap.size ≤ w.heap.size + 1 + 1; omega) (.slice none 0 0)
    have FIN := Lib.hid (GivesDE.err 1 hbz)
    clear z' hz hbz 
    go_wp2
    have z0 := z0.out
    have z1 := z1.out
    exact bodyPost_ret (v := .tuple #[.agg #[.int .i64 0, .slice none 0 0], .int .i64 1]) (by simp [results, Tryd.results23, go_sem, z0, z1]) rfl FIN.out
  | true =>
  rw [hq] at N
  by_cases hk : keep < 0
  · have hR : Dk.crsR room (L.map Fc.fi) keep turn = (0, [], 1) := by unfold Dk.crsR; rw [if_neg (fun h => by omega)]
    rw [hR]
    have dk0 : decide (keep < 0) = true := decide_eq_true hk
    clear hq hR HD B0 hk
    go_enter Tryd.func23, Tryd.ntmps23
    go_wp2_with fail
    refine N.out.mono ?_
    rintro e w1 ⟨rfl, b1⟩
    have k0 := (B1.out.later b1).cell (i := 0) rfl
    have z' := B2.out.later b1
    have y0 := z'.cell (i := 0) rfl
    have y1 := z'.cell (i := 1) rfl
    have s0 := z'.free 0
    have s1 := z'.free 1
    have hz := (z'.put 0 (.int .i64 0)).put 1 (.slice none 0 0)
    have z0 := Lib.hid (hz.cell (i := 0) rfl)
    have z1 := Lib.hid (hz.cell (i := 1) rfl)
    have hbz := ((below_on bn b1).setCell (p := ⟨w.heap.size + 1 + 1, 0, none⟩) (by show w.heap.size ≤ w.heap.size + 1 + 1; omega) (.int .i64 0)).setCell (p := ⟨w.heap.size + 1 + 1, 1, none⟩) (by show w.heap.size ≤ w.heap.size + 1 + 1; omega) (.slice none 0 0)
    have FIN := Lib.hid (GivesDE.err 1 hbz)
    clear z' hz hbz 
    go_wp2
    have z0 := z0.out
    have z1 := z1.out
    exact bodyPost_ret (v := .tuple #[.agg #[.int .i64 0, .slice none 0 0], .int .i64 1]) (by simp [results, Tryd.results23, go_sem, z0, z1]) rfl FIN.out
  have dk0 : decide (keep < 0) = false := decide_eq_false hk
  cases hw : Dk.win turn 255 with
  | false =>
    have hR : Dk.crsR room (L.map Fc.fi) keep turn = (0, [], 1) := by unfold Dk.crsR; rw [if_neg (fun h => by rw [hw] at h; exact absurd h.2.2 Bool.false_ne_true)]
    rw [hR]
    rw [hw] at W3
    clear hq hR HD B0 hk hw
    go_enter Tryd.func23, Tryd.ntmps23
    go_wp2_with fail
    refine N.out.mono ?_
    rintro e w1 ⟨rfl, b1⟩
    have k0 := (B1.out.later b1).cell (i := 0) rfl
    go_wp2_with fail
    refine (W3.out _).mono ?_
    rintro e w' ⟨rfl, hw'⟩
    have hw2 := hw'.symm
    subst hw2
    clear hw'
    have z' := B2.out.later b1
    have y0 := z'.cell (i := 0) rfl
    have y1 := z'.cell (i := 1) rfl
    have s0 := z'.free 0
    have s1 := z'.free 1
    have hz := (z'.put 0 (.int .i64 0)).put 1 (.slice none 0 0)
    have z0 := Lib.hid (hz.cell (i := 0) rfl)
    have z1 := Lib.hid (hz.cell (i := 1) rfl)
    have hbz := ((below_on bn b1).setCell (p := ⟨w.heap.size + 1 + 1, 0, none⟩) (by show w.heap.size ≤ w.heap.size + 1 + 1; omega) (.int .i64 0)).setCell (p := ⟨w.heap.size + 1 + 1, 1, none⟩) (by show w.heap.size ≤ w.heap.size + 1 + 1; omega) (.slice none 0 0)
    have FIN := Lib.hid (GivesDE.err 1 hbz)
    clear z' hz hbz 
    go_wp2
    have z0 := z0.out
    have z1 := z1.out
    exact bodyPost_ret (v := .tuple #[.agg #[.int .i64 0, .slice none 0 0], .int .i64 1]) (by simp [results, Tryd.results23, go_sem, z0, z1]) rfl FIN.out
  | true =>
  have hR : Dk.crsR room (L.map Fc.fi) keep turn = (room, Dk.atF (Dk.turnF turn) (Dk.lstTo keep.toNat (L.map Fc.fi) (L.map Fc.fi).length) (Dk.crsTo keep.toNat (L.map Fc.fi) (L.map Fc.fi).length), 0) := by unfold Dk.crsR; rw [if_pos ⟨hq, by omega, hw⟩]
  rw [hR, List.length_map]
  obtain ⟨t0, t1⟩ := Dk.win_yes hw
  obtain ⟨tn, rfl⟩ : ∃ tn : Nat, turn = (tn : Int) := ⟨turn.toNat, by omega⟩
  obtain ⟨kn, rfl⟩ : ∃ kn : Nat, keep = (kn : Int) := ⟨keep.toNat, by omega⟩
  rw [Int.toNat_natCast]
  have hkn : kn ≤ 9223372036854775807 := by omega
  have HFT := Lib.hid (Dk.fit hq)
  have HFM := Lib.hid (Dk.fmd_facts hq)
  rw [hw] at W3
  obtain ⟨o, hoo⟩ : ∃ o, Dk.lstTo kn (L.map Fc.fi) L.length = o := ⟨_, rfl⟩
  rw [hoo]
  have HOO := Lib.hid hoo
  clear hq hw hR hk hoo
  go_enter Tryd.func23, Tryd.ntmps23
  go_wp2_with fail
  refine N.out.mono ?_
  rintro e w1 ⟨rfl, b1⟩
  have k0 := (B1.out.later b1).cell (i := 0) rfl
  go_wp2_with fail
  refine (W3.out _).mono ?_
  rintro e w' ⟨rfl, hw'⟩
  have hw2 := hw'.symm
  subst hw2
  clear hw'
  have bb := below_on bn b1
  obtain ⟨W2, hW2⟩ : ∃ W2, w1.alloc (.cells #[.pointer none] 60) = W2 := ⟨_, rfl⟩
  have hb2 : Below w1.heap.size w1 W2 := by rw [← hW2]; exact below_new (Below.refl _ _) _
  have hL2 : Blk W2 w1.heap.size 60 #[.pointer none] := by rw [← hW2]; exact Blk.new _ _ _
  have hs2 : W2.heap.size = w1.heap.size + 1 := by rw [← hW2]; simp
  have d0 := ((B0.out.later b1).later hb2).cell (i := 0) rfl
  have d1 := ((B0.out.later b1).later hb2).cell (i := 1) rfl
  have E1 := (B1.out.later b1).later hb2
  have hlt1 := (B2.out.later b1).lt
  have hk1 := (B1.out.later b1).lt
  have NC := Lib.hid (changed_any room A c L 43 #[.pointer (some ⟨w.heap.size + 1, 0, none⟩), .pointer (some ⟨w1.heap.size, 0, none⟩)] (fun _ _ => rfl) (JC w.heap.size W2.heap.size (w.heap.size + 1) w1.heap.size kn W2 (L.map Fc.fi)) W2 (HD.out.later (below_on bb hb2)) HFT.out
    ⟨Below.refl _ _, fun _ _ _ _ _ => rfl, E1, ⟨none, hL2, rfl⟩, rfl⟩ (fun d W W' => JC.stab (by omega) (by omega) (by omega) d W W')
    (crashChg w.heap.size W2.heap.size L.length (w.heap.size + 1) w1.heap.size kn W2 (L.map Fc.fi) (by omega) (by omega) (by omega) (by omega) (by omega) hkn (fun f hf => ⟨(HFM.out.num f hf).2.2.1, (HFM.out.num f hf).2.2.2⟩)))
  have E2 := Lib.hid ((B2.out.later b1).later hb2)
  have HBB := Lib.hid (below_on bb hb2)
  have HS2 := Lib.hid hs2
  clear k0
  go_wp2_with fail
  refine NC.out.mono ?_
  rintro e w3 ⟨v, L2, rfl, hO, hl, hJ⟩
  obtain ⟨V, cv, rfl, -, -, -, -⟩ := own_form hO.row
  obtain ⟨P, hP1, hP2⟩ := hJ.lbox
  have hfi := hJ.fi
  rw [hl] at hP2 hfi
  rw [HOO.out] at hP2
  have b3 : Below w.heap.size w w3 := HBB.out.trans hJ.low
  have z3 : Blk w3 (w.heap.size + 1 + 1) 24 #[.int .i64 0, .slice none 0 0] := (hJ.mid _ (by omega) E2.out.lt (by omega) (by omega)).trans E2.out
  have hz2 : w.heap.size + 1 + 1 < W2.heap.size := E2.out.lt
  have hz3 : W2.heap.size ≤ w3.heap.size := hJ.low.size
  have HLL := Lib.hid hl; have HO := Lib.hid hO; have HFI := Lib.hid hfi; have HB3 := Lib.hid b3; have HZ3 := Lib.hid z3
  clear hl hO hfi hJ b3 z3
  cases o with
  | none =>
    have hPn : P = none := hP2
    subst hPn
    have p0 := (hP1.alloc (.cells #[.int .i64 room, .slice V L2.length cv] 24)).cell (i := 0) rfl
    have a0 := (Blk.new w3 24 #[.int .i64 room, .slice V L2.length cv]).cell (i := 0) rfl
    have a1 := (Blk.new w3 24 #[.int .i64 room, .slice V L2.length cv]).cell (i := 1) rfl
    have O4 := Lib.hid (HO.out.later (below_new (Below.refl w3.heap.size w3) (.cells #[.int .i64 room, .slice V L2.length cv] 24)))
    have B4 := Lib.hid (below_new HB3.out (.cells #[.int .i64 room, .slice V L2.length cv] 24))
    clear hP1 hP2
    have z' := HZ3.out.alloc (.cells #[.int .i64 room, .slice V L2.length cv] 24)
    have y0 := z'.cell (i := 0) rfl
    have y1 := z'.cell (i := 1) rfl
    have s0 := z'.free 0
    have s1 := z'.free 1
    have hz := (z'.put 0 (.int .i64 room)).put 1 (.slice V L2.length cv)
    have z0 := Lib.hid (hz.cell (i := 0) rfl)
    have z1 := Lib.hid (hz.cell (i := 1) rfl)
    have hbz := ((B4.out).setCell (p := ⟨w.heap.size + 1 + 1, 0, none⟩) (by show w.heap.size ≤ w.heap.size + 1 + 1; omega) (.int .i64 room)).setCell (p := ⟨w.heap.size + 1 + 1, 1, none⟩) (by show w.heap.size ≤ w.heap.size + 1 + 1; omega) (.slice V L2.length cv)
    have hO2 := (((O4.out).low (p := ⟨w.heap.size + 1 + 1, 0, none⟩) (by show w.heap.size + 1 + 1 < _; omega) (.int .i64 room)).low (p := ⟨w.heap.size + 1 + 1, 1, none⟩) (by show w.heap.size + 1 + 1 < _; omega) (.slice V L2.length cv)).lower (base' := w.heap.size) (by omega)
    have FIN := Lib.hid (show GivesDE (room, Dk.atF (Dk.turnF (tn : Int)) none (Dk.crsTo kn (L.map Fc.fi) L.length), 0) w (.returned (.tuple #[.agg #[.int .i64 room, .slice V L2.length cv], .int .i64 0])) _ from ⟨_, L2, rfl, hO2, HFI.out, hbz⟩)
    clear z' hz hbz  hO2
    go_wp2
    have z0 := z0.out
    have z1 := z1.out
    exact bodyPost_ret (v := .tuple #[.agg #[.int .i64 room, .slice V L2.length cv], .int .i64 0]) (by simp [results, Tryd.results23, go_sem, z0, z1]) rfl FIN.out
  | some j =>
    obtain ⟨x, b, hx, hX, hpos, rfl⟩ := hP2
    have hob := HO.out.each x (List.mem_of_getElem? hx)
    obtain ⟨b', cur, hb', hge, hBk, hsz, hcur⟩ := hob.at_ _ hX
    injection hb' with hb'
    subst hb'
    obtain ⟨y, hy⟩ : ∃ y, x.l.getD (x.l.length - 1) 0 = y := ⟨_, rfl⟩
    have hcell : w3.cell? ⟨b, x.l.length - 1, none⟩ = some (.int .u8 y) := by
      refine hBk.cell ?_
      have h1 := bCells_get x.l (x.l.length - 1) (by omega)
      rw [← hcur, List.getElem?_take, hy] at h1
      split at h1
      · simpa using h1
      · cases h1
    have hyb : isB y := by
      rw [← hy, List.getD_eq_getElem?_getD, List.getElem?_eq_getElem (by omega)]
      exact hob.byte _ (List.getElem_mem _)
    obtain ⟨W4, hW4⟩ : ∃ W4, w3.alloc (.cells #[.int .i64 room, .slice V L2.length cv] 24) = W4 := ⟨_, rfl⟩
    have b4 : Below w3.heap.size w3 W4 := by rw [← hW4]; exact below_new (Below.refl _ _) _
    have A4 : Blk W4 w3.heap.size 24 #[.int .i64 room, .slice V L2.length cv] := by rw [← hW4]; exact Blk.new _ _ _
    have O4 := HO.out.later b4
    obtain ⟨g, cap, hgv⟩ := own_len O4.row (by have := (List.getElem?_eq_some_iff.1 hx).1; omega)
    injection hgv with hgv1 hgv2 hgv3
    subst hgv1 hgv3
    have ho4 := O4.each x (List.mem_of_getElem? hx)
    have hng : x.blk ≠ some g := ho4.off_row O4.row (by decide)
    have hxb : x.blk = some b := by unfold Fc.blk; rw [hX]; rfl
    have hbg : g ≠ b := fun e => hng (by rw [hxb, e])
    have hbl := (hob.lt b hxb).2
    have hnw : OwnB (W4.setCell ⟨b, x.l.length - 1, none⟩ (.int .u8 (Dk.trn y (tn : Int)))) W2.heap.size 5 { x with l := x.l.set (x.l.length - 1) (Dk.trn y (tn : Int)) } := ho4.put hX _ _ (Dk.trn_byte hyb ⟨t0, t1⟩)
    have O5 : OwnD (W4.setCell ⟨b, x.l.length - 1, none⟩ (.int .u8 (Dk.trn y (tn : Int)))) W2.heap.size 50 5 (.slice (some ⟨g, 0, none⟩) L2.length cv) (L2.set j { x with l := x.l.set (x.l.length - 1) (Dk.trn y (tn : Int)) }) :=
      O4.upd (by decide) rfl hx (by
        rw [fCells_same L2 j x _ hx (by rw [List.length_set])]
        exact own_stays O4.row (fun k hk => by
          have : g = k := by injection hk
          subst this
          exact Below.heap_setCell _ _ _ _ hbg)) hnw rfl (fun k _ _ h3 => Below.heap_setCell _ _ _ _ (fun e => h3 (by rw [hxb]; exact congrArg some e.symm)))
    have p0 := (show Blk W4 w1.heap.size 60 #[.pointer (some ⟨b, x.l.length - 1, none⟩)] from by rw [← hW4]; exact hP1.alloc _).cell (i := 0) rfl
    have p1 : W4.cell? ⟨b, x.l.length - 1, none⟩ = some (.int .u8 y) := cell_later b4 hcell
    have p2 : W4.frozen? ⟨b, x.l.length - 1, none⟩ = false := (b4.frozen (p := ⟨b, x.l.length - 1, none⟩) hbl).trans (hBk.free _)
    have A5 : Blk (W4.setCell ⟨b, x.l.length - 1, none⟩ (.int .u8 (Dk.trn y (tn : Int)))) w3.heap.size 24 #[.int .i64 room, .slice (some ⟨g, 0, none⟩) L2.length cv] := A4.far (by show w3.heap.size ≠ b; omega) _
    have Z5 : Blk (W4.setCell ⟨b, x.l.length - 1, none⟩ (.int .u8 (Dk.trn y (tn : Int)))) (w.heap.size + 1 + 1) 24 #[.int .i64 0, .slice none 0 0] := (HZ3.out.later b4).far (by show w.heap.size + 1 + 1 ≠ b; omega) _
    have B5 := (below_on HB3.out b4).setCell (p := ⟨b, x.l.length - 1, none⟩) (by show w.heap.size ≤ b; omega) (.int .u8 (Dk.trn y (tn : Int)))
    have a0 := A5.cell (i := 0) rfl
    have a1 := A5.cell (i := 1) rfl
    have hfin : (L2.set j { x with l := x.l.set (x.l.length - 1) (Dk.trn y (tn : Int)) }).map Fc.fi = Dk.atF (Dk.turnF (tn : Int)) (some j) (Dk.crsTo kn (L.map Fc.fi) L.length) := by
      have h1 : (Dk.crsTo kn (L.map Fc.fi) L.length)[j]? = some x.fi := by rw [← HFI.out, List.getElem?_map, hx]; rfl
      rw [Dk.atF_some h1, List.map_set, HFI.out]
      congr 1
      unfold Dk.turnF Fc.fi
      rw [hy]
    have O6 := Lib.hid O5; have Z6 := Lib.hid Z5; have B6 := Lib.hid B5; have HF6 := Lib.hid hfin
    unfold Dk.trn at a0 a1
    clear hP1 hx hX hob hBk hcur hcell hy A4 O4 ho4 hnw O5 A5 Z5 B5 hfin b4 hxb
    obtain ⟨W5, hW5⟩ : ∃ W5, W4.setCell ⟨b, x.l.length - 1, none⟩ (.int .u8 (bits BinOp.xor IntKind.u8 y (tn : Int))) = W5 := ⟨_, rfl⟩
    have O7 := Lib.hid (show OwnD W5 W2.heap.size 50 5 (.slice (some ⟨g, 0, none⟩) L2.length cv) (L2.set j { x with l := x.l.set (x.l.length - 1) (Dk.trn y (tn : Int)) }) from by rw [← hW5]; exact O6.out)
    have Z7 := Lib.hid (show Blk W5 (w.heap.size + 1 + 1) 24 #[.int .i64 0, .slice none 0 0] from by rw [← hW5]; exact Z6.out)
    have B7 := Lib.hid (show Below w.heap.size w W5 from by rw [← hW5]; exact B6.out)
    rw [hW5] at a0 a1
    have z' := Z7.out
    have y0 := z'.cell (i := 0) rfl
    have y1 := z'.cell (i := 1) rfl
    have s0 := z'.free 0
    have s1 := z'.free 1
    have hz := (z'.put 0 (.int .i64 room)).put 1 (.slice (some ⟨g, 0, none⟩) L2.length cv)
    have z0 := Lib.hid (hz.cell (i := 0) rfl)
    have z1 := Lib.hid (hz.cell (i := 1) rfl)
    have hbz := ((B7.out).setCell (p := ⟨w.heap.size + 1 + 1, 0, none⟩) (by show w.heap.size ≤ w.heap.size + 1 + 1; omega) (.int .i64 room)).setCell (p := ⟨w.heap.size + 1 + 1, 1, none⟩) (by show w.heap.size ≤ w.heap.size + 1 + 1; omega) (.slice (some ⟨g, 0, none⟩) L2.length cv)
    have hO2 := (((O7.out).low (p := ⟨w.heap.size + 1 + 1, 0, none⟩) (by show w.heap.size + 1 + 1 < _; omega) (.int .i64 room)).low (p := ⟨w.heap.size + 1 + 1, 1, none⟩) (by show w.heap.size + 1 + 1 < _; omega) (.slice (some ⟨g, 0, none⟩) L2.length cv)).lower (base' := w.heap.size) (by omega)
    have FIN := Lib.hid (show GivesDE (room, Dk.atF (Dk.turnF (tn : Int)) (some j) (Dk.crsTo kn (L.map Fc.fi) L.length), 0) w (.returned (.tuple #[.agg #[.int .i64 room, .slice (some ⟨g, 0, none⟩) L2.length cv], .int .i64 0])) _ from ⟨_, _, rfl, hO2, HF6.out, hbz⟩)
    clear z' hz hbz  hO2
    go_wp2
    have z0 := z0.out
    have z1 := z1.out
    exact bodyPost_ret (v := .tuple #[.agg #[.int .i64 room, .slice (some ⟨g, 0, none⟩) L2.length cv], .int .i64 0]) (by simp [results, Tryd.results23, go_sem, z0, z1]) rfl FIN.out
end Go.Proofs.YtkhggofcbdcliaaDoor
