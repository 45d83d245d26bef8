/-
  A note and a write as arguments, opened.
  A slice of bytes as an argument, opened as a list of bytes; what a bound on the bulk of all that is read gives.
  What a bound on the bulk of all that is read gives: how long each slice is.
  A note, a body and a message as arguments, opened, with what is known of their numbers.
-/
import Derived.Test.YtbbmngabbbehcaaG30
import Derived.Test.YtbbmngabbbehcaaG04
import Derived.Test.YtbbmngabbbehcaaG25
import Derived.Lib.SmallJoins
import Derived.Test.YtbbmngabbbehcaaG02
import Derived.Test.YtbbmngabbbehcaaRows
import Derived.Test.YtbbmngabbbehcaaG28
import Derived.Test.YtbbmngabbbehcaaG16
namespace Go.Proofs.Ytbbmngabbbehcaa
open Go.ChangeShapes Go.WideShapes Go.RowKit Go.Deep

section
variable {H : Type} {enc : TypeId × Value → H} {P : Program} {w : World}

/-- The cells of a write. -/
theorem write_cells {base : Nat} {spare : Nat → Bool} {held : Bool} {fuel : Nat} {t ti : TypeId} {g0 g1 g2 s0 s1 : Field} {cs : List Value} {x : DataW H × List MemPlace}
    (hs : P.underlying t = some (.struct #[g0, g1, g2])) (hC : P.cellsOf t = 4) (k0 : P.cellsOf g0.type = 2) (o0 : g0.offset = 0) (k1 : P.cellsOf g1.type = 1) (o1 : g1.offset = 2) (k2 : P.cellsOf g2.type = 1) (o2 : g2.offset = 3)
    (hss : P.underlying g0.type = some (.struct #[s0, s1])) (hone : Deep.oneCellFields P #[s0, s1] = true) (hi0 : s0.type = ti) (hi1 : s1.type = ti) (hi : P.underlying ti = some (.int .i64)) (h1 : P.underlying g1.type = some (.int .i64)) (hb : P.underlying g2.type = some .bool)
    (h : DataW.trod enc P w base spare held fuel t cs = some x) : ∃ y : Wr, cs = Nt.wrCell y := by
  obtain ⟨y0, y1, y2, m, rfl, hl, q0, q1, q2⟩ := trod_struct3 hs h
  rw [hC] at hl
  obtain ⟨a0, a1, a2, a3, rfl⟩ : ∃ a0 a1 a2 a3, cs = [a0, a1, a2, a3] := by
    match cs, hl with
    | [a0, a1, a2, a3], _ => exact ⟨a0, a1, a2, a3, rfl⟩
  rw [o0, k0] at q0
  rw [o1, k1] at q1
  rw [o2, k2] at q2
  obtain ⟨c, n, e0, _⟩ := stamp_cells hss hone k0 hi0 hi1 hi q0
  obtain ⟨o, e1, _, _⟩ := DataW.trod_int h1 q1
  obtain ⟨g, e2, _⟩ := DataW.trod_bool hb q2
  simp at e0 e1 e2
  obtain ⟨rfl, rfl⟩ := e0
  subst e1 e2
  exact ⟨(c, n, o, g), rfl⟩

/-- A write by value. -/
theorem open_write {base b0 : Nat} {spare : Nat → Bool} {held : Bool} {r : Reach} {t ti : TypeId} {g0 g1 g2 s0 s1 : Field} {v : Value} {d : DataW H} {p : List MemPlace}
    (hs : P.underlying t = some (.struct #[g0, g1, g2])) (hC : P.cellsOf t = 4) (k0 : P.cellsOf g0.type = 2) (o0 : g0.offset = 0) (k1 : P.cellsOf g1.type = 1) (o1 : g1.offset = 2) (k2 : P.cellsOf g2.type = 1) (o2 : g2.offset = 3)
    (hss : P.underlying g0.type = some (.struct #[s0, s1])) (hone : Deep.oneCellFields P #[s0, s1] = true) (hi0 : s0.type = ti) (hi1 : s1.type = ti) (hi : P.underlying ti = some (.int .i64)) (h1 : P.underlying g1.type = some (.int .i64)) (hb : P.underlying g2.type = some .bool)
    (hv : Value.okWide P w r b0 t v) (h : DataW.Trod enc P w base spare held t v d p) : ∃ y : Wr, v = .agg (Nt.wrArr y) := by
  obtain ⟨cs, rfl, _⟩ := okWide_struct hs hv
  obtain ⟨fuel, hf⟩ := h
  obtain ⟨y, hy⟩ := write_cells hs hC k0 o0 k1 o1 k2 o2 hss hone hi0 hi1 hi h1 hb hf
  refine ⟨y, ?_⟩
  have : cs = Nt.wrArr y := by
    apply Array.toList_inj.1
    rw [show cs.toList = Nt.wrCell y from hy]
    rfl
  rw [this]

/-- How long a list is, by its reading. -/
def LenD (d : DataW H) (k : Nat) : Prop := k = 0 ∨ ∃ elems spare, d = .slice elems spare ∧ elems.length = k

/-- A note by value. -/
theorem open_note {b0 : Nat} {r : Reach} {t es ep ew : TypeId} {f0 f1 f2 f3 : Field} {v : Value} {d : DataW H} {p : List MemPlace}
    (hs : P.underlying t = some (.struct #[f0, f1, f2, f3])) (hone : Deep.oneCellFields P #[f0, f1, f2, f3] = true) (hC : P.cellsOf t = 4)
    (u0 : P.underlying f0.type = some (.slice es)) (u1 : P.underlying f1.type = some (.slice es)) (u2 : P.underlying f2.type = some (.slice ep)) (u3 : P.underlying f3.type = some (.slice ew)) (cS : P.cellsOf es = 2) (cP : P.cellsOf ep = 2) (cW : P.cellsOf ew = 4)
    (HS : ∀ (fuel : Nat) (cs : List Value) (x : DataW H × List MemPlace), DataW.trod enc P w 0 (fun _ => true) true fuel es cs = some x → ∃ a, cs = stCell a)
    (HP : ∀ (fuel : Nat) (cs : List Value) (x : DataW H × List MemPlace), DataW.trod enc P w 0 (fun _ => true) true fuel ep cs = some x → ∃ a, cs = stCell a)
    (HW : ∀ (fuel : Nat) (cs : List Value) (x : DataW H × List MemPlace), DataW.trod enc P w 0 (fun _ => true) true fuel ew cs = some x → ∃ a, cs = Nt.wrCell a)
    (hv : Value.okWide P w r b0 t v) (h : DataW.Trod enc P w 0 (fun _ => true) true t v d p) :
    ∃ (S E B V : Option Addr) (cs ce cb cv : Nat) (n : Note), v = .agg (noteCells S E B V cs ce cb cv n) ∧ NoteAt w S E B V cs ce cb cv n ∧
      ∃ d0 d1 d2 d3, d = .agg [d0, d1, d2, d3] ∧ LenD d0 n.s.length ∧ LenD d1 n.e.length ∧ LenD d2 n.b.length ∧ LenD d3 n.ws.length := by
  obtain ⟨cs, rfl, hsz⟩ := okWide_struct hs hv
  obtain ⟨fuel, hf⟩ := h
  obtain ⟨y0, y1, y2, y3, m, hx, _, q0, q1, q2, q3⟩ := Go.Joins.trod_struct4 hs hf
  obtain ⟨o0, k0⟩ := Deep.hone_of hone 0 f0 rfl
  obtain ⟨o1, k1⟩ := Deep.hone_of hone 1 f1 rfl
  obtain ⟨o2, k2⟩ := Deep.hone_of hone 2 f2 rfl
  obtain ⟨o3, k3⟩ := Deep.hone_of hone 3 f3 rfl
  rw [hC] at hsz
  obtain ⟨a0, a1, a2, a3, hcs⟩ : ∃ a0 a1 a2 a3, cs.toList = [a0, a1, a2, a3] := by
    have hl : cs.toList.length = 4 := by simpa using hsz
    match cs.toList, hl with
    | [a0, a1, a2, a3], _ => exact ⟨a0, a1, a2, a3, rfl⟩
  have hcc : (Value.agg cs).cells.toList = [a0, a1, a2, a3] := hcs
  rw [hcc] at q0 q1 q2 q3
  rw [o0, k0] at q0
  rw [o1, k1] at q1
  rw [o2, k2] at q2
  rw [o3, k3] at q3
  simp at q0 q1 q2 q3
  obtain ⟨S, c0, l0, e0, g0, g0', g0'', L0, z0⟩ := open_list_at (0, 0) stCell (size := 2) (fun _ => rfl) u0 cS (by decide) HS q0
  obtain ⟨E, c1, l1, e1, g1, g1', g1'', L1, z1⟩ := open_list_at (0, 0) stCell (size := 2) (fun _ => rfl) u1 cS (by decide) HS q1
  obtain ⟨B, c2, l2, e2, g2, g2', g2'', L2, z2⟩ := open_list_at (0, 0) stCell (size := 2) (fun _ => rfl) u2 cP (by decide) HP q2
  obtain ⟨V, c3, l3, e3, g3, g3', g3'', L3, z3⟩ := open_list_at Nt.zeroW Nt.wrCell (size := 4) (fun _ => rfl) u3 cW (by decide) HW q3
  rw [stCells_flat] at L0 L1 L2
  simp at e0 e1 e2 e3
  subst e0 e1 e2 e3
  have hv2 : cs = noteCells S E B V c0 c1 c2 c3 ⟨l0, l1, l2, l3⟩ := by
    apply Array.toList_inj.1
    rw [hcs]
    rfl
  have hd : d = .agg [y0.1, y1.1, y2.1, y3.1] := congrArg Prod.fst hx
  refine ⟨S, E, B, V, c0, c1, c2, c3, ⟨l0, l1, l2, l3⟩, by rw [hv2], ⟨⟨g0, g0', g0'', L0⟩, ⟨g1, g1', g1'', L1⟩, ⟨g2, g2', g2'', L2⟩, ⟨g3, g3', g3'', L3⟩⟩, _, _, _, _, hd, ?_, ?_, ?_, ?_⟩
  · rcases z0 with ⟨_, z, _⟩ | ⟨el, sp, z, z', _⟩
    · exact .inl z
    · exact .inr ⟨el, sp, z, z'⟩
  · rcases z1 with ⟨_, z, _⟩ | ⟨el, sp, z, z', _⟩
    · exact .inl z
    · exact .inr ⟨el, sp, z, z'⟩
  · rcases z2 with ⟨_, z, _⟩ | ⟨el, sp, z, z', _⟩
    · exact .inl z
    · exact .inr ⟨el, sp, z, z'⟩
  · rcases z3 with ⟨_, z, _⟩ | ⟨el, sp, z, z', _⟩
    · exact .inl z
    · exact .inr ⟨el, sp, z, z'⟩

/-- How long a list inside a struct argument can be. -/
theorem sized_field {ts : List TypeId} {ds : List (DataW H)} (h : (DataW.weightsEach P ts ds).all (· ≤ reachBytes) = true) {j : Nat} {t : TypeId} {fs : Array Field} {parts : List (DataW H)} (ht : ts[j]? = some t) (hd : ds[j]? = some (.agg parts)) (hu : P.underlying t = some (.struct fs))
    {i : Nat} {tf e : TypeId} {x : DataW H} {k : Nat} (hti : (fs.toList.map (·.type))[i]? = some tf) (hpi : parts[i]? = some x) (hue : P.underlying tf = some (.slice e)) (hx : LenD x k) : k * P.bytesOf e ≤ reachBytes := by
  rcases hx with rfl | ⟨elems, spare, rfl, rfl⟩
  · omega
  · have hin : (elems.length + spare.length) * P.bytesOf e ∈ DataW.weights P tf (.slice elems spare) := by unfold DataW.weights; rw [hue]; exact List.mem_cons_self ..
    have hmid : (elems.length + spare.length) * P.bytesOf e ∈ DataW.weights P t (.agg parts) := by
      unfold DataW.weights
      rw [hu]
      exact DataW.weights_mem_each hti hpi _ hin
    have hall := List.all_eq_true.1 h _ (DataW.weights_mem_each ht hd _ hmid)
    have h2 : (elems.length + spare.length) * P.bytesOf e ≤ reachBytes := by simpa using hall
    exact Nat.le_trans (Nat.mul_le_mul_right _ (Nat.le_add_right _ _)) h2
end

end Go.Proofs.Ytbbmngabbbehcaa
namespace Go.Proofs.Ytbbmngabbbehcaa
open Go.ChangeShapes Go.WideShapes Go.RowKit Go.Deep

section
variable {H : Type} {enc : TypeId × Value → H} {P : Program} {w : World}
/-- A slice of bytes. -/
theorem open_bytes {r : Reach} {b0 : Nat} {t e : TypeId} {v : Value} {d : DataW H} {p : List MemPlace}
    (ht : P.underlying t = some (.slice e)) (hi : P.underlying e = some (.int .u8)) (hC : P.cellsOf e = 1)
    (hv : Value.okWide P w r b0 t v) (h : DataW.Trod enc P w 0 (fun _ => true) true t v d p) :
    ∃ (A : Option Addr) (cap : Nat) (l : List Int), v = .slice A l.length cap ∧ OneB w A cap l ∧
      ((d = .nil ∧ l.length = 0 ∧ cap = 0) ∨ ∃ elems spare, d = .slice elems spare ∧ elems.length = l.length ∧ elems.length + spare.length = cap) := by
  have := open_list (0 : Int) (fun n => [Value.int .u8 n]) isB (size := 1) (fun _ => rfl) ht hC (by decide)
    (fun fuel cs x hx => by
      obtain ⟨a, e0, rfl, wa⟩ := DataW.trod_int hi hx
      refine ⟨a, e0, ?_⟩
      have hb : IntKind.u8.min ≤ a ∧ a ≤ IntKind.u8.max := by simpa [Lit.wf] using wa
      have e1 : IntKind.u8.min = 0 := by decide
      have e2 : IntKind.u8.max = 255 := by decide
      rw [e1, e2] at hb
      exact ⟨hb.1, by omega⟩) hv h
  obtain ⟨A, cap, l, h1, h2, h3, h4, h5, h6, h7⟩ := this
  have hfl : ∀ l : List Int, l.flatMap (fun n => [Value.int .u8 n]) = bCells l := fun l => by
    induction l with
    | nil => rfl
    | cons s r ih =>
      rw [List.flatMap_cons, ih]
      rfl
  rw [hfl] at h5
  exact ⟨A, cap, l, h1, ⟨h2, h3, h4, h5, h6⟩, h7⟩
end

end Go.Proofs.Ytbbmngabbbehcaa
namespace Go.Proofs.Ytbbmngabbbehcaa

theorem bulk_one {H : Type} (d : DataW H) : 1 ≤ Rows.uptoBulk d := by
  cases d with
  | lit l => cases l <;> simp [Rows.uptoBulk]
  | nil => simp [Rows.uptoBulk]
  | ptr d => simp [Rows.uptoBulk]
  | slice elems spare => simp [Rows.uptoBulk]
  | agg parts => simp [Rows.uptoBulk]
  | iface t d => simp [Rows.uptoBulk]
  | map entries => simp [Rows.uptoBulk]
  | held h => simp [Rows.uptoBulk]
theorem bulk_length {H : Type} (l : List (DataW H)) : l.length ≤ Rows.uptoBulkAll l := by
  induction l with
  | nil => simp [Rows.uptoBulkAll]
  | cons x r ih =>
    have := bulk_one x
    simp only [Rows.uptoBulkAll, List.length_cons]
    omega
theorem bulk_slice {H : Type} {d : DataW H} {n cap : Nat} (h : (d = .nil ∧ n = 0 ∧ cap = 0) ∨ ∃ elems spare, d = .slice elems spare ∧ elems.length = n ∧ elems.length + spare.length = cap) : n ≤ Rows.uptoBulk d := by
  rcases h with ⟨_, h, _⟩ | ⟨elems, spare, rfl, h1, _⟩
  · omega
  · have h2 := bulk_length elems
    simp only [Rows.uptoBulk]
    omega
theorem bulk_all {H : Type} {l : List (DataW H)} (h : Rows.uptoSmall H l = true) : Rows.uptoBulkAll l ≤ 1048576 := of_decide_eq_true h
theorem bulk_cons {H : Type} (d : DataW H) (l : List (DataW H)) : Rows.uptoBulkAll (d :: l) = Rows.uptoBulk d + Rows.uptoBulkAll l := by simp only [Rows.uptoBulkAll]

end Go.Proofs.Ytbbmngabbbehcaa
namespace Go.Proofs.Ytbbmngabbbehcaa
open Go.ChangeShapes Go.WideShapes Go.RowKit Go.Deep

set_option maxRecDepth 100000
theorem list4 {cs : List Value} (h : cs.length = 4) : ∃ a0 a1 a2 a3, cs = [a0, a1, a2, a3] := by
  match cs, h with
  | [a0, a1, a2, a3], _ => exact ⟨a0, a1, a2, a3, rfl⟩
theorem list12 {cs : List Value} (h : cs.length = 12) : ∃ a0 a1 a2 a3 a4 a5 a6 a7 a8 a9 a10 a11, cs = [a0, a1, a2, a3, a4, a5, a6, a7, a8, a9, a10, a11] := by
  match cs, h with
  | [a0, a1, a2, a3, a4, a5, a6, a7, a8, a9, a10, a11], _ => exact ⟨a0, a1, a2, a3, a4, a5, a6, a7, a8, a9, a10, a11, rfl⟩
theorem list9 {α : Type} {xs : List α} (h : xs.length = 9) : ∃ y0 y1 y2 y3 y4 y5 y6 y7 y8, xs = [y0, y1, y2, y3, y4, y5, y6, y7, y8] := by
  match xs, h with
  | [y0, y1, y2, y3, y4, y5, y6, y7, y8], _ => exact ⟨y0, y1, y2, y3, y4, y5, y6, y7, y8, rfl⟩

section
variable {H : Type} {enc : TypeId × Value → H} {w : World}

/-- A slice whose elements' cells are known by 'f', at its own cell; and something of each element. -/
theorem open_list_good {P : Program} {α : Type} (z : α) (f : α → List Value) (good : α → Prop) {size : Nat} (hf : ∀ a, (f a).length = size) {t e : TypeId} {fuel0 : Nat} {cs0 : List Value} {y : DataW H × List MemPlace}
    (ht : P.underlying t = some (.slice e)) (hC : P.cellsOf e = size) (hsz : 0 < size)
    (helem : ∀ (fuel : Nat) (cs : List Value) (x : DataW H × List MemPlace), DataW.trod enc P w 0 (fun _ => true) true fuel e cs = some x → ∃ a, cs = f a ∧ good a)
    (hfu : DataW.trod enc P w 0 (fun _ => true) true fuel0 t cs0 = some y) :
    ∃ (A : Option Addr) (cap : Nat) (l : List α), cs0 = [.slice A l.length cap] ∧ l.length ≤ cap ∧ cap ≤ maxLen ∧ (A = none → l.length = 0 ∧ cap = 0) ∧ Lies w A (l.flatMap f) ∧ (∀ a ∈ l, good a) ∧ LenD y.1 l.length := by
  rcases open_slice ht hfu with ⟨hcs, hx⟩ | ⟨a, len, cap, m, n, D, Pl, hcs, _, hl, hm, hmm, hx, hi⟩
  · subst hcs hx
    exact ⟨none, 0, [], rfl, Nat.le_refl _, Nat.zero_le _, fun _ => ⟨rfl, rfl⟩, Lies.nil, (fun _ h => by cases h), .inl rfl⟩
  · simp at hmm
    subst hmm
    obtain ⟨g, hg⟩ := pick (n := len) (p := fun i s => good s ∧ ∀ j, j < size → w.cell? (a.add (i * size + j)) = (f s)[j]?) z (fun i hi' => by
      obtain ⟨cs', hc, ht'⟩ := hi i (by omega)
      rw [hC] at hc
      obtain ⟨s, rfl, hs⟩ := helem _ _ _ ht'
      obtain ⟨_, _, hcell⟩ := World.cells?_some hc
      refine ⟨s, hs, fun j hj => ?_⟩
      rw [← hcell j hj, Go.Deep.add_add])
    refine ⟨some a, m, (List.range len).map g, by simpa using hcs, by simpa using hl, hm, (fun h => by cases h), (fun hne => ?_), ?_, .inr ⟨_, _, by rw [hx], by simp⟩⟩
    · have hpos : 0 < len := by
        rcases Nat.eq_zero_or_pos len with h0 | h0
        · subst h0; simp at hne
        · exact h0
      obtain ⟨b, off, spot⟩ := a
      have h00 := (hg 0 hpos).2 0 hsz
      have hspot : spot = none := by
        have hlen := hf (g 0)
        rw [List.getElem?_eq_getElem (by omega)] at h00
        simpa [Addr.add] using World.cell?_spot h00
      subst hspot
      refine ⟨b, off, rfl, fun j u hu => ?_⟩
      obtain ⟨i, r, s, h1, h2, h3, h4⟩ := flat_get f hf _ j u hu
      have hil : i < len := by
        have := (List.getElem?_eq_some_iff.1 h1).1
        simpa using this
      simp [hil] at h1
      subst h1
      rw [← Go.WideShapes.add_plain, h3, (hg i hil).2 r h2]
      exact h4
    · intro s hs
      simp at hs
      obtain ⟨i, hil, rfl⟩ := hs
      exact (hg i hil).1
theorem len_bulk {d : DataW H} {k : Nat} (h : LenD d k) : k ≤ Rows.uptoBulk d := by
  rcases h with rfl | ⟨el, sp, rfl, rfl⟩
  · exact Nat.zero_le _
  · have := bulk_length el
    simp only [Rows.uptoBulk]
    omega

theorem cellsInt : Try.prog.cellsOf 3 = 1 := by kernel_rfl
theorem cellsBool : Try.prog.cellsOf 4 = 1 := by kernel_rfl
theorem cellsSt : Try.prog.cellsOf 61 = 2 := by kernel_rfl
theorem cellsSp : Try.prog.cellsOf 95 = 2 := by kernel_rfl
theorem cellsWr : Try.prog.cellsOf 101 = 4 := by kernel_rfl
theorem cellsNt : Try.prog.cellsOf 51 = 4 := by kernel_rfl
theorem cellsBd : Try.prog.cellsOf 63 = 4 := by kernel_rfl
theorem cellsMs : Try.prog.cellsOf 74 = 12 := by kernel_rfl
theorem cellsLS : Try.prog.cellsOf 22 = 1 := by kernel_rfl
theorem cellsLP : Try.prog.cellsOf 40 = 1 := by kernel_rfl
theorem cellsLW : Try.prog.cellsOf 49 = 1 := by kernel_rfl
theorem cellsLN : Try.prog.cellsOf 72 = 1 := by kernel_rfl
theorem cellsLB : Try.prog.cellsOf 23 = 1 := by kernel_rfl
theorem cellsB : Try.prog.cellsOf 5 = 1 := by kernel_rfl
theorem stampE (fuel : Nat) (cs : List Value) (x : DataW H × List MemPlace) (h : DataW.trod enc Try.prog w 0 (fun _ => true) true fuel 61 cs = some x) : ∃ a, cs = stCell a ∧ (a.1 ≤ 9223372036854775807 ∧ a.2 ≤ 9223372036854775807) := by
  obtain ⟨c, n, rfl, _, _, h2, _, h4⟩ := stamp_cells Try.underlying61 (by kernel_rfl) (by kernel_rfl) rfl rfl Try.underlying3 h
  exact ⟨(c, n), rfl, h2, h4⟩
theorem spanE (fuel : Nat) (cs : List Value) (x : DataW H × List MemPlace) (h : DataW.trod enc Try.prog w 0 (fun _ => true) true fuel 95 cs = some x) : ∃ a, cs = stCell a ∧ (a.1 ≤ 9223372036854775807 ∧ a.2 ≤ 9223372036854775807) := by
  obtain ⟨c, n, rfl, _, _, h2, _, h4⟩ := stamp_cells Try.underlying95 (by kernel_rfl) (by kernel_rfl) rfl rfl Try.underlying3 h
  exact ⟨(c, n), rfl, h2, h4⟩
theorem writeE (fuel : Nat) (cs : List Value) (x : DataW H × List MemPlace) (h : DataW.trod enc Try.prog w 0 (fun _ => true) true fuel 101 cs = some x) : ∃ y : Wr, cs = Nt.wrCell y ∧ y.1 ≤ 9223372036854775807 := by
  obtain ⟨y0, y1, y2, m, rfl, hl, q0, q1, q2⟩ := trod_struct3 Try.underlying101 h
  rw [cellsWr] at hl
  obtain ⟨a0, a1, a2, a3, rfl⟩ := list4 hl
  dsimp only at q0 q1 q2
  rw [cellsSt] at q0
  rw [cellsInt] at q1
  rw [cellsBool] at q2
  obtain ⟨c, n, e0, _, _, hc, _⟩ := stamp_cells Try.underlying61 (by kernel_rfl) (by kernel_rfl) rfl rfl Try.underlying3 q0
  obtain ⟨o, e1, _, _⟩ := DataW.trod_int Try.underlying3 q1
  obtain ⟨g, e2, _⟩ := DataW.trod_bool Try.underlying4 q2
  simp at e0 e1 e2
  obtain ⟨rfl, rfl⟩ := e0
  subst e1 e2
  exact ⟨(c, n, o, g), rfl, hc⟩
theorem byteE (fuel : Nat) (cs : List Value) (x : DataW H × List MemPlace) (h : DataW.trod enc Try.prog w 0 (fun _ => true) true fuel 5 cs = some x) : ∃ a : Int, cs = [.int .u8 a] ∧ isB a := by
  obtain ⟨a, e0, rfl, wa⟩ := DataW.trod_int Try.underlying5 h
  refine ⟨a, e0, ?_⟩
  have hb : IntKind.u8.min ≤ a ∧ a ≤ IntKind.u8.max := by simpa [Lit.wf] using wa
  have e1 : IntKind.u8.min = 0 := by decide
  have e2 : IntKind.u8.max = 255 := by decide
  rw [e1, e2] at hb
  exact ⟨hb.1, by omega⟩
theorem intE {fuel : Nat} {cs : List Value} {x : DataW H × List MemPlace} (h : DataW.trod enc Try.prog w 0 (fun _ => true) true fuel 3 cs = some x) : ∃ a : Int, cs = [.int .i64 a] ∧ a ≤ 9223372036854775807 := by
  obtain ⟨a, e0, rfl, wa⟩ := DataW.trod_int Try.underlying3 h
  exact ⟨a, e0, (bounds_i64 wa).2⟩
theorem bytes_flat (l : List Int) : l.flatMap (fun n => [Value.int .u8 n]) = bCells l := by
  induction l with
  | nil => rfl
  | cons s r ih =>
    rw [List.flatMap_cons, ih]
    rfl
/-- Lists in a cell. -/
theorem stampsE {fuel : Nat} {cs : List Value} {x : DataW H × List MemPlace} (h : DataW.trod enc Try.prog w 0 (fun _ => true) true fuel 22 cs = some x) : ∃ A c l, cs = [.slice A (List.length l) c] ∧ OneL w A c l ∧ Ints l ∧ LenD x.1 l.length := by
  obtain ⟨A, c, l, h1, h2, h3, h4, h5, h6, h7⟩ := open_list_good (0, 0) stCell (fun a => a.1 ≤ 9223372036854775807 ∧ a.2 ≤ 9223372036854775807) (size := 2) (fun _ => rfl) Try.underlying22 cellsSt (by decide) stampE h
  rw [stCells_flat] at h5
  exact ⟨A, c, l, h1, ⟨h2, h3, h4, h5⟩, h6, h7⟩
theorem spansE {fuel : Nat} {cs : List Value} {x : DataW H × List MemPlace} (h : DataW.trod enc Try.prog w 0 (fun _ => true) true fuel 40 cs = some x) : ∃ A c l, cs = [.slice A (List.length l) c] ∧ OneL w A c l ∧ Ints l ∧ LenD x.1 l.length := by
  obtain ⟨A, c, l, h1, h2, h3, h4, h5, h6, h7⟩ := open_list_good (0, 0) stCell (fun a => a.1 ≤ 9223372036854775807 ∧ a.2 ≤ 9223372036854775807) (size := 2) (fun _ => rfl) Try.underlying40 cellsSp (by decide) spanE h
  rw [stCells_flat] at h5
  exact ⟨A, c, l, h1, ⟨h2, h3, h4, h5⟩, h6, h7⟩
theorem writesE {fuel : Nat} {cs : List Value} {x : DataW H × List MemPlace} (h : DataW.trod enc Try.prog w 0 (fun _ => true) true fuel 49 cs = some x) : ∃ A c l, cs = [.slice A (List.length l) c] ∧ OneW w A c l ∧ (∀ y ∈ l, y.1 ≤ 9223372036854775807) ∧ LenD x.1 l.length := by
  obtain ⟨A, c, l, h1, h2, h3, h4, h5, h6, h7⟩ := open_list_good Nt.zeroW Nt.wrCell (fun y => y.1 ≤ 9223372036854775807) (size := 4) (fun _ => rfl) Try.underlying49 cellsWr (by decide) writeE h
  exact ⟨A, c, l, h1, ⟨h2, h3, h4, h5⟩, h6, h7⟩
theorem bytesE {fuel : Nat} {cs : List Value} {x : DataW H × List MemPlace} (h : DataW.trod enc Try.prog w 0 (fun _ => true) true fuel 23 cs = some x) : ∃ A c l, cs = [.slice A (List.length l) c] ∧ OneB w A c l ∧ LenD x.1 l.length := by
  obtain ⟨A, c, l, h1, h2, h3, h4, h5, h6, h7⟩ := open_list_good (0 : Int) (fun n => [Value.int .u8 n]) isB (size := 1) (fun _ => rfl) Try.underlying23 cellsB (by decide) byteE h
  rw [bytes_flat] at h5
  exact ⟨A, c, l, h1, ⟨h2, h3, h4, h5, h6⟩, h7⟩
/-- A note's cells. -/
theorem noteE' {fuel : Nat} {cs : List Value} {x : DataW H × List MemPlace} (h : DataW.trod enc Try.prog w 0 (fun _ => true) true fuel 51 cs = some x) :
    ∃ S E B V cs' ce cb cv n, cs = (noteCells S E B V cs' ce cb cv n).toList ∧ NoteAt w S E B V cs' ce cb cv n ∧ Wi.IntsN n ∧ ∃ d0 d1 d2 d3, x.1 = .agg [d0, d1, d2, d3] ∧ LenD d0 n.s.length ∧ LenD d1 n.e.length ∧ LenD d2 n.b.length ∧ LenD d3 n.ws.length := by
  obtain ⟨y0, y1, y2, y3, m, hx, hl, q0, q1, q2, q3⟩ := Go.Joins.trod_struct4 Try.underlying51 h
  rw [cellsNt] at hl
  obtain ⟨a0, a1, a2, a3, rfl⟩ := list4 hl
  dsimp only at q0 q1 q2 q3
  rw [cellsLS] at q0 q1
  rw [cellsLP] at q2
  rw [cellsLW] at q3
  obtain ⟨S, c0, l0, e0, o0, g0, z0⟩ := stampsE q0
  obtain ⟨E, c1, l1, e1, o1, g1, z1⟩ := stampsE q1
  obtain ⟨B, c2, l2, e2, o2, g2, z2⟩ := spansE q2
  obtain ⟨V, c3, l3, e3, o3, g3, z3⟩ := writesE q3
  simp at e0 e1 e2 e3
  subst e0 e1 e2 e3
  exact ⟨S, E, B, V, c0, c1, c2, c3, ⟨l0, l1, l2, l3⟩, rfl, ⟨o0, o1, o2, o3⟩, ⟨g0, g1, g3⟩, _, _, _, _, congrArg Prod.fst hx, z0, z1, z2, z3⟩
/-- A note where it lies. -/
structure NoteV where
  S : Option Addr
  E : Option Addr
  B : Option Addr
  V : Option Addr
  cs : Nat
  ce : Nat
  cb : Nat
  cv : Nat
  n : Note
def NoteV.cells (q : NoteV) : List Value := (noteCells q.S q.E q.B q.V q.cs q.ce q.cb q.cv q.n).toList
def zeroV : NoteV := ⟨none, none, none, none, 0, 0, 0, 0, zeroN⟩
theorem noteE (fuel : Nat) (cs : List Value) (x : DataW H × List MemPlace) (h : DataW.trod enc Try.prog w 0 (fun _ => true) true fuel 51 cs = some x) : ∃ q : NoteV, cs = q.cells ∧ (NoteAt w q.S q.E q.B q.V q.cs q.ce q.cb q.cv q.n ∧ Wi.IntsN q.n) := by
  obtain ⟨S, E, B, V, c0, c1, c2, c3, n, h1, h2, h3, _⟩ := noteE' h
  exact ⟨⟨S, E, B, V, c0, c1, c2, c3, n⟩, h1, h2, h3⟩
theorem flat_at {α : Type} {size : Nat} (f : α → List Value) (hf : ∀ a, (f a).length = size) (z : α) : ∀ (l : List α) (k j : Nat), k < l.length → j < size → (l.flatMap f)[k * size + j]? = (f (l.getD k z))[j]?
  | [], k, j, hk, _ => by simp at hk
  | a :: r, 0, j, _, hj => by
    rw [List.flatMap_cons, Nat.zero_mul, Nat.zero_add, List.getElem?_append_left (by rw [hf]; exact hj)]
    rfl
  | a :: r, k + 1, j, hk, hj => by
    rw [List.flatMap_cons, Nat.add_mul, Nat.one_mul, List.getElem?_append_right (by rw [hf]; omega), hf, show k * size + size + j - size = k * size + j from by omega]
    exact flat_at f hf z r k j (by simpa using hk) hj
theorem notesE {fuel : Nat} {cs : List Value} {x : DataW H × List MemPlace} (h : DataW.trod enc Try.prog w 0 (fun _ => true) true fuel 72 cs = some x) : ∃ A c l, cs = [.slice A (List.length l) c] ∧ OneN w A c l ∧ (∀ y ∈ l, Wi.IntsN y) := by
  obtain ⟨A, c, l, h1, h2, h3, h4, h5, h6, h7⟩ := open_list_good zeroV NoteV.cells (fun q => NoteAt w q.S q.E q.B q.V q.cs q.ce q.cb q.cv q.n ∧ Wi.IntsN q.n) (size := 4) (fun _ => rfl) Try.underlying72 cellsNt (by decide) noteE h
  have hget : ∀ k, k < l.length → (l.map (·.n)).getD k zeroN = (l.getD k zeroV).n := fun k hk => by
    rw [List.getD_eq_getElem?_getD, List.getD_eq_getElem?_getD, List.getElem?_map]
    rw [List.getElem?_eq_getElem hk]
    rfl
  refine ⟨A, c, l.map (·.n), by simpa using h1, ⟨by simpa using h2, h3, by simpa using h4, fun hne => ?_⟩, fun y hy => ?_⟩
  · have hl : l ≠ [] := fun e => hne (by rw [e]; rfl)
    obtain ⟨b, off, hA, hc⟩ := h5 (fun e => by
      obtain ⟨q, r, rfl⟩ := List.exists_cons_of_ne_nil hl
      simp [NoteV.cells, noteCells] at e)
    refine ⟨b, off, hA, fun k hk => ?_⟩
    rw [List.length_map] at hk
    have hm : l.getD k zeroV ∈ l := by rw [List.getD_eq_getElem?_getD, List.getElem?_eq_getElem hk]; exact List.getElem_mem hk
    rw [hget k hk]
    have hat := fun j (hj : j < 4) => flat_at NoteV.cells (size := 4) (fun _ => rfl) zeroV l k j hk hj
    obtain ⟨q, hq⟩ : ∃ q, l.getD k zeroV = q := ⟨_, rfl⟩
    rw [hq] at hat hm ⊢
    have c0 := hc (k * 4 + 0) _ ((hat 0 (by omega)).trans rfl)
    have c1 := hc (k * 4 + 1) _ ((hat 1 (by omega)).trans rfl)
    have c2 := hc (k * 4 + 2) _ ((hat 2 (by omega)).trans rfl)
    have c3 := hc (k * 4 + 3) _ ((hat 3 (by omega)).trans rfl)
    exact ⟨q.S, q.E, q.B, q.V, q.cs, q.ce, q.cb, q.cv, by simpa using c0, by simpa [Nat.add_assoc] using c1, by simpa [Nat.add_assoc] using c2, by simpa [Nat.add_assoc] using c3, (h6 q hm).1⟩
  · obtain ⟨q, hq, rfl⟩ := List.mem_map.1 hy
    exact (h6 q hq).2
/-- A body's cells. -/
theorem bodyE {fuel : Nat} {cs : List Value} {x : DataW H × List MemPlace} (h : DataW.trod enc Try.prog w 0 (fun _ => true) true fuel 63 cs = some x) :
    ∃ D d y, cs = (bdCells D d y).toList ∧ OneB w D d y.v ∧ y.c ≤ 9223372036854775807 ∧ ∃ d0 d1 d2, x.1 = .agg [d0, d1, d2] ∧ LenD d2 y.v.length := by
  obtain ⟨y0, y1, y2, m, hx, hl, q0, q1, q2⟩ := trod_struct3 Try.underlying63 h
  rw [cellsBd] at hl
  obtain ⟨a0, a1, a2, a3, rfl⟩ := list4 hl
  dsimp only at q0 q1 q2
  rw [cellsInt] at q0
  rw [cellsSt] at q1
  rw [cellsLB] at q2
  obtain ⟨o, e0, _⟩ := intE q0
  obtain ⟨c, n, e1, _, _, hc, _⟩ := stamp_cells Try.underlying61 (by kernel_rfl) (by kernel_rfl) rfl rfl Try.underlying3 q1
  obtain ⟨D, d, l, e2, hD, z2⟩ := bytesE q2
  simp at e0 e1 e2
  obtain ⟨rfl, rfl⟩ := e1
  subst e0 e2
  exact ⟨D, d, ⟨o, c, n, l⟩, rfl, hD, hc, _, _, _, congrArg Prod.fst hx, z2⟩
/-- A message's cells. -/
theorem msgE {fuel : Nat} {cs : List Value} {x : DataW H × List MemPlace} (h : DataW.trod enc Try.prog w 0 (fun _ => true) true fuel 74 cs = some x) :
    ∃ I V N D ci cv cn d m, cs = (msCells I V N D ci cv cn d m).toList ∧ MsAt w I V N D ci cv cn d m ∧ Wi.IntsM m := by
  obtain ⟨xs, n, _, -, hl, hlen, hf⟩ := DataW.trod_struct Try.underlying74 h
  rw [cellsMs] at hl
  obtain ⟨a0, a1, a2, a3, a4, a5, a6, a7, a8, a9, a10, a11, rfl⟩ := list12 hl
  have hl9 : xs.length = 9 := hlen
  obtain ⟨y0, y1, y2, y3, y4, y5, y6, y7, y8, rfl⟩ := list9 hl9
  have q0 : DataW.trod enc Try.prog w 0 (fun _ => true) true n 3 (([a0, a1, a2, a3, a4, a5, a6, a7, a8, a9, a10, a11].drop 0).take (Try.prog.cellsOf 3)) = some y0 := hf 0 _ rfl
  have q1 : DataW.trod enc Try.prog w 0 (fun _ => true) true n 3 (([a0, a1, a2, a3, a4, a5, a6, a7, a8, a9, a10, a11].drop 1).take (Try.prog.cellsOf 3)) = some y1 := hf 1 _ rfl
  have q2 : DataW.trod enc Try.prog w 0 (fun _ => true) true n 3 (([a0, a1, a2, a3, a4, a5, a6, a7, a8, a9, a10, a11].drop 2).take (Try.prog.cellsOf 3)) = some y2 := hf 2 _ rfl
  have q3 : DataW.trod enc Try.prog w 0 (fun _ => true) true n 3 (([a0, a1, a2, a3, a4, a5, a6, a7, a8, a9, a10, a11].drop 3).take (Try.prog.cellsOf 3)) = some y3 := hf 3 _ rfl
  have q4 : DataW.trod enc Try.prog w 0 (fun _ => true) true n 3 (([a0, a1, a2, a3, a4, a5, a6, a7, a8, a9, a10, a11].drop 4).take (Try.prog.cellsOf 3)) = some y4 := hf 4 _ rfl
  have q5 : DataW.trod enc Try.prog w 0 (fun _ => true) true n 40 (([a0, a1, a2, a3, a4, a5, a6, a7, a8, a9, a10, a11].drop 5).take (Try.prog.cellsOf 40)) = some y5 := hf 5 _ rfl
  have q6 : DataW.trod enc Try.prog w 0 (fun _ => true) true n 22 (([a0, a1, a2, a3, a4, a5, a6, a7, a8, a9, a10, a11].drop 6).take (Try.prog.cellsOf 22)) = some y6 := hf 6 _ rfl
  have q7 : DataW.trod enc Try.prog w 0 (fun _ => true) true n 72 (([a0, a1, a2, a3, a4, a5, a6, a7, a8, a9, a10, a11].drop 7).take (Try.prog.cellsOf 72)) = some y7 := hf 7 _ rfl
  have q8 : DataW.trod enc Try.prog w 0 (fun _ => true) true n 63 (([a0, a1, a2, a3, a4, a5, a6, a7, a8, a9, a10, a11].drop 8).take (Try.prog.cellsOf 63)) = some y8 := hf 8 _ rfl
  rw [cellsInt] at q0 q1 q2 q3 q4
  rw [cellsLP] at q5
  rw [cellsLS] at q6
  rw [cellsLN] at q7
  rw [cellsBd] at q8
  obtain ⟨k, e0, _⟩ := intE q0
  obtain ⟨f, e1, _⟩ := intE q1
  obtain ⟨t, e2, _⟩ := intE q2
  obtain ⟨s, e3, hs⟩ := intE q3
  obtain ⟨q, e4, hq⟩ := intE q4
  obtain ⟨I, ci, it, e5, o5, _, _⟩ := spansE q5
  obtain ⟨V, cv, vc, e6, o6, g6, _⟩ := stampsE q6
  obtain ⟨N, cn, ns, e7, o7, g7⟩ := notesE q7
  obtain ⟨D, d, b, e8, o8, g8, _⟩ := bodyE q8
  simp at e0 e1 e2 e3 e4 e5 e6 e7
  unfold bdCells at e8
  simp at e8
  obtain ⟨e8, e9, e10, e11⟩ := e8
  subst e0 e1 e2 e3 e4 e5 e6 e7 e8 e9 e10 e11
  exact ⟨I, V, N, D, ci, cv, cn, d, ⟨k, f, t, s, q, it, vc, ns, b⟩, rfl, ⟨o5, o6, o7, o8⟩, ⟨hs, hq, g6, g7, g8⟩⟩

theorem agg_ext {cs ds : Array Value} (h : cs.toList = ds.toList) : cs = ds := Array.toList_inj.1 h
/-- A note by value. -/
theorem open_note2 {r : Reach} {b0 : Nat} {v : Value} {d : DataW H} {p : List MemPlace} (hv : Value.okWide Try.prog w r b0 51 v) (h : DataW.Trod enc Try.prog w 0 (fun _ => true) true 51 v d p) :
    ∃ S E B V cs ce cb cv n, v = .agg (noteCells S E B V cs ce cb cv n) ∧ NoteAt w S E B V cs ce cb cv n ∧ Wi.IntsN n ∧ n.s.length ≤ Rows.uptoBulk d ∧ n.e.length ≤ Rows.uptoBulk d ∧ n.b.length ≤ Rows.uptoBulk d ∧ n.ws.length ≤ Rows.uptoBulk d := by
  obtain ⟨cs, rfl, _⟩ := okWide_struct Try.underlying51 hv
  obtain ⟨fuel, hf⟩ := h
  obtain ⟨S, E, B, V, c0, c1, c2, c3, n, h1, h2, h3, d0, d1, d2, d3, hd, z0, z1, z2, z3⟩ := noteE' hf
  have hd : d = .agg [d0, d1, d2, d3] := hd
  subst hd
  have k0 := len_bulk z0
  have k1 := len_bulk z1
  have k2 := len_bulk z2
  have k3 := len_bulk z3
  have hb : Rows.uptoBulk (DataW.agg [d0, d1, d2, d3]) = Rows.uptoBulk d0 + (Rows.uptoBulk d1 + (Rows.uptoBulk d2 + (Rows.uptoBulk d3 + 0))) + 1 := by simp only [Rows.uptoBulk, Rows.uptoBulkAll]
  refine ⟨S, E, B, V, c0, c1, c2, c3, n, congrArg Value.agg (agg_ext (cs := cs) (ds := noteCells S E B V c0 c1 c2 c3 n) h1), h2, h3, ?_, ?_, ?_, ?_⟩ <;> omega
/-- A body by value. -/
theorem open_body {r : Reach} {b0 : Nat} {v : Value} {d : DataW H} {p : List MemPlace} (hv : Value.okWide Try.prog w r b0 63 v) (h : DataW.Trod enc Try.prog w 0 (fun _ => true) true 63 v d p) :
    ∃ D c y, v = .agg (bdCells D c y) ∧ OneB w D c y.v ∧ y.c ≤ 9223372036854775807 ∧ y.v.length ≤ Rows.uptoBulk d := by
  obtain ⟨cs, rfl, _⟩ := okWide_struct Try.underlying63 hv
  obtain ⟨fuel, hf⟩ := h
  obtain ⟨D, c, y, h1, h2, h3, d0, d1, d2, hd, z2⟩ := bodyE hf
  have hd : d = .agg [d0, d1, d2] := hd
  subst hd
  have k2 := len_bulk z2
  have hb : Rows.uptoBulk (DataW.agg [d0, d1, d2]) = Rows.uptoBulk d0 + (Rows.uptoBulk d1 + (Rows.uptoBulk d2 + 0)) + 1 := by simp only [Rows.uptoBulk, Rows.uptoBulkAll]
  exact ⟨D, c, y, congrArg Value.agg (agg_ext (cs := cs) (ds := bdCells D c y) h1), h2, h3, by omega⟩
/-- A message by value. -/
theorem open_msg {r : Reach} {b0 : Nat} {v : Value} {d : DataW H} {p : List MemPlace} (hv : Value.okWide Try.prog w r b0 74 v) (h : DataW.Trod enc Try.prog w 0 (fun _ => true) true 74 v d p) :
    ∃ I V N D ci cv cn c m, v = .agg (msCells I V N D ci cv cn c m) ∧ MsAt w I V N D ci cv cn c m ∧ Wi.IntsM m := by
  obtain ⟨cs, rfl, _⟩ := okWide_struct Try.underlying74 hv
  obtain ⟨fuel, hf⟩ := h
  obtain ⟨I, V, N, D, ci, cv, cn, c, m, h1, h2, h3⟩ := msgE hf
  exact ⟨I, V, N, D, ci, cv, cn, c, m, congrArg Value.agg (agg_ext (cs := cs) (ds := msCells I V N D ci cv cn c m) h1), h2, h3⟩
/-- Lists by value. -/
theorem open_stamps2 {r : Reach} {b0 : Nat} {v : Value} {d : DataW H} {p : List MemPlace} (hv : Value.okWide Try.prog w r b0 22 v) (h : DataW.Trod enc Try.prog w 0 (fun _ => true) true 22 v d p) :
    ∃ A c l, v = .slice A (List.length l) c ∧ OneL w A c l ∧ Ints l ∧ l.length ≤ Rows.uptoBulk d := by
  obtain ⟨a0, n0, c0, rfl⟩ := okWide_slice Try.underlying22 hv
  obtain ⟨fuel, hf⟩ := h
  obtain ⟨A, c, l, h1, h2, h3, h4⟩ := stampsE hf
  have h1 : [Value.slice a0 n0 c0] = [.slice A l.length c] := h1
  injection h1 with h1
  exact ⟨A, c, l, h1, h2, h3, len_bulk h4⟩
theorem open_spans2 {r : Reach} {b0 : Nat} {v : Value} {d : DataW H} {p : List MemPlace} (hv : Value.okWide Try.prog w r b0 40 v) (h : DataW.Trod enc Try.prog w 0 (fun _ => true) true 40 v d p) :
    ∃ A c l, v = .slice A (List.length l) c ∧ OneL w A c l ∧ l.length ≤ Rows.uptoBulk d := by
  obtain ⟨a0, n0, c0, rfl⟩ := okWide_slice Try.underlying40 hv
  obtain ⟨fuel, hf⟩ := h
  obtain ⟨A, c, l, h1, h2, h3, h4⟩ := spansE hf
  have h1 : [Value.slice a0 n0 c0] = [.slice A l.length c] := h1
  injection h1 with h1
  exact ⟨A, c, l, h1, h2, len_bulk h4⟩
theorem open_bytes2 {r : Reach} {b0 : Nat} {v : Value} {d : DataW H} {p : List MemPlace} (hv : Value.okWide Try.prog w r b0 23 v) (h : DataW.Trod enc Try.prog w 0 (fun _ => true) true 23 v d p) :
    ∃ A c l, v = .slice A (List.length l) c ∧ OneB w A c l ∧ l.length ≤ Rows.uptoBulk d := by
  obtain ⟨a0, n0, c0, rfl⟩ := okWide_slice Try.underlying23 hv
  obtain ⟨fuel, hf⟩ := h
  obtain ⟨A, c, l, h1, h2, h3⟩ := bytesE hf
  have h1 : [Value.slice a0 n0 c0] = [.slice A l.length c] := h1
  injection h1 with h1
  exact ⟨A, c, l, h1, h2, len_bulk h3⟩
end

end Go.Proofs.Ytbbmngabbbehcaa
