/-
  A disk as an argument, opened: its files, and how many there can be.
-/
import Derived.Test.YtgjcpdcepmgafaaOpen
import Derived.Test.YtgjcpdcepmgafaaDkCopy
import Derived.Lib.SmallJoins
namespace Go.Proofs.Ytgjcpdcepmgafaa
open Go.ChangeShapes Go.WideShapes Go.RowKit Go.Deep

set_option maxRecDepth 100000
theorem list3 {cs : List Value} (h : cs.length = 3) : ∃ a0 a1 a2, cs = [a0, a1, a2] := by
  match cs, h with
  | [a0, a1, a2], _ => exact ⟨a0, a1, a2, rfl⟩
theorem list2 {cs : List Value} (h : cs.length = 2) : ∃ a0 a1, cs = [a0, a1] := by
  match cs, h with
  | [a0, a1], _ => exact ⟨a0, a1, rfl⟩

section
variable {H : Type} {enc : TypeId × Value → H} {w : World}
/-- The datum of a list of k things, of each of which something is known. -/
def LenG (d : DataW H) (k : Nat) : Prop := k = 0 ∨ ∃ elems spare, d = .slice elems spare ∧ elems.length = k
/-- A slice whose elements' cells are known by 'f', at its own cell; and something of each element and of its datum. -/
theorem open_list_with {P : Program} {α : Type} (z : α) (f : α → List Value) (good : α → DataW H → Prop) {size : Nat} (hf : ∀ a, (f a).length = size) {t e : TypeId} {fuel0 : Nat} {cs0 : List Value} {y : DataW H × List MemPlace}
    (ht : P.underlying t = some (.slice e)) (hC : P.cellsOf e = size) (hsz : 0 < size)
    (helem : ∀ (fuel : Nat) (cs : List Value) (x : DataW H × List MemPlace), DataW.trod enc P w 0 (fun _ => true) true fuel e cs = some x → ∃ a, cs = f a ∧ good a x.1)
    (hfu : DataW.trod enc P w 0 (fun _ => true) true fuel0 t cs0 = some y) :
    ∃ (A : Option Addr) (cap : Nat) (l : List α), cs0 = [.slice A l.length cap] ∧ l.length ≤ cap ∧ cap ≤ maxLen ∧ (A = none → l.length = 0 ∧ cap = 0) ∧ Lies w A (l.flatMap f) ∧
      (l = [] ∨ ∃ elems spare, y.1 = .slice elems spare ∧ elems.length = l.length ∧ ∀ a ∈ l, ∃ d ∈ elems, good a d) := by
  rcases open_slice ht hfu with ⟨hcs, hx⟩ | ⟨a, len, cap, m, n, D, Pl, hcs, _, hl, hm, hmm, hx, hi⟩
  · subst hcs hx
    exact ⟨none, 0, [], rfl, Nat.le_refl _, Nat.zero_le _, fun _ => ⟨rfl, rfl⟩, Lies.nil, .inl rfl⟩
  · simp at hmm
    subst hmm
    obtain ⟨g, hg⟩ := pick (n := len) (p := fun i s => good s (D i) ∧ ∀ j, j < size → w.cell? (a.add (i * size + j)) = (f s)[j]?) z (fun i hi' => by
      obtain ⟨cs', hc, ht'⟩ := hi i (by omega)
      rw [hC] at hc
      obtain ⟨s, rfl, hs⟩ := helem _ _ _ ht'
      obtain ⟨_, _, hcell⟩ := World.cells?_some hc
      refine ⟨s, hs, fun j hj => ?_⟩
      rw [← hcell j hj, Go.Deep.add_add])
    refine ⟨some a, m, (List.range len).map g, by simpa using hcs, by simpa using hl, hm, (fun h => by cases h), (fun hne => ?_), .inr ⟨_, _, by rw [hx], by simp, fun s hs => ?_⟩⟩
    · have hpos : 0 < len := by
        rcases Nat.eq_zero_or_pos len with h0 | h0
        · subst h0; simp at hne
        · exact h0
      obtain ⟨b, off, spot⟩ := a
      have h00 := (hg 0 hpos).2 0 hsz
      have hspot : spot = none := by
        have hlen := hf (g 0)
        rw [List.getElem?_eq_getElem (by omega)] at h00
        simpa [Addr.add] using World.cell?_spot h00
      subst hspot
      refine ⟨b, off, rfl, fun j u hu => ?_⟩
      obtain ⟨i, r, s, h1, h2, h3, h4⟩ := flat_get f hf _ j u hu
      have hil : i < len := by
        have := (List.getElem?_eq_some_iff.1 h1).1
        simpa using this
      simp [hil] at h1
      subst h1
      rw [← Go.WideShapes.add_plain, h3, (hg i hil).2 r h2]
      exact h4
    · simp at hs
      obtain ⟨i, hil, rfl⟩ := hs
      exact ⟨D i, List.mem_map.2 ⟨i, List.mem_range.2 hil, rfl⟩, (hg i hil).1⟩

theorem dkInt : Try.prog.cellsOf 3 = 1 := by kernel_rfl
theorem dkB : Try.prog.cellsOf 5 = 1 := by kernel_rfl
theorem dkLB : Try.prog.cellsOf 25 = 1 := by kernel_rfl
theorem dkFile : Try.prog.cellsOf 43 = 3 := by kernel_rfl
theorem dkLF : Try.prog.cellsOf 22 = 1 := by kernel_rfl
theorem dkDisk : Try.prog.cellsOf 24 = 2 := by kernel_rfl
theorem dkBytesB : Try.prog.bytesOf 5 = 1 := by kernel_rfl
theorem dkBytesF : Try.prog.bytesOf 43 = 40 := by kernel_rfl
theorem dk_byteE (fuel : Nat) (cs : List Value) (x : DataW H × List MemPlace) (h : DataW.trod enc Try.prog w 0 (fun _ => true) true fuel 5 cs = some x) : ∃ a : Int, cs = [.int .u8 a] ∧ isB a := by
  obtain ⟨a, e0, rfl, wa⟩ := DataW.trod_int Try.underlying5 h
  refine ⟨a, e0, ?_⟩
  have hb : IntKind.u8.min ≤ a ∧ a ≤ IntKind.u8.max := by simpa [Lit.wf] using wa
  have e1 : IntKind.u8.min = 0 := by decide
  have e2 : IntKind.u8.max = 255 := by decide
  rw [e1, e2] at hb
  exact ⟨hb.1, by omega⟩
theorem dk_flat (l : List Int) : l.flatMap (fun n => [Value.int .u8 n]) = bCells l := by
  induction l with
  | nil => rfl
  | cons s r ih =>
    rw [List.flatMap_cons, ih]
    rfl
theorem dk_bytesE {fuel : Nat} {cs : List Value} {x : DataW H × List MemPlace} (h : DataW.trod enc Try.prog w 0 (fun _ => true) true fuel 25 cs = some x) : ∃ A c l, cs = [.slice A (List.length l) c] ∧ OneB w A c l ∧ LenG x.1 l.length := by
  obtain ⟨A, c, l, h1, h2, h3, h4, h5, h6⟩ := open_list_with (0 : Int) (fun n => [Value.int .u8 n]) (fun a _ => isB a) (size := 1) (fun _ => rfl) Try.underlying25 dkB (by decide) (fun fuel cs x h => dk_byteE fuel cs x h) h
  rw [dk_flat] at h5
  refine ⟨A, c, l, h1, ⟨h2, h3, h4, h5, fun x hx => ?_⟩, ?_⟩
  · rcases h6 with rfl | ⟨_, _, _, _, h7⟩
    · cases hx
    · obtain ⟨_, _, h8⟩ := h7 x hx
      exact h8
  · rcases h6 with rfl | ⟨el, sp, h7, h8, _⟩
    · exact .inl rfl
    · exact .inr ⟨el, sp, h7, h8⟩
/-- What is known of a file and of its datum. -/
def FileG (w : World) (f : Fc) (d : DataW H) : Prop := OneB w f.X f.c f.l ∧ ∃ d0 d1 d2, d = .agg [d0, d1, d2] ∧ LenG d1 f.l.length
theorem dk_fileE (fuel : Nat) (cs : List Value) (x : DataW H × List MemPlace) (h : DataW.trod enc Try.prog w 0 (fun _ => true) true fuel 43 cs = some x) : ∃ f : Fc, cs = fCells [f] ∧ FileG w f x.1 := by
  obtain ⟨y0, y1, y2, m, hx, hl, q0, q1, q2⟩ := trod_struct3 Try.underlying43 h
  rw [dkFile] at hl
  obtain ⟨a0, a1, a2, rfl⟩ := list3 hl
  dsimp only at q0 q1 q2
  rw [dkInt] at q0 q2
  rw [dkLB] at q1
  obtain ⟨n, e0, _, _⟩ := DataW.trod_int Try.underlying3 q0
  obtain ⟨X, c, l, e1, o1, z1⟩ := dk_bytesE q1
  obtain ⟨s, e2, _, _⟩ := DataW.trod_int Try.underlying3 q2
  simp at e0 e1 e2
  subst e0 e1 e2
  exact ⟨⟨n, X, c, l, s⟩, rfl, o1, _, _, _, congrArg Prod.fst hx, z1⟩
theorem fCells_flat (l : List Fc) : l.flatMap (fun f => fCells [f]) = fCells l := by
  induction l with
  | nil => rfl
  | cons s r ih =>
    rw [List.flatMap_cons, ih]
    rfl
/-- A disk by value. -/
theorem open_disk {r : Reach} {b0 : Nat} {v : Value} {d : DataW H} {p : List MemPlace} (hv : Value.okWide Try.prog w r b0 24 v) (h : DataW.Trod enc Try.prog w 0 (fun _ => true) true 24 v d p) :
    ∃ (room : Int) (A : Option Addr) (c : Nat) (L : List Fc), v = .agg #[.int .i64 room, .slice A L.length c] ∧ OneD w A c L ∧
      ∃ d0 d1, d = .agg [d0, d1] ∧ (L = [] ∨ ∃ elems spare, d1 = .slice elems spare ∧ elems.length = L.length ∧ ∀ f ∈ L, ∃ x ∈ elems, FileG w f x) := by
  obtain ⟨cs, rfl, _⟩ := okWide_struct Try.underlying24 hv
  obtain ⟨fuel, hf⟩ := h
  obtain ⟨y0, y1, m, hx, hl, q0, q1⟩ := trod_struct2 Try.underlying24 hf
  have hcc : (Value.agg cs).cells.toList = cs.toList := rfl
  rw [hcc] at hl q0 q1
  rw [dkDisk] at hl
  obtain ⟨a0, a1, hcs⟩ := list2 hl
  rw [hcs] at q0 q1
  dsimp only at q0 q1
  rw [dkInt] at q0
  rw [dkLF] at q1
  obtain ⟨room, e0, _, _⟩ := DataW.trod_int Try.underlying3 q0
  obtain ⟨A, c, L, e1, h2, h3, h4, h5, h6⟩ := open_list_with Fc.zero (fun f => fCells [f]) (fun f d => FileG w f d) (size := 3) (fun _ => rfl) Try.underlying22 dkFile (by decide) (fun fuel cs x h => dk_fileE fuel cs x h) q1
  rw [fCells_flat] at h5
  simp at e0 e1
  subst e0 e1
  refine ⟨room, A, c, L, congrArg Value.agg (Array.toList_inj.1 hcs), ⟨h2, h3, h4, h5, fun f hf2 => ?_⟩, _, _, congrArg Prod.fst hx, h6⟩
  rcases h6 with rfl | ⟨_, _, _, _, h7⟩
  · cases hf2
  · obtain ⟨_, _, h8⟩ := h7 f hf2
    exact h8.1
theorem dk_weightsAll (P : Program) (e : TypeId) : ∀ l : List (DataW H), DataW.weightsAll P e l = l.flatMap (DataW.weights P e)
  | [] => rfl
  | d :: r => by rw [List.flatMap_cons, ← dk_weightsAll P e r]; rfl
/-- How much it can be. -/
theorem fit_disk {ts : List TypeId} {ds : List (DataW H)} (h : (DataW.weightsEach Try.prog ts ds).all (· ≤ reachBytes) = true) {j : Nat} {d0 d1 : DataW H} {L : List Fc} (ht : ts[j]? = some 24) (hd : ds[j]? = some (.agg [d0, d1]))
    (h6 : L = [] ∨ ∃ elems spare, d1 = .slice elems spare ∧ elems.length = L.length ∧ ∀ f ∈ L, ∃ x ∈ elems, FileG w f x) : Fit L := by
  rcases h6 with rfl | ⟨elems, spare, rfl, hl, h7⟩
  · exact ⟨by simp, fun _ h => by cases h⟩
  · have top : ∀ k, k ∈ DataW.weights Try.prog 22 (.slice elems spare) → k ≤ reachBytes := fun k hk => by
      have hmid : k ∈ DataW.weights Try.prog 24 (.agg [d0, .slice elems spare]) := by
        unfold DataW.weights
        rw [Try.underlying24]
        exact DataW.weights_mem_each (j := 1) rfl rfl _ hk
      simpa using List.all_eq_true.1 h _ (DataW.weights_mem_each ht hd _ hmid)
    refine ⟨?_, fun f hf => ?_⟩
    · have h1 := top ((elems.length + spare.length) * Try.prog.bytesOf 43) (by unfold DataW.weights; rw [Try.underlying22]; exact List.mem_cons_self ..)
      rw [dkBytesF] at h1
      simp only [reachBytes] at h1
      omega
    · obtain ⟨x, hx, -, q0, q1, q2, rfl, z⟩ := h7 f hf
      rcases z with z | ⟨el, sp, rfl, z⟩
      · omega
      · have h1 := top ((el.length + sp.length) * Try.prog.bytesOf 5) (by
          unfold DataW.weights
          rw [Try.underlying22]
          refine List.mem_cons_of_mem _ (List.mem_append_left _ ?_)
          rw [dk_weightsAll]
          refine List.mem_flatMap.2 ⟨_, hx, ?_⟩
          unfold DataW.weights
          rw [Try.underlying43]
          refine DataW.weights_mem_each (j := 1) rfl rfl _ ?_
          unfold DataW.weights
          rw [Try.underlying25]
          exact List.mem_cons_self ..)
        rw [dkBytesB] at h1
        simp only [reachBytes] at h1
        omega
end
end Go.Proofs.Ytgjcpdcepmgafaa
