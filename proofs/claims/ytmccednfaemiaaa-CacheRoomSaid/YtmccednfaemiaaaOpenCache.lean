/-
  Bodies as arguments, opened: a list of them, and one alone; and how many and how long they can be.
-/
import Derived.Test.YtmccednfaemiaaaOpenWith
import Derived.Test.YtmccednfaemiaaaOpenBytes
import Derived.Test.YtmccednfaemiaaaCaSpec
namespace Go.Proofs.Ytmccednfaemiaaa
open Go.ChangeShapes Go.WideShapes Go.RowKit Go.Deep

set_option maxRecDepth 100000
theorem ca_list4 {cs : List Value} (h : cs.length = 4) : ∃ a0 a1 a2 a3, cs = [a0, a1, a2, a3] := by
  match cs, h with
  | [a0, a1, a2, a3], _ => exact ⟨a0, a1, a2, a3, rfl⟩
section
variable {H : Type} {enc : TypeId × Value → H} {w : World}
theorem caInt : Try.prog.cellsOf 3 = 1 := by kernel_rfl
theorem caB : Try.prog.cellsOf 5 = 1 := by kernel_rfl
theorem caLB : Try.prog.cellsOf 28 = 1 := by kernel_rfl
theorem caSt : Try.prog.cellsOf 24 = 2 := by kernel_rfl
theorem caBd : Try.prog.cellsOf 38 = 4 := by kernel_rfl
theorem caBytesB : Try.prog.bytesOf 5 = 1 := by kernel_rfl
theorem caBytesBd : Try.prog.bytesOf 38 = 48 := by kernel_rfl
theorem ca_byteE (fuel : Nat) (cs : List Value) (x : DataW H × List MemPlace) (h : DataW.trod enc Try.prog w 0 (fun _ => true) true fuel 5 cs = some x) : ∃ a : Int, cs = [.int .u8 a] ∧ isB a := by
  obtain ⟨a, e0, rfl, wa⟩ := DataW.trod_int Try.underlying5 h
  refine ⟨a, e0, ?_⟩
  have hb : IntKind.u8.min ≤ a ∧ a ≤ IntKind.u8.max := by simpa [Lit.wf] using wa
  have e1 : IntKind.u8.min = 0 := by decide
  have e2 : IntKind.u8.max = 255 := by decide
  rw [e1, e2] at hb
  exact ⟨hb.1, by omega⟩
theorem ca_flat (l : List Int) : l.flatMap (fun n => [Value.int .u8 n]) = bCells l := by
  induction l with
  | nil => rfl
  | cons s r ih =>
    rw [List.flatMap_cons, ih]
    rfl
theorem ca_bytesE {fuel : Nat} {cs : List Value} {x : DataW H × List MemPlace} (h : DataW.trod enc Try.prog w 0 (fun _ => true) true fuel 28 cs = some x) : ∃ A c l, cs = [.slice A (List.length l) c] ∧ OneB w A c l ∧ LenG x.1 l.length := by
  obtain ⟨A, c, l, h1, h2, h3, h4, h5, h6⟩ := open_list_with (0 : Int) (fun n => [Value.int .u8 n]) (fun a _ => isB a) (size := 1) (fun _ => rfl) Try.underlying28 caB (by decide) (fun fuel cs x h => ca_byteE fuel cs x h) h
  rw [ca_flat] at h5
  refine ⟨A, c, l, h1, ⟨h2, h3, h4, h5, fun x hx => ?_⟩, ?_⟩
  · rcases h6 with rfl | ⟨_, _, _, _, h7⟩
    · cases hx
    · obtain ⟨_, _, h8⟩ := h7 x hx
      exact h8
  · rcases h6 with rfl | ⟨el, sp, h7, h8, _⟩
    · exact .inl rfl
    · exact .inr ⟨el, sp, h7, h8⟩
/-- What is known of a body and of its datum. -/
def BodyG (w : World) (f : Bc) (d : DataW H) : Prop := OneB w f.X f.d f.b.v ∧ ∃ d0 d1 d2, d = .agg [d0, d1, d2] ∧ LenG d2 f.b.v.length
theorem ca_bodyE (fuel : Nat) (cs : List Value) (x : DataW H × List MemPlace) (h : DataW.trod enc Try.prog w 0 (fun _ => true) true fuel 38 cs = some x) : ∃ f : Bc, cs = Ca.cell f ∧ BodyG w f x.1 := by
  obtain ⟨y0, y1, y2, m, hx, hl, q0, q1, q2⟩ := trod_struct3 Try.underlying38 h
  rw [caBd] at hl
  obtain ⟨a0, a1, a2, a3, rfl⟩ := ca_list4 hl
  dsimp only at q0 q1 q2
  rw [caInt] at q0
  rw [caSt] at q1
  rw [caLB] at q2
  obtain ⟨o, e0, _, _⟩ := DataW.trod_int Try.underlying3 q0
  obtain ⟨c, n, e1, _, _, _, _⟩ := stamp_cells Try.underlying24 (by kernel_rfl) (by kernel_rfl) rfl rfl Try.underlying3 q1
  obtain ⟨X, d, l, e2, o2, z2⟩ := ca_bytesE q2
  simp at e0 e1 e2
  obtain ⟨rfl, rfl⟩ := e1
  subst e0 e2
  exact ⟨⟨X, d, ⟨o, c, n, l⟩⟩, rfl, o2, _, _, _, congrArg Prod.fst hx, z2⟩
theorem ca_cells_flat (l : List Bc) : l.flatMap Ca.cell = Ca.cells l := by
  induction l with
  | nil => rfl
  | cons s r ih =>
    rw [List.flatMap_cons, ih]
    rfl
/-- What is known of a list of bodies' datum. -/
def BodiesG (w : World) (L : List Bc) (d : DataW H) : Prop := L = [] ∨ ∃ elems spare, d = .slice elems spare ∧ elems.length = L.length ∧ ∀ z ∈ L, ∃ x ∈ elems, BodyG w z x
/-- A list of bodies by value. -/
theorem open_bodies {r : Reach} {b0 : Nat} {v : Value} {d : DataW H} {p : List MemPlace} (hv : Value.okWide Try.prog w r b0 22 v) (h : DataW.Trod enc Try.prog w 0 (fun _ => true) true 22 v d p) :
    ∃ (A : Option Addr) (c : Nat) (L : List Bc), v = .slice A L.length c ∧ OneC w A c L ∧ BodiesG w L d := by
  obtain ⟨a0, n0, c0, rfl⟩ := okWide_slice Try.underlying22 hv
  obtain ⟨fuel, hf⟩ := h
  obtain ⟨A, c, L, h1, h2, h3, h4, h5, h6⟩ := open_list_with Bc.zero Ca.cell (fun z d => BodyG w z d) (size := 4) (fun _ => rfl) Try.underlying22 caBd (by decide) (fun fuel cs x h => ca_bodyE fuel cs x h) hf
  rw [ca_cells_flat] at h5
  have h1 : [Value.slice a0 n0 c0] = [.slice A L.length c] := h1
  injection h1 with h1
  refine ⟨A, c, L, h1, ⟨h2, h3, h4, h5, fun z hz => ?_⟩, h6⟩
  rcases h6 with rfl | ⟨_, _, _, _, h7⟩
  · cases hz
  · obtain ⟨_, _, h8⟩ := h7 z hz
    exact h8.1
/-- One body by value. -/
theorem open_one_body {r : Reach} {b0 : Nat} {v : Value} {d : DataW H} {p : List MemPlace} (hv : Value.okWide Try.prog w r b0 38 v) (h : DataW.Trod enc Try.prog w 0 (fun _ => true) true 38 v d p) :
    ∃ (X : Option Addr) (c : Nat) (y : Bd), v = .agg (bdCells X c y) ∧ OneB w X c y.v ∧ BodyG w ⟨X, c, y⟩ d := by
  obtain ⟨cs, rfl, _⟩ := okWide_struct Try.underlying38 hv
  obtain ⟨fuel, hf⟩ := h
  obtain ⟨⟨X, c, y⟩, h1, h2⟩ := ca_bodyE _ _ _ hf
  exact ⟨X, c, y, congrArg Value.agg (Array.toList_inj.1 (show cs.toList = (bdCells X c y).toList from h1)), h2.1, h2⟩
/-- How many there can be, and how long. -/
theorem fit_datum {z : Bc} {x : DataW H} (hx : BodyG w z x) (hk : ∀ k, k ∈ DataW.weights Try.prog 38 x → k ≤ reachBytes) : z.b.v.length ≤ 140737488355328 := by
  obtain ⟨-, q0, q1, q2, rfl, z2⟩ := hx
  rcases z2 with z2 | ⟨el, sp, rfl, z2⟩
  · omega
  · have h1 := hk ((el.length + sp.length) * Try.prog.bytesOf 5) (by
      unfold DataW.weights
      rw [Try.underlying38]
      refine DataW.weights_mem_each (j := 2) rfl rfl _ ?_
      unfold DataW.weights
      rw [Try.underlying28]
      exact List.mem_cons_self ..)
    rw [caBytesB] at h1
    simp only [reachBytes] at h1
    omega
theorem fit_body {ts : List TypeId} {ds : List (DataW H)} (h : (DataW.weightsEach Try.prog ts ds).all (· ≤ reachBytes) = true) {j : Nat} {d : DataW H} {z : Bc} (ht : ts[j]? = some 38) (hd : ds[j]? = some d) (hz : BodyG w z d) : z.b.v.length ≤ 140737488355328 :=
  fit_datum hz (fun k hk => by simpa using List.all_eq_true.1 h _ (DataW.weights_mem_each ht hd _ hk))
theorem fit_bodies {ts : List TypeId} {ds : List (DataW H)} (h : (DataW.weightsEach Try.prog ts ds).all (· ≤ reachBytes) = true) {j : Nat} {d : DataW H} {L : List Bc} (ht : ts[j]? = some 22) (hd : ds[j]? = some d) (h6 : BodiesG w L d) :
    L.length * 48 ≤ 140737488355328 ∧ ∀ z ∈ L, z.b.v.length ≤ 140737488355328 := by
  rcases h6 with rfl | ⟨elems, spare, rfl, hl, h7⟩
  · exact ⟨by simp, fun _ h => by cases h⟩
  · have top : ∀ k, k ∈ DataW.weights Try.prog 22 (.slice elems spare) → k ≤ reachBytes := fun k hk => by
      simpa using List.all_eq_true.1 h _ (DataW.weights_mem_each ht hd _ hk)
    refine ⟨?_, fun z hz => ?_⟩
    · have h1 := top ((elems.length + spare.length) * Try.prog.bytesOf 38) (by unfold DataW.weights; rw [Try.underlying22]; exact List.mem_cons_self ..)
      rw [caBytesBd] at h1
      simp only [reachBytes] at h1
      omega
    · obtain ⟨x, hx, hg⟩ := h7 z hz
      refine fit_datum hg (fun k hk => top k ?_)
      unfold DataW.weights
      rw [Try.underlying22]
      refine List.mem_cons_of_mem _ (List.mem_append_left _ ?_)
      rw [dk_weightsAll]
      exact List.mem_flatMap.2 ⟨_, hx, hk⟩
end
end Go.Proofs.Ytmccednfaemiaaa
