/-
  For any law (a function that returns one bool, names no variable, and is to return true with its arguments as they were): whatever its parameters are, its row's last step follows from two facts: it returned true, and all memory that was there before the call is as it was.
  Plain mathematics of stamps: how two of them stand, whether one is right. Nothing of the program is imported.
  A slice in memory that reads as a list of cells, nil and empty ones too; appending all of it to a row of the call's own. Nothing of the program is imported.
  A slice argument, opened: whatever its elements are, if each element's cells are known by a way to write it out, the slice reads as a list of such elements. With it slices of stamps.
-/
import Derived.ProofKit
import Derived.Below
import Derived.WideKeyArgs
import Derived.OpenShut
import Derived.Lib.SmallJoins
import Derived.Laws.OwnMore
import Derived.Deep.Draws
import Derived.Laws.Rows
import Derived.Maps.AppendAt
import Derived.Laws.AppendOwnNone
import Derived.OwnWalk
import Derived.Deep.Slices
namespace Go.Proofs.Ytbpgofgdlikedaa
open Go.ChangeShapes Go.WideShapes Go.RowKit

section
variable {H : Type} {enc : TypeId × Value → H} {P : Program}

/-- Arguments that were read before the call read alike behind it, where all old memory is as it was. -/
theorem args_stay (hl : laidOutB P = true) {W W' : World} {sp : Nat → Bool} (hb : Below W.heap.size W W') :
    ∀ {ts : List TypeId} {vs : List Value} {ds : List (DataW H)} {ps : List MemPlace}, (∀ t ∈ ts, P.readableRec t = true ∧ t < P.types.size) →
      DataW.TrodAll enc P W 0 (fun _ => true) true ts vs ds ps → (∀ x ∈ ps, x.block < W.heap.size) → (∀ x ∈ ps, sp x.block = true) →
      DataW.TrodAll enc P W' 0 sp true ts vs ds ps
  | [], _, _, _, _, h, _, _ => by
    obtain ⟨rfl, rfl, rfl⟩ := trodAll_nil h
    exact trodAll_mk0
  | t :: ts, _, _, _, ht, h, hlt, hsp => by
    obtain ⟨v, vs1, d, ds1, a, b, rfl, rfl, rfl, h1, h2⟩ := trodAll_cons h
    have htt := ht t (List.mem_cons_self ..)
    refine ⟨a, b, ?_, ?_, rfl⟩
    · exact WideElems.Trod_stays hl htt.1 htt.2 h1 (fun x hx => hb.same (hlt x (List.mem_append_left _ hx))) (fun x hx => hsp x (List.mem_append_left _ hx))
    · exact args_stay hl hb (fun t' h' => ht t' (List.mem_cons_of_mem _ h')) h2 (fun x hx => hlt x (List.mem_append_right _ hx)) (fun x hx => hsp x (List.mem_append_right _ hx))

/-- The last step of a law's row. -/
theorem law_post (hl : laidOutB P = true) {f : Func} {s : ChangeSpec} {W W' : World} {args : Array Value} {ds gs : List (DataW H)} {before : List MemPlace} {tb : TypeId}
    (hW : DataW.Whole enc P f.params.toList s.vars false W args.toList ds gs before)
    (hvars : s.vars = []) (hfn : s.fn H (ds ++ gs) = { results := [.lit (.bool true)], args := ds })
    (hres : f.resultTypes = #[tb]) (htb : P.underlying tb = some .bool)
    (hts : ∀ t ∈ f.params.toList, P.readableRec t = true ∧ t < P.types.size) (hb : Below W.heap.size W W') :
    s.post enc P f false true false false W args (.bool true) W' := by
  have hlt : ∀ x ∈ before, x.block < W.heap.size := fun x hx => hW.lt x hx
  have hW0 := hW
  obtain ⟨p, q, hA, hV, hpq, _, _⟩ := hW0
  rw [hvars] at hV
  obtain ⟨rfl, rfl⟩ := trodVars_none hV
  obtain rfl : before = p := by rw [hpq, List.append_nil]
  refine ⟨ds, [], before, [], before, [], hW, ?_, ?_, ?_, ?_, fun h => by cases h⟩
  · rw [hfn, hres]
    exact trodAll_mk1 (shut_bool htb _)
  · rw [hfn]
    exact args_stay hl hb hts hA hlt (fun x hx => by simpa using hlt x hx)
  · rw [hvars, hfn]
    rfl
  · exact World.keptBut_mono (fun x hx => hx.elim) (hb.frame (fun _ => False))

/-- The cells of a stamp: two whole numbers, each within an int. -/
theorem stamp_cells {w : World} {base : Nat} {spare : Nat → Bool} {held : Bool} {fuel : Nat} {t ti : TypeId} {f0 f1 : Field} {cs : List Value} {x : DataW H × List MemPlace}
    (hs : P.underlying t = some (.struct #[f0, f1])) (hone : Deep.oneCellFields P #[f0, f1] = true) (hC : P.cellsOf t = 2) (hi0 : f0.type = ti) (hi1 : f1.type = ti) (hi : P.underlying ti = some (.int .i64))
    (h : DataW.trod enc P w base spare held fuel t cs = some x) :
    ∃ c n : Int, cs = [.int .i64 c, .int .i64 n] ∧ x.2 = [] ∧ -9223372036854775808 ≤ c ∧ c ≤ 9223372036854775807 ∧ -9223372036854775808 ≤ n ∧ n ≤ 9223372036854775807 := by
  obtain ⟨y0, y1, m, rfl, hl, hy0, hy1⟩ := trod_struct2 hs h
  obtain ⟨o0, k0⟩ := Deep.hone_of hone 0 f0 rfl
  obtain ⟨o1, k1⟩ := Deep.hone_of hone 1 f1 rfl
  rw [hC] at hl
  obtain ⟨a0, a1, rfl⟩ : ∃ a0 a1, cs = [a0, a1] := by
    match cs, hl with
    | [a0, a1], _ => exact ⟨a0, a1, rfl⟩
  rw [o0, k0, hi0] at hy0
  rw [o1, k1, hi1] at hy1
  obtain ⟨a, e0, rfl, wa⟩ := DataW.trod_int hi hy0
  obtain ⟨b, e1, rfl, wb⟩ := DataW.trod_int hi hy1
  simp at e0 e1
  subst e0 e1
  exact ⟨a, b, rfl, rfl, (bounds_i64 wa).1, (bounds_i64 wa).2, (bounds_i64 wb).1, (bounds_i64 wb).2⟩

/-- A stamp by value: two whole numbers, each within an int. -/
theorem open_stamp {w : World} {base b0 : Nat} {spare : Nat → Bool} {held : Bool} {r : Reach} {t ti : TypeId} {f0 f1 : Field} {v : Value} {d : DataW H} {p : List MemPlace}
    (hs : P.underlying t = some (.struct #[f0, f1])) (hone : Deep.oneCellFields P #[f0, f1] = true) (hC : P.cellsOf t = 2) (hi0 : f0.type = ti) (hi1 : f1.type = ti) (hi : P.underlying ti = some (.int .i64))
    (hv : Value.okWide P w r b0 t v) (h : DataW.Trod enc P w base spare held t v d p) :
    ∃ c n : Int, v = .agg #[.int .i64 c, .int .i64 n] ∧ -9223372036854775808 ≤ c ∧ c ≤ 9223372036854775807 ∧ -9223372036854775808 ≤ n ∧ n ≤ 9223372036854775807 := by
  obtain ⟨cs, rfl, _⟩ := okWide_struct hs hv
  obtain ⟨fuel, hf⟩ := h
  obtain ⟨c, n, hcs, _, hb⟩ := stamp_cells hs hone hC hi0 hi1 hi hf
  refine ⟨c, n, ?_, hb⟩
  have : cs = #[.int .i64 c, .int .i64 n] := by
    apply Array.toList_inj.1
    simpa [Value.cells] using hcs
  rw [this]

/-- Three stamps in an array, by value. -/
theorem open_stamps3 {w : World} {base b0 : Nat} {spare : Nat → Bool} {held : Bool} {r : Reach} {ta t ti : TypeId} {f0 f1 : Field} {v : Value} {d : DataW H} {p : List MemPlace}
    (ha : P.underlying ta = some (.array 3 t)) (hA : P.cellsOf ta = 6)
    (hs : P.underlying t = some (.struct #[f0, f1])) (hone : Deep.oneCellFields P #[f0, f1] = true) (hC : P.cellsOf t = 2) (hi0 : f0.type = ti) (hi1 : f1.type = ti) (hi : P.underlying ti = some (.int .i64))
    (hv : Value.okWide P w r b0 ta v) (h : DataW.Trod enc P w base spare held ta v d p) :
    ∃ c0 n0 c1 n1 c2 n2 : Int, v = .agg #[.int .i64 c0, .int .i64 n0, .int .i64 c1, .int .i64 n1, .int .i64 c2, .int .i64 n2] ∧ c0 ≤ 9223372036854775807 := by
  simp only [Value.okWide, ha] at hv
  obtain ⟨cs, rfl, _⟩ := hv
  obtain ⟨fuel, hf⟩ := h
  obtain ⟨xs, m, _, _, hl, hxl, hx⟩ := DataW.trod_array ha hf
  have hcs : (Value.agg cs).cells.toList = cs.toList := rfl
  rw [hcs] at hl hx
  rw [hA] at hl
  rw [hC] at hx
  obtain ⟨l0, l1, l2, l3, l4, l5, hcl⟩ : ∃ l0 l1 l2 l3 l4 l5, cs.toList = [l0, l1, l2, l3, l4, l5] := by
    match cs.toList, hl with
    | [l0, l1, l2, l3, l4, l5], _ => exact ⟨l0, l1, l2, l3, l4, l5, rfl⟩
  rw [hcl] at hx
  obtain ⟨x0, x1, x2, rfl⟩ : ∃ x0 x1 x2, xs = [x0, x1, x2] := by
    match xs, hxl with
    | [x0, x1, x2], _ => exact ⟨x0, x1, x2, rfl⟩
  have e0 := hx 0 (by omega)
  have e1 := hx 1 (by omega)
  have e2 := hx 2 (by omega)
  simp at e0 e1 e2
  obtain ⟨c0, n0, h0, _, _, b0, _, _⟩ := stamp_cells hs hone hC hi0 hi1 hi e0
  obtain ⟨c1, n1, h1, _⟩ := stamp_cells hs hone hC hi0 hi1 hi e1
  obtain ⟨c2, n2, h2, _⟩ := stamp_cells hs hone hC hi0 hi1 hi e2
  simp at h0 h1 h2
  obtain ⟨rfl, rfl⟩ := h0
  obtain ⟨rfl, rfl⟩ := h1
  obtain ⟨rfl, rfl⟩ := h2
  refine ⟨c0, n0, c1, n1, c2, n2, ?_, b0⟩
  rw [← hcl]
end

end Go.Proofs.Ytbpgofgdlikedaa
namespace Go.Proofs.Ytbpgofgdlikedaa
open Go.RowKit in
/-- A new block behind a world that is as it was below. -/
theorem below_new {W w : World} (h : Below W.heap.size W w) (o : Obj) : Below W.heap.size W (w.alloc o) := h.alloc h.size o
open Go.RowKit in
/-- A world that is as it was below, and then another one. -/
theorem below_on {W w w' : World} (h : Below W.heap.size W w) (h' : Below w.heap.size w w') : Below W.heap.size W w' := h.trans (h'.mono h.size)

open Go.RowKit in
/-- A whole block: its cells, none of them frozen. -/
def Blk (w : World) (g : Nat) (t : TypeId) (cs : Array Value) : Prop := w.heap[g]? = some (.cells cs t (0, 0))
open Go.RowKit in
section
variable {w w' : World} {g : Nat} {t : TypeId} {cs : Array Value}
theorem Blk.lt (h : Blk w g t cs) : g < w.heap.size := by
  rcases Nat.lt_or_ge g w.heap.size with hlt | hge
  · exact hlt
  · unfold Blk at h; rw [Array.getElem?_eq_none hge] at h; cases h
theorem Blk.cell (h : Blk w g t cs) {i : Nat} {v : Value} (hv : cs[i]? = some v) : w.cell? ⟨g, i, none⟩ = some v := (cell_of_row w g i cs t (0, 0) h).trans hv
theorem Blk.free (h : Blk w g t cs) (i : Nat) : w.frozen? ⟨g, i, none⟩ = false := by
  unfold Blk at h
  simp [World.frozen?, h]
theorem Blk.new (w : World) (t : TypeId) (cs : Array Value) : Blk (w.alloc (.cells cs t)) w.heap.size t cs := heap_alloc_new w _
theorem Blk.drew (h : Blk w g t cs) : Blk w.drew g t cs := h
theorem Blk.drewN (h : Blk w g t cs) (n : Nat) : Blk (w.drewN n) g t cs := h
theorem Blk.alloc (h : Blk w g t cs) (o : Obj) : Blk (w.alloc o) g t cs := (Below.heap_alloc w o g h.lt).trans h
theorem Blk.put (h : Blk w g t cs) (i : Nat) (u : Value) : Blk (w.setCell ⟨g, i, none⟩ u) g t (cs.setIfInBounds i u) := by
  unfold Blk at h ⊢
  simp [World.setCell, Array.getElem?_modify, h]
theorem Blk.far (h : Blk w g t cs) {p : Addr} (hp : g ≠ p.block) (u : Value) : Blk (w.setCell p u) g t cs := (Below.heap_setCell w p u g hp).trans h
theorem Blk.later (h : Blk w g t cs) (hb : Below w.heap.size w w') : Blk w' g t cs := (hb.block g h.lt).trans h
end

namespace St

/-- How two whole numbers stand: -1, 0 or 1. -/
def cmpI (a b : Int) : Int := if a < b then -1 else if b < a then 1 else 0
/-- How two stamps stand: by the count, then by the node. -/
def cmpS (c n c' n' : Int) : Int := if c < c' then -1 else if c' < c then 1 else cmpI n n'
/-- A node's number. -/
def rgtN (n : Int) : Bool := decide (0 ≤ n ∧ n ≤ 63)
/-- A right stamp. -/
def rgt (c n : Int) : Bool := decide (1 ≤ c ∧ 0 ≤ n ∧ n ≤ 63)

/-- The newer one of two stamps, the first where they are one. -/
def newer (m s : Int × Int) : Int × Int := if 0 < cmpS s.1 s.2 m.1 m.2 then s else m
/-- The newest of a list that begins with x. -/
def newestOf (x : Int × Int) (l : List (Int × Int)) : Int × Int := l.foldl newer x
theorem newest_snoc (x : Int × Int) (l : List (Int × Int)) (k : Nat) (h : k < l.length) : newestOf x (l.take (k + 1)) = newer (newestOf x (l.take k)) l[k] := by
  unfold newestOf
  rw [List.take_succ_eq_append_getElem h, List.foldl_append]
  rfl
theorem newest_all (x : Int × Int) (l : List (Int × Int)) (k : Nat) (h : l.length ≤ k) : newestOf x (l.take k) = newestOf x l := by
  rw [List.take_of_length_le h]

/-- The newest of any list: of none the zero stamp. -/
def nwS : List (Int × Int) → Int × Int
  | [] => (0, 0)
  | x :: r => newestOf x r
def nwB : List (Int × Int) → Bool
  | [] => false
  | _ :: _ => true
theorem cmpI_lt {a b : Int} (h : a < b) : cmpI a b = -1 := by unfold cmpI; rw [if_pos h]
theorem cmpI_gt {a b : Int} (h : b < a) : cmpI a b = 1 := by unfold cmpI; rw [if_neg (by omega), if_pos h]
theorem cmpI_eq {a b : Int} (h : a = b) : cmpI a b = 0 := by unfold cmpI; rw [if_neg (by omega), if_neg (by omega)]
theorem cmpI_zero {a b : Int} : cmpI a b = 0 ↔ a = b := by unfold cmpI; split <;> (try split) <;> omega
theorem cmpI_bd (a b : Int) : -1 ≤ cmpI a b ∧ cmpI a b ≤ 1 := by unfold cmpI; split <;> (try split) <;> omega
theorem cmpS_lt {c n c' n' : Int} (h : c < c') : cmpS c n c' n' = -1 := by unfold cmpS; rw [if_pos h]
theorem cmpS_gt {c n c' n' : Int} (h : c' < c) : cmpS c n c' n' = 1 := by unfold cmpS; rw [if_neg (by omega), if_pos h]
theorem cmpS_eq {c n c' n' : Int} (h : c = c') : cmpS c n c' n' = cmpI n n' := by unfold cmpS; rw [if_neg (by omega), if_neg (by omega)]
theorem cmpS_bd (c n c' n' : Int) : -1 ≤ cmpS c n c' n' ∧ cmpS c n c' n' ≤ 1 := by
  have := cmpI_bd n n'
  unfold cmpS; split <;> (try split) <;> omega
theorem cmpS_zero {c n c' n' : Int} : cmpS c n c' n' = 0 ↔ c = c' ∧ n = n' := by
  have := @cmpI_zero n n'
  unfold cmpS; split <;> (try split) <;> omega
theorem cmpS_neg (c n c' n' : Int) : cmpS c' n' c n = -(cmpS c n c' n') := by
  unfold cmpS cmpI; (repeat' split) <;> omega
theorem cmpS_trans {c n c' n' c'' n'' : Int} (h : cmpS c n c' n' ≤ 0) (h' : cmpS c' n' c'' n'' ≤ 0) : cmpS c n c'' n'' ≤ 0 := by
  unfold cmpS cmpI at *; (repeat' split) <;> (repeat' (split at h)) <;> (repeat' (split at h')) <;> omega

/-- The next stamp's count, node, and the error: of a count, a node and a skip. -/
def nextC (c n k : Int) : Int := if rgtN n = true ∧ 0 ≤ c ∧ 0 ≤ k ∧ c + k ≤ 9223372036854775806 then c + 1 + k else 0
def nextN (c n k : Int) : Int := if rgtN n = true ∧ 0 ≤ c ∧ 0 ≤ k ∧ c + k ≤ 9223372036854775806 then n else 0
def nextE (c n k : Int) : Int := if rgtN n = true ∧ 0 ≤ c ∧ 0 ≤ k then (if c + k ≤ 9223372036854775806 then 0 else 2) else 1
theorem next_bad {c n k : Int} (h : ¬ (rgtN n = true ∧ 0 ≤ c ∧ 0 ≤ k)) : nextC c n k = 0 ∧ nextN c n k = 0 ∧ nextE c n k = 1 := by
  unfold nextC nextN nextE; rw [if_neg (by intro hh; exact h ⟨hh.1, hh.2.1, hh.2.2.1⟩), if_neg (by intro hh; exact h ⟨hh.1, hh.2.1, hh.2.2.1⟩), if_neg h]; exact ⟨rfl, rfl, rfl⟩
theorem next_over {c n k : Int} (h : rgtN n = true) (hc : 0 ≤ c) (hk : 0 ≤ k) (ho : ¬ c + k ≤ 9223372036854775806) : nextC c n k = 0 ∧ nextN c n k = 0 ∧ nextE c n k = 2 := by
  unfold nextC nextN nextE; rw [if_neg (by intro hh; exact ho hh.2.2.2), if_neg (by intro hh; exact ho hh.2.2.2), if_pos ⟨h, hc, hk⟩, if_neg ho]; exact ⟨rfl, rfl, rfl⟩
theorem next_ok {c n k : Int} (h : rgtN n = true) (hc : 0 ≤ c) (hk : 0 ≤ k) (ho : c + k ≤ 9223372036854775806) : nextC c n k = c + 1 + k ∧ nextN c n k = n ∧ nextE c n k = 0 := by
  unfold nextC nextN nextE; rw [if_pos ⟨h, hc, hk, ho⟩, if_pos ⟨h, hc, hk, ho⟩, if_pos ⟨h, hc, hk⟩, if_pos ho]; exact ⟨rfl, rfl, rfl⟩

end St
end Go.Proofs.Ytbpgofgdlikedaa
namespace Go.Proofs.Ytbpgofgdlikedaa
open Go.RowKit

/-- The memory from A on holds the cells xs (nothing is asked where there is none). -/
def Lies (w : World) (A : Option Addr) (xs : List Value) : Prop :=
  xs ≠ [] → ∃ b off, A = some ⟨b, off, none⟩ ∧ ∀ j u, xs[j]? = some u → w.cell? ⟨b, off + j, none⟩ = some u

section
variable {w w' : World} {A : Option Addr} {xs : List Value}
theorem Lies.nil : Lies w A [] := fun h => absurd rfl h
theorem Lies.drew (h : Lies w A xs) : Lies w.drew A xs := h
theorem Lies.drewN (h : Lies w A xs) (n : Nat) : Lies (w.drewN n) A xs := h
theorem Lies.later (h : Lies w A xs) (hb : Below w.heap.size w w') : Lies w' A xs := fun hne => by
  obtain ⟨b, off, rfl, hc⟩ := h hne
  refine ⟨b, off, rfl, fun j u hu => ?_⟩
  have hj := hc j u hu
  exact (hb.cell (World.block_lt_of_cell? w _ hj)).trans hj
theorem Lies.alloc (h : Lies w A xs) (o : Obj) : Lies (w.alloc o) A xs := h.later ((Below.refl _ _).alloc (Nat.le_refl _) o)
theorem Lies.of_own {base : Nat} {e : TypeId} {size n c : Nat} (h : w.ownsRow base e size (.slice A n c) n xs) : Lies w A xs := fun hne => by
  obtain ⟨hl, h⟩ := h
  rcases h with ⟨h0, h1⟩ | ⟨g, cap, cur, hv, _, hh, _, _, _, ht⟩
  · subst h1
    simp at hl
    exact absurd hl hne
  · injection hv with hA
    subst hA
    refine ⟨g, 0, rfl, fun j u hu => ?_⟩
    rw [Nat.zero_add]
    have hj : j < n * size := by
      have := (List.getElem?_eq_some_iff.1 hu).1
      omega
    rw [← ht, List.getElem?_take_of_lt hj] at hu
    simp [World.cell?, hh]
    simpa using hu
end

theorem run_append_lies {P : Program} (w : World) (base : Nat) (t ty e : TypeId) (i : TypeInfo) (z : Value) (size bytes : Nat) (ht : P.underlying t = some (.slice e)) (hi : P.info? e = some i) (hz : i.zero = some z)
    (hsize : i.size = size) (hby : i.bytes = bytes) (hzs : z.cells.size = size) (hsz : 0 < size)
    (v : Value) (n : Nat) (xs : List Value) (hown : w.ownsRow base e size v n xs)
    (A : Option Addr) (m c : Nat) (hA : A = none → m = 0 ∧ c = 0) (news : List Value) (hl : news.length = m * size) (hr : Lies w A news) (h1 : ∀ u ∈ news, u.oneCell' = true)
    (h63 : n + m ≤ maxLen) (hbytes : (n + m) * bytes ≤ 140737488355328) (hbase : base ≤ w.heap.size) :
    ∃ v' w', (Builtin.append_ #[t, t] ty #[v, .slice A m c]).run P w = .ok v' w' ∧ w'.ownsRow base e size v' (n + m) (xs ++ news) ∧ w.grownBy w' v.ownBlock ∧
      (v'.ownBlock = v.ownBlock ∨ v'.ownBlock = some w.heap.size) := by
  cases A with
  | none =>
    obtain ⟨rfl, rfl⟩ := hA rfl
    have hn : news = [] := List.eq_nil_of_length_eq_zero (by simpa using hl)
    subst hn
    exact ⟨v, w, run_append_owned_none (P := P) (w := w) base t ty e i size ht hi v n xs hown, by simpa using hown, World.grownBy.refl w _, .inl rfl⟩
  | some ad =>
    have hcells : ∀ j u, news[j]? = some u → w.cell? (ad.add j) = some u := by
      intro j u hu
      obtain ⟨b, off, hab, hc⟩ := hr (fun h => by subst h; simp at hu)
      injection hab with hab
      subst hab
      rw [Go.WideShapes.add_plain]
      exact hc j u hu
    obtain ⟨v', w', hrun, h2, h3, _, h5⟩ := run_append_own_at (P := P) w base t ty e i z size bytes ht hi hz hsize hby hzs hsz v n xs hown ad m c news hl hcells h1 h63 hbytes hbase
    exact ⟨v', w', hrun, h2, h3, h5⟩

theorem wpList_append_lies {P : Program} (w : World) {ops : Array Oper} {rest : List Oper} {o : Oper} {a : Act} {Q : Exit → Act → World → Prop} (hgd : o.guard = none) (s x : Operand) (t : TypeId)
    (ho : o.op = .call { callee := .builtin .append, args := #[s, x], argTypes := #[t, t] })
    (base : Nat) (e : TypeId) (i : TypeInfo) (z : Value) (size bytes : Nat) (ht : P.underlying t = some (.slice e)) (hi : P.info? e = some i) (hz : i.zero = some z)
    (hsize : i.size = size) (hby : i.bytes = bytes) (hzs : z.cells.size = size) (hsz : 0 < size)
    (v : Value) (n : Nat) (xs : List Value) (hs : a.eval s = v) (hown : w.ownsRow base e size v n xs)
    (A : Option Addr) (m c : Nat) (hA : A = none → m = 0 ∧ c = 0) (news : List Value) (hx : a.eval x = .slice A m c) (hl : news.length = m * size) (hr : Lies w A news) (h1 : ∀ u ∈ news, u.oneCell' = true)
    (h63 : n + m ≤ maxLen) (hbytes : (n + m) * bytes ≤ 140737488355328) (hbase : base ≤ w.heap.size)
    (h : ∀ v' w', w'.ownsRow base e size v' (n + m) (xs ++ news) → w.grownBy w' v.ownBlock → (v'.ownBlock = v.ownBlock ∨ v'.ownBlock = some w.heap.size) → wpList P ops Q rest (a.put o.dst v') w') :
    wpList P ops Q (o :: rest) a w := by
  refine wpList_plain hgd fun K hK => ?_
  obtain ⟨v', w', hrun, h2, h3, h4⟩ := run_append_lies (P := P) w base t o.type e i z size bytes ht hi hz hsize hby hzs hsz v n xs hown A m c hA news hl hr h1 h63 hbytes hbase
  unfold Oper.wp execOp
  simp only [ho, resolve, invoke, builtin, Sem.run_bind, Sem.run_pure, Result.andThen_ok, List.map_toArray, List.map_cons, List.map_nil, hs, hx, hrun]
  exact hK _ _ (h v' w' h2 h3 h4)

/-- A row of the call's own, its value written out. -/
theorem own_form {w : World} {base : Nat} {e : TypeId} {size n : Nat} {v : Value} {xs : List Value} (h : w.ownsRow base e size v n xs) :
    ∃ A c, v = .slice A n c ∧ n ≤ c ∧ c ≤ maxLen ∧ (A = none → n = 0 ∧ c = 0) ∧ Lies w A xs := by
  have h0 := h
  obtain ⟨_, h1⟩ := h
  rcases h1 with ⟨rfl, rfl⟩ | ⟨g, cap, cur, rfl, _, _, hnc, hcm, _, _⟩
  · exact ⟨none, 0, rfl, Nat.le_refl _, Nat.zero_le _, fun _ => ⟨rfl, rfl⟩, Lies.of_own h0⟩
  · exact ⟨_, cap, rfl, hnc, hcm, (fun h => by cases h), Lies.of_own h0⟩

theorem own_base {w : World} {base base' : Nat} {e : TypeId} {size n : Nat} {v : Value} {xs : List Value} (h : w.ownsRow base e size v n xs) (hb : base' ≤ base) : w.ownsRow base' e size v n xs := by
  obtain ⟨h0, h1⟩ := h
  refine ⟨h0, ?_⟩
  rcases h1 with h1 | ⟨g, cap, cur, hv, hg, r⟩
  · exact .inl h1
  · exact .inr ⟨g, cap, cur, hv, by omega, r⟩
/-- A row of the call's own lies from its base on. -/
theorem own_ge {w : World} {base : Nat} {e : TypeId} {size n : Nat} {v : Value} {xs : List Value} (h : w.ownsRow base e size v n xs) : ∀ k, v.ownBlock = some k → base ≤ k := by
  intro k hk
  rcases h.2 with ⟨rfl, _⟩ | ⟨g, cap, cur, rfl, hg, _⟩
  · simp [Value.ownBlock] at hk
  · simp [Value.ownBlock] at hk
    omega

/-- The cells of a list of stamps. -/
def stCells : List (Int × Int) → List Value
  | [] => []
  | s :: r => .int .i64 s.1 :: .int .i64 s.2 :: stCells r
theorem stCells_length (l : List (Int × Int)) : (stCells l).length = l.length * 2 := by
  induction l with
  | nil => rfl
  | cons s r ih => simp [stCells, ih]; omega
theorem stCells_one (l : List (Int × Int)) : ∀ u ∈ stCells l, u.oneCell' = true := by
  induction l with
  | nil => intro u hu; cases hu
  | cons s r ih =>
    intro u hu
    simp [stCells] at hu
    rcases hu with rfl | rfl | hu
    · rfl
    · rfl
    · exact ih u hu
theorem stCells_get (l : List (Int × Int)) : ∀ k, k < l.length → (stCells l)[k * 2]? = some (.int .i64 (l.getD k (0, 0)).1) ∧ (stCells l)[k * 2 + 1]? = some (.int .i64 (l.getD k (0, 0)).2) := by
  induction l with
  | nil => intro k hk; simp at hk
  | cons s r ih =>
    intro k hk
    cases k with
    | zero => simp [stCells]
    | succ k =>
      have := ih k (by simpa using hk)
      rw [show (k + 1) * 2 = k * 2 + 2 from by omega, show k * 2 + 2 + 1 = (k * 2 + 1) + 2 from by omega]
      simpa [stCells] using this
theorem stCells_append (l r : List (Int × Int)) : stCells (l ++ r) = stCells l ++ stCells r := by
  induction l with
  | nil => rfl
  | cons s l ih => simp [stCells, ih]
theorem stCells_nil {l : List (Int × Int)} : stCells l = [] ↔ l = [] := by cases l <;> simp [stCells]

/-- What a list of stamps in memory is: its cells, two an element. -/
def Stamps (w : World) (A : Option Addr) (l : List (Int × Int)) : Prop :=
  l ≠ [] → ∃ b off, A = some ⟨b, off, none⟩ ∧ ∀ k, k < l.length → w.cell? ⟨b, off + k * 2, none⟩ = some (.int .i64 (l.getD k (0, 0)).1) ∧ w.cell? ⟨b, off + k * 2 + 1, none⟩ = some (.int .i64 (l.getD k (0, 0)).2)
theorem Stamps.of_lies {w : World} {A : Option Addr} {l : List (Int × Int)} (h : Lies w A (stCells l)) : Stamps w A l := fun hne => by
  obtain ⟨b, off, hA, hc⟩ := h (fun he => hne (stCells_nil.1 he))
  refine ⟨b, off, hA, fun k hk => ?_⟩
  obtain ⟨h0, h1⟩ := stCells_get l k hk
  exact ⟨hc _ _ h0, by rw [Nat.add_assoc]; exact hc _ _ h1⟩

end Go.Proofs.Ytbpgofgdlikedaa
namespace Go.Proofs.Ytbpgofgdlikedaa
open Go.ChangeShapes Go.WideShapes Go.RowKit Go.Deep

theorem pick {α : Type} (z : α) {n : Nat} {p : Nat → α → Prop} (h : ∀ i, i < n → ∃ s, p i s) : ∃ f : Nat → α, ∀ i, i < n → p i (f i) := by
  refine ⟨fun i => if hi : i < n then Classical.choose (h i hi) else z, fun i hi => ?_⟩
  simp only [hi, dite_true]
  exact Classical.choose_spec (h i hi)

theorem flat_get {α : Type} {size : Nat} (f : α → List Value) (hf : ∀ a, (f a).length = size) : ∀ (l : List α) (j : Nat) (u : Value), (l.flatMap f)[j]? = some u →
    ∃ i r a, l[i]? = some a ∧ r < size ∧ j = i * size + r ∧ (f a)[r]? = some u
  | [], j, u, h => by simp at h
  | a :: l, j, u, h => by
    rw [List.flatMap_cons] at h
    by_cases hj : j < size
    · rw [List.getElem?_append_left (by rw [hf]; exact hj)] at h
      exact ⟨0, j, a, rfl, hj, by omega, h⟩
    · rw [List.getElem?_append_right (by rw [hf]; omega), hf] at h
      obtain ⟨i, r, b, h1, h2, h3, h4⟩ := flat_get f hf l (j - size) u h
      refine ⟨i + 1, r, b, by simpa using h1, h2, ?_, h4⟩
      rw [Nat.add_mul]
      omega

section
variable {H : Type} {enc : TypeId × Value → H} {P : Program} {w : World}

/-- A slice whose elements' cells are known by 'f': it reads as a list. -/
theorem open_list {α : Type} (z : α) (f : α → List Value) (good : α → Prop) {size : Nat} (hf : ∀ a, (f a).length = size) {r : Reach} {b0 : Nat} {t e : TypeId} {v : Value} {d : DataW H} {p : List MemPlace}
    (ht : P.underlying t = some (.slice e)) (hC : P.cellsOf e = size) (hsz : 0 < size)
    (helem : ∀ (fuel : Nat) (cs : List Value) (x : DataW H × List MemPlace), DataW.trod enc P w 0 (fun _ => true) true fuel e cs = some x → ∃ a, cs = f a ∧ good a)
    (hv : Value.okWide P w r b0 t v) (h : DataW.Trod enc P w 0 (fun _ => true) true t v d p) :
    ∃ (A : Option Addr) (cap : Nat) (l : List α), v = .slice A l.length cap ∧ l.length ≤ cap ∧ cap ≤ maxLen ∧ (A = none → l.length = 0 ∧ cap = 0) ∧ Lies w A (l.flatMap f) ∧ (∀ a ∈ l, good a) ∧
      ((d = .nil ∧ l.length = 0 ∧ cap = 0) ∨ ∃ elems spare, d = .slice elems spare ∧ elems.length = l.length ∧ elems.length + spare.length = cap) := by
  obtain ⟨a0, len0, cap0, rfl⟩ := okWide_slice ht hv
  obtain ⟨fuel, hfu⟩ := h
  rcases open_slice ht hfu with ⟨hcs, hx⟩ | ⟨a, len, cap, m, n, D, Pl, hcs, _, hl, hm, hmm, hx, hi⟩
  · simp [Value.cells] at hcs hx
    obtain ⟨rfl, rfl, rfl⟩ := hcs
    exact ⟨none, 0, [], rfl, Nat.le_refl _, Nat.zero_le _, fun _ => ⟨rfl, rfl⟩, Lies.nil, by simp, .inl ⟨hx.1, rfl, rfl⟩⟩
  · simp [Value.cells] at hcs hx hmm
    obtain ⟨rfl, rfl, rfl⟩ := hcs
    subst hmm
    obtain ⟨g, hg⟩ := pick (n := len0) (p := fun i s => good s ∧ ∀ j, j < size → w.cell? (a.add (i * size + j)) = (f s)[j]?) z (fun i hi' => by
      obtain ⟨cs', hc, ht'⟩ := hi i (by omega)
      rw [hC] at hc
      obtain ⟨s, rfl, hs⟩ := helem _ _ _ ht'
      obtain ⟨_, _, hcell⟩ := World.cells?_some hc
      refine ⟨s, hs, fun j hj => ?_⟩
      rw [← hcell j hj, Go.Deep.add_add])
    refine ⟨some a, m, (List.range len0).map g, by simp, by simpa using hl, hm, (fun h => by cases h), (fun hne => ?_), ?_, .inr ⟨_, _, hx.1, by simp, by simp; omega⟩⟩
    · have hpos : 0 < len0 := by
        rcases Nat.eq_zero_or_pos len0 with h0 | h0
        · subst h0; simp at hne
        · exact h0
      obtain ⟨b, off, spot⟩ := a
      have h00 := (hg 0 hpos).2 0 hsz
      have hspot : spot = none := by
        have hlen := hf (g 0)
        rw [List.getElem?_eq_getElem (by omega)] at h00
        simpa [Addr.add] using World.cell?_spot h00
      subst hspot
      refine ⟨b, off, rfl, fun j u hu => ?_⟩
      obtain ⟨i, r, s, h1, h2, h3, h4⟩ := flat_get f hf _ j u hu
      have hil : i < len0 := by
        have := (List.getElem?_eq_some_iff.1 h1).1
        simpa using this
      simp [hil] at h1
      subst h1
      rw [← Go.WideShapes.add_plain, h3, (hg i hil).2 r h2]
      exact h4
    · intro s hs
      simp at hs
      obtain ⟨i, hil, rfl⟩ := hs
      exact (hg i hil).1

def stCell (s : Int × Int) : List Value := [.int .i64 s.1, .int .i64 s.2]
theorem stCells_flat (l : List (Int × Int)) : l.flatMap stCell = stCells l := by
  induction l with
  | nil => rfl
  | cons s r ih => simp [stCells, stCell, ih]

/-- A slice of stamps. -/
theorem open_stamps {r : Reach} {b0 : Nat} {t e ti : TypeId} {f0 f1 : Field} {v : Value} {d : DataW H} {p : List MemPlace}
    (ht : P.underlying t = some (.slice e)) (hs : P.underlying e = some (.struct #[f0, f1])) (hone : Deep.oneCellFields P #[f0, f1] = true) (hC : P.cellsOf e = 2) (hi0 : f0.type = ti) (hi1 : f1.type = ti) (hi : P.underlying ti = some (.int .i64))
    (hv : Value.okWide P w r b0 t v) (h : DataW.Trod enc P w 0 (fun _ => true) true t v d p) :
    ∃ (A : Option Addr) (cap : Nat) (l : List (Int × Int)), v = .slice A l.length cap ∧ l.length ≤ cap ∧ cap ≤ maxLen ∧ (A = none → l.length = 0 ∧ cap = 0) ∧ Lies w A (stCells l) ∧
      (∀ s ∈ l, -9223372036854775808 ≤ s.1 ∧ s.1 ≤ 9223372036854775807 ∧ -9223372036854775808 ≤ s.2 ∧ s.2 ≤ 9223372036854775807) ∧
      ((d = .nil ∧ l.length = 0 ∧ cap = 0) ∨ ∃ elems spare, d = .slice elems spare ∧ elems.length = l.length ∧ elems.length + spare.length = cap) := by
  have := open_list (0, 0) stCell (fun s => -9223372036854775808 ≤ s.1 ∧ s.1 ≤ 9223372036854775807 ∧ -9223372036854775808 ≤ s.2 ∧ s.2 ≤ 9223372036854775807) (size := 2) (fun _ => rfl) ht hC (by decide)
    (fun fuel cs x hx => by
      obtain ⟨c, n, rfl, _, h1, h2, h3, h4⟩ := stamp_cells hs hone hC hi0 hi1 hi hx
      exact ⟨(c, n), rfl, h1, h2, h3, h4⟩) hv h
  obtain ⟨A, cap, l, h1, h2, h3, h4, h5, h6, h7⟩ := this
  rw [stCells_flat] at h5
  exact ⟨A, cap, l, h1, h2, h3, h4, h5, h6, h7⟩

/-- A slice of whole numbers. -/
theorem open_nums {r : Reach} {b0 : Nat} {t e : TypeId} {v : Value} {d : DataW H} {p : List MemPlace}
    (ht : P.underlying t = some (.slice e)) (hi : P.underlying e = some (.int .i64)) (hC : P.cellsOf e = 1)
    (hv : Value.okWide P w r b0 t v) (h : DataW.Trod enc P w 0 (fun _ => true) true t v d p) :
    ∃ (A : Option Addr) (cap : Nat) (l : List Int), v = .slice A l.length cap ∧ l.length ≤ cap ∧ cap ≤ maxLen ∧ (A = none → l.length = 0 ∧ cap = 0) ∧ Lies w A (l.map (Value.int .i64)) ∧
      ((d = .nil ∧ l.length = 0 ∧ cap = 0) ∨ ∃ elems spare, d = .slice elems spare ∧ elems.length = l.length ∧ elems.length + spare.length = cap) := by
  have := open_list (0 : Int) (fun n => [Value.int .i64 n]) (fun _ => True) (size := 1) (fun _ => rfl) ht hC (by decide)
    (fun fuel cs x hx => by
      obtain ⟨a, e0, rfl, wa⟩ := DataW.trod_int hi hx
      exact ⟨a, e0, trivial⟩) hv h
  obtain ⟨A, cap, l, h1, h2, h3, h4, h5, h6, h7⟩ := this
  have hfl : ∀ l : List Int, l.flatMap (fun n => [Value.int .i64 n]) = l.map (Value.int .i64) := fun l => by
    induction l with
    | nil => rfl
    | cons s r ih => rw [List.flatMap_cons, ih]; rfl
  rw [hfl] at h5
  exact ⟨A, cap, l, h1, h2, h3, h4, h5, h7⟩
end

end Go.Proofs.Ytbpgofgdlikedaa
