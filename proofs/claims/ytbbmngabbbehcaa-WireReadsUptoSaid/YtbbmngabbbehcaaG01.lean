/-
  Plain mathematics of stamps: how two of them stand, whether one is right. Nothing of the program is imported.
  A slice in memory that reads as a list of cells, nil and empty ones too; appending all of it to a row of the call's own. Nothing of the program is imported.
  Plain mathematics of version vectors: the counts of the nodes in a list of stamps, and arrays of 64 numbers. Nothing of the program is imported.
  A slice of slices of stamps in memory; the greatest and the least counts of many lists. Nothing of the program is imported.
-/
import Derived.Below
import Derived.Laws.OwnMore
import Derived.Deep.Draws
import Derived.Laws.Rows
import Derived.Maps.AppendAt
import Derived.Laws.AppendOwnNone
import Derived.OwnWalk
namespace Go.Proofs.Ytbbmngabbbehcaa
open Go.RowKit in
/-- A new block behind a world that is as it was below. -/
theorem below_new {W w : World} (h : Below W.heap.size W w) (o : Obj) : Below W.heap.size W (w.alloc o) := h.alloc h.size o
open Go.RowKit in
/-- A world that is as it was below, and then another one. -/
theorem below_on {W w w' : World} (h : Below W.heap.size W w) (h' : Below w.heap.size w w') : Below W.heap.size W w' := h.trans (h'.mono h.size)

open Go.RowKit in
/-- A whole block: its cells, none of them frozen. -/
def Blk (w : World) (g : Nat) (t : TypeId) (cs : Array Value) : Prop := w.heap[g]? = some (.cells cs t (0, 0))
open Go.RowKit in
section
variable {w w' : World} {g : Nat} {t : TypeId} {cs : Array Value}
theorem Blk.lt (h : Blk w g t cs) : g < w.heap.size := by
  rcases Nat.lt_or_ge g w.heap.size with hlt | hge
  · exact hlt
  · unfold Blk at h; rw [Array.getElem?_eq_none hge] at h; cases h
theorem Blk.cell (h : Blk w g t cs) {i : Nat} {v : Value} (hv : cs[i]? = some v) : w.cell? ⟨g, i, none⟩ = some v := (cell_of_row w g i cs t (0, 0) h).trans hv
theorem Blk.free (h : Blk w g t cs) (i : Nat) : w.frozen? ⟨g, i, none⟩ = false := by
  unfold Blk at h
  simp [World.frozen?, h]
theorem Blk.new (w : World) (t : TypeId) (cs : Array Value) : Blk (w.alloc (.cells cs t)) w.heap.size t cs := heap_alloc_new w _
theorem Blk.drew (h : Blk w g t cs) : Blk w.drew g t cs := h
theorem Blk.drewN (h : Blk w g t cs) (n : Nat) : Blk (w.drewN n) g t cs := h
theorem Blk.alloc (h : Blk w g t cs) (o : Obj) : Blk (w.alloc o) g t cs := (Below.heap_alloc w o g h.lt).trans h
theorem Blk.put (h : Blk w g t cs) (i : Nat) (u : Value) : Blk (w.setCell ⟨g, i, none⟩ u) g t (cs.setIfInBounds i u) := by
  unfold Blk at h ⊢
  simp [World.setCell, Array.getElem?_modify, h]
theorem Blk.far (h : Blk w g t cs) {p : Addr} (hp : g ≠ p.block) (u : Value) : Blk (w.setCell p u) g t cs := (Below.heap_setCell w p u g hp).trans h
theorem Blk.later (h : Blk w g t cs) (hb : Below w.heap.size w w') : Blk w' g t cs := (hb.block g h.lt).trans h
end

namespace St

/-- How two whole numbers stand: -1, 0 or 1. -/
def cmpI (a b : Int) : Int := if a < b then -1 else if b < a then 1 else 0
/-- How two stamps stand: by the count, then by the node. -/
def cmpS (c n c' n' : Int) : Int := if c < c' then -1 else if c' < c then 1 else cmpI n n'
/-- A node's number. -/
def rgtN (n : Int) : Bool := decide (0 ≤ n ∧ n ≤ 63)
/-- A right stamp. -/
def rgt (c n : Int) : Bool := decide (1 ≤ c ∧ 0 ≤ n ∧ n ≤ 63)

/-- The newer one of two stamps, the first where they are one. -/
def newer (m s : Int × Int) : Int × Int := if 0 < cmpS s.1 s.2 m.1 m.2 then s else m
/-- The newest of a list that begins with x. -/
def newestOf (x : Int × Int) (l : List (Int × Int)) : Int × Int := l.foldl newer x
theorem newest_snoc (x : Int × Int) (l : List (Int × Int)) (k : Nat) (h : k < l.length) : newestOf x (l.take (k + 1)) = newer (newestOf x (l.take k)) l[k] := by
  unfold newestOf
  rw [List.take_succ_eq_append_getElem h, List.foldl_append]
  rfl
theorem newest_all (x : Int × Int) (l : List (Int × Int)) (k : Nat) (h : l.length ≤ k) : newestOf x (l.take k) = newestOf x l := by
  rw [List.take_of_length_le h]

/-- The newest of any list: of none the zero stamp. -/
def nwS : List (Int × Int) → Int × Int
  | [] => (0, 0)
  | x :: r => newestOf x r
def nwB : List (Int × Int) → Bool
  | [] => false
  | _ :: _ => true
theorem cmpI_lt {a b : Int} (h : a < b) : cmpI a b = -1 := by unfold cmpI; rw [if_pos h]
theorem cmpI_gt {a b : Int} (h : b < a) : cmpI a b = 1 := by unfold cmpI; rw [if_neg (by omega), if_pos h]
theorem cmpI_eq {a b : Int} (h : a = b) : cmpI a b = 0 := by unfold cmpI; rw [if_neg (by omega), if_neg (by omega)]
theorem cmpI_zero {a b : Int} : cmpI a b = 0 ↔ a = b := by unfold cmpI; split <;> (try split) <;> omega
theorem cmpI_bd (a b : Int) : -1 ≤ cmpI a b ∧ cmpI a b ≤ 1 := by unfold cmpI; split <;> (try split) <;> omega
theorem cmpS_lt {c n c' n' : Int} (h : c < c') : cmpS c n c' n' = -1 := by unfold cmpS; rw [if_pos h]
theorem cmpS_gt {c n c' n' : Int} (h : c' < c) : cmpS c n c' n' = 1 := by unfold cmpS; rw [if_neg (by omega), if_pos h]
theorem cmpS_eq {c n c' n' : Int} (h : c = c') : cmpS c n c' n' = cmpI n n' := by unfold cmpS; rw [if_neg (by omega), if_neg (by omega)]
theorem cmpS_bd (c n c' n' : Int) : -1 ≤ cmpS c n c' n' ∧ cmpS c n c' n' ≤ 1 := by
  have := cmpI_bd n n'
  unfold cmpS; split <;> (try split) <;> omega
theorem cmpS_zero {c n c' n' : Int} : cmpS c n c' n' = 0 ↔ c = c' ∧ n = n' := by
  have := @cmpI_zero n n'
  unfold cmpS; split <;> (try split) <;> omega
theorem cmpS_neg (c n c' n' : Int) : cmpS c' n' c n = -(cmpS c n c' n') := by
  unfold cmpS cmpI; (repeat' split) <;> omega
theorem cmpS_trans {c n c' n' c'' n'' : Int} (h : cmpS c n c' n' ≤ 0) (h' : cmpS c' n' c'' n'' ≤ 0) : cmpS c n c'' n'' ≤ 0 := by
  unfold cmpS cmpI at *; (repeat' split) <;> (repeat' (split at h)) <;> (repeat' (split at h')) <;> omega

/-- The next stamp's count, node, and the error: of a count, a node and a skip. -/
def nextC (c n k : Int) : Int := if rgtN n = true ∧ 0 ≤ c ∧ 0 ≤ k ∧ c + k ≤ 9223372036854775806 then c + 1 + k else 0
def nextN (c n k : Int) : Int := if rgtN n = true ∧ 0 ≤ c ∧ 0 ≤ k ∧ c + k ≤ 9223372036854775806 then n else 0
def nextE (c n k : Int) : Int := if rgtN n = true ∧ 0 ≤ c ∧ 0 ≤ k then (if c + k ≤ 9223372036854775806 then 0 else 2) else 1
theorem next_bad {c n k : Int} (h : ¬ (rgtN n = true ∧ 0 ≤ c ∧ 0 ≤ k)) : nextC c n k = 0 ∧ nextN c n k = 0 ∧ nextE c n k = 1 := by
  unfold nextC nextN nextE; rw [if_neg (by intro hh; exact h ⟨hh.1, hh.2.1, hh.2.2.1⟩), if_neg (by intro hh; exact h ⟨hh.1, hh.2.1, hh.2.2.1⟩), if_neg h]; exact ⟨rfl, rfl, rfl⟩
theorem next_over {c n k : Int} (h : rgtN n = true) (hc : 0 ≤ c) (hk : 0 ≤ k) (ho : ¬ c + k ≤ 9223372036854775806) : nextC c n k = 0 ∧ nextN c n k = 0 ∧ nextE c n k = 2 := by
  unfold nextC nextN nextE; rw [if_neg (by intro hh; exact ho hh.2.2.2), if_neg (by intro hh; exact ho hh.2.2.2), if_pos ⟨h, hc, hk⟩, if_neg ho]; exact ⟨rfl, rfl, rfl⟩
theorem next_ok {c n k : Int} (h : rgtN n = true) (hc : 0 ≤ c) (hk : 0 ≤ k) (ho : c + k ≤ 9223372036854775806) : nextC c n k = c + 1 + k ∧ nextN c n k = n ∧ nextE c n k = 0 := by
  unfold nextC nextN nextE; rw [if_pos ⟨h, hc, hk, ho⟩, if_pos ⟨h, hc, hk, ho⟩, if_pos ⟨h, hc, hk⟩, if_pos ho]; exact ⟨rfl, rfl, rfl⟩

end St
end Go.Proofs.Ytbbmngabbbehcaa
namespace Go.Proofs.Ytbbmngabbbehcaa
open Go.RowKit

/-- The memory from A on holds the cells xs (nothing is asked where there is none). -/
def Lies (w : World) (A : Option Addr) (xs : List Value) : Prop :=
  xs ≠ [] → ∃ b off, A = some ⟨b, off, none⟩ ∧ ∀ j u, xs[j]? = some u → w.cell? ⟨b, off + j, none⟩ = some u

section
variable {w w' : World} {A : Option Addr} {xs : List Value}
theorem Lies.nil : Lies w A [] := fun h => absurd rfl h
theorem Lies.drew (h : Lies w A xs) : Lies w.drew A xs := h
theorem Lies.drewN (h : Lies w A xs) (n : Nat) : Lies (w.drewN n) A xs := h
theorem Lies.later (h : Lies w A xs) (hb : Below w.heap.size w w') : Lies w' A xs := fun hne => by
  obtain ⟨b, off, rfl, hc⟩ := h hne
  refine ⟨b, off, rfl, fun j u hu => ?_⟩
  have hj := hc j u hu
  exact (hb.cell (World.block_lt_of_cell? w _ hj)).trans hj
theorem Lies.alloc (h : Lies w A xs) (o : Obj) : Lies (w.alloc o) A xs := h.later ((Below.refl _ _).alloc (Nat.le_refl _) o)
theorem Lies.of_own {base : Nat} {e : TypeId} {size n c : Nat} (h : w.ownsRow base e size (.slice A n c) n xs) : Lies w A xs := fun hne => by
  obtain ⟨hl, h⟩ := h
  rcases h with ⟨h0, h1⟩ | ⟨g, cap, cur, hv, _, hh, _, _, _, ht⟩
  · subst h1
    simp at hl
    exact absurd hl hne
  · injection hv with hA
    subst hA
    refine ⟨g, 0, rfl, fun j u hu => ?_⟩
    rw [Nat.zero_add]
    have hj : j < n * size := by
      have := (List.getElem?_eq_some_iff.1 hu).1
      omega
    rw [← ht, List.getElem?_take_of_lt hj] at hu
    simp [World.cell?, hh]
    simpa using hu
end

theorem run_append_lies {P : Program} (w : World) (base : Nat) (t ty e : TypeId) (i : TypeInfo) (z : Value) (size bytes : Nat) (ht : P.underlying t = some (.slice e)) (hi : P.info? e = some i) (hz : i.zero = some z)
    (hsize : i.size = size) (hby : i.bytes = bytes) (hzs : z.cells.size = size) (hsz : 0 < size)
    (v : Value) (n : Nat) (xs : List Value) (hown : w.ownsRow base e size v n xs)
    (A : Option Addr) (m c : Nat) (hA : A = none → m = 0 ∧ c = 0) (news : List Value) (hl : news.length = m * size) (hr : Lies w A news) (h1 : ∀ u ∈ news, u.oneCell' = true)
    (h63 : n + m ≤ maxLen) (hbytes : (n + m) * bytes ≤ 140737488355328) (hbase : base ≤ w.heap.size) :
    ∃ v' w', (Builtin.append_ #[t, t] ty #[v, .slice A m c]).run P w = .ok v' w' ∧ w'.ownsRow base e size v' (n + m) (xs ++ news) ∧ w.grownBy w' v.ownBlock ∧
      (v'.ownBlock = v.ownBlock ∨ v'.ownBlock = some w.heap.size) := by
  cases A with
  | none =>
    obtain ⟨rfl, rfl⟩ := hA rfl
    have hn : news = [] := List.eq_nil_of_length_eq_zero (by simpa using hl)
    subst hn
    exact ⟨v, w, run_append_owned_none (P := P) (w := w) base t ty e i size ht hi v n xs hown, by simpa using hown, World.grownBy.refl w _, .inl rfl⟩
  | some ad =>
    have hcells : ∀ j u, news[j]? = some u → w.cell? (ad.add j) = some u := by
      intro j u hu
      obtain ⟨b, off, hab, hc⟩ := hr (fun h => by subst h; simp at hu)
      injection hab with hab
      subst hab
      rw [Go.WideShapes.add_plain]
      exact hc j u hu
    obtain ⟨v', w', hrun, h2, h3, _, h5⟩ := run_append_own_at (P := P) w base t ty e i z size bytes ht hi hz hsize hby hzs hsz v n xs hown ad m c news hl hcells h1 h63 hbytes hbase
    exact ⟨v', w', hrun, h2, h3, h5⟩

theorem wpList_append_lies {P : Program} (w : World) {ops : Array Oper} {rest : List Oper} {o : Oper} {a : Act} {Q : Exit → Act → World → Prop} (hgd : o.guard = none) (s x : Operand) (t : TypeId)
    (ho : o.op = .call { callee := .builtin .append, args := #[s, x], argTypes := #[t, t] })
    (base : Nat) (e : TypeId) (i : TypeInfo) (z : Value) (size bytes : Nat) (ht : P.underlying t = some (.slice e)) (hi : P.info? e = some i) (hz : i.zero = some z)
    (hsize : i.size = size) (hby : i.bytes = bytes) (hzs : z.cells.size = size) (hsz : 0 < size)
    (v : Value) (n : Nat) (xs : List Value) (hs : a.eval s = v) (hown : w.ownsRow base e size v n xs)
    (A : Option Addr) (m c : Nat) (hA : A = none → m = 0 ∧ c = 0) (news : List Value) (hx : a.eval x = .slice A m c) (hl : news.length = m * size) (hr : Lies w A news) (h1 : ∀ u ∈ news, u.oneCell' = true)
    (h63 : n + m ≤ maxLen) (hbytes : (n + m) * bytes ≤ 140737488355328) (hbase : base ≤ w.heap.size)
    (h : ∀ v' w', w'.ownsRow base e size v' (n + m) (xs ++ news) → w.grownBy w' v.ownBlock → (v'.ownBlock = v.ownBlock ∨ v'.ownBlock = some w.heap.size) → wpList P ops Q rest (a.put o.dst v') w') :
    wpList P ops Q (o :: rest) a w := by
  refine wpList_plain hgd fun K hK => ?_
  obtain ⟨v', w', hrun, h2, h3, h4⟩ := run_append_lies (P := P) w base t o.type e i z size bytes ht hi hz hsize hby hzs hsz v n xs hown A m c hA news hl hr h1 h63 hbytes hbase
  unfold Oper.wp execOp
  simp only [ho, resolve, invoke, builtin, Sem.run_bind, Sem.run_pure, Result.andThen_ok, List.map_toArray, List.map_cons, List.map_nil, hs, hx, hrun]
  exact hK _ _ (h v' w' h2 h3 h4)

/-- A row of the call's own, its value written out. -/
theorem own_form {w : World} {base : Nat} {e : TypeId} {size n : Nat} {v : Value} {xs : List Value} (h : w.ownsRow base e size v n xs) :
    ∃ A c, v = .slice A n c ∧ n ≤ c ∧ c ≤ maxLen ∧ (A = none → n = 0 ∧ c = 0) ∧ Lies w A xs := by
  have h0 := h
  obtain ⟨_, h1⟩ := h
  rcases h1 with ⟨rfl, rfl⟩ | ⟨g, cap, cur, rfl, _, _, hnc, hcm, _, _⟩
  · exact ⟨none, 0, rfl, Nat.le_refl _, Nat.zero_le _, fun _ => ⟨rfl, rfl⟩, Lies.of_own h0⟩
  · exact ⟨_, cap, rfl, hnc, hcm, (fun h => by cases h), Lies.of_own h0⟩

theorem own_base {w : World} {base base' : Nat} {e : TypeId} {size n : Nat} {v : Value} {xs : List Value} (h : w.ownsRow base e size v n xs) (hb : base' ≤ base) : w.ownsRow base' e size v n xs := by
  obtain ⟨h0, h1⟩ := h
  refine ⟨h0, ?_⟩
  rcases h1 with h1 | ⟨g, cap, cur, hv, hg, r⟩
  · exact .inl h1
  · exact .inr ⟨g, cap, cur, hv, by omega, r⟩
/-- A row of the call's own lies from its base on. -/
theorem own_ge {w : World} {base : Nat} {e : TypeId} {size n : Nat} {v : Value} {xs : List Value} (h : w.ownsRow base e size v n xs) : ∀ k, v.ownBlock = some k → base ≤ k := by
  intro k hk
  rcases h.2 with ⟨rfl, _⟩ | ⟨g, cap, cur, rfl, hg, _⟩
  · simp [Value.ownBlock] at hk
  · simp [Value.ownBlock] at hk
    omega

/-- The cells of a list of stamps. -/
def stCells : List (Int × Int) → List Value
  | [] => []
  | s :: r => .int .i64 s.1 :: .int .i64 s.2 :: stCells r
theorem stCells_length (l : List (Int × Int)) : (stCells l).length = l.length * 2 := by
  induction l with
  | nil => rfl
  | cons s r ih => simp [stCells, ih]; omega
theorem stCells_one (l : List (Int × Int)) : ∀ u ∈ stCells l, u.oneCell' = true := by
  induction l with
  | nil => intro u hu; cases hu
  | cons s r ih =>
    intro u hu
    simp [stCells] at hu
    rcases hu with rfl | rfl | hu
    · rfl
    · rfl
    · exact ih u hu
theorem stCells_get (l : List (Int × Int)) : ∀ k, k < l.length → (stCells l)[k * 2]? = some (.int .i64 (l.getD k (0, 0)).1) ∧ (stCells l)[k * 2 + 1]? = some (.int .i64 (l.getD k (0, 0)).2) := by
  induction l with
  | nil => intro k hk; simp at hk
  | cons s r ih =>
    intro k hk
    cases k with
    | zero => simp [stCells]
    | succ k =>
      have := ih k (by simpa using hk)
      rw [show (k + 1) * 2 = k * 2 + 2 from by omega, show k * 2 + 2 + 1 = (k * 2 + 1) + 2 from by omega]
      simpa [stCells] using this
theorem stCells_append (l r : List (Int × Int)) : stCells (l ++ r) = stCells l ++ stCells r := by
  induction l with
  | nil => rfl
  | cons s l ih => simp [stCells, ih]
theorem stCells_nil {l : List (Int × Int)} : stCells l = [] ↔ l = [] := by cases l <;> simp [stCells]

/-- What a list of stamps in memory is: its cells, two an element. -/
def Stamps (w : World) (A : Option Addr) (l : List (Int × Int)) : Prop :=
  l ≠ [] → ∃ b off, A = some ⟨b, off, none⟩ ∧ ∀ k, k < l.length → w.cell? ⟨b, off + k * 2, none⟩ = some (.int .i64 (l.getD k (0, 0)).1) ∧ w.cell? ⟨b, off + k * 2 + 1, none⟩ = some (.int .i64 (l.getD k (0, 0)).2)
theorem Stamps.of_lies {w : World} {A : Option Addr} {l : List (Int × Int)} (h : Lies w A (stCells l)) : Stamps w A l := fun hne => by
  obtain ⟨b, off, hA, hc⟩ := h (fun he => hne (stCells_nil.1 he))
  refine ⟨b, off, hA, fun k hk => ?_⟩
  obtain ⟨h0, h1⟩ := stCells_get l k hk
  exact ⟨hc _ _ h0, by rw [Nat.add_assoc]; exact hc _ _ h1⟩

end Go.Proofs.Ytbbmngabbbehcaa
namespace Go.Proofs.Ytbbmngabbbehcaa
namespace Ve

/-- The count of a node in a list: that of its first right stamp of that node; 0 if there is none. -/
def cnt : List (Int × Int) → Nat → Int
  | [], _ => 0
  | s :: r, n => if St.rgt s.1 s.2 = true ∧ s.2 = (n : Int) then s.1 else cnt r n

/-- An array of 64 numbers, as cells. -/
def arr (f : Nat → Int) : Array Value := ((List.range 64).map fun i => Value.int .i64 (f i)).toArray
theorem arr_size (f : Nat → Int) : (arr f).size = 64 := by simp [arr]
theorem arr_get (f : Nat → Int) (i : Nat) (h : i < 64) : (arr f)[i]? = some (.int .i64 (f i)) := by simp [arr, h]
theorem arr_ext {f g : Nat → Int} (h : ∀ i, i < 64 → f i = g i) : arr f = arr g := by
  unfold arr
  congr 1
  apply List.map_congr_left
  intro i hi
  rw [h i (List.mem_range.1 hi)]
theorem arr_set (f : Nat → Int) (i : Nat) (x : Int) (_h : i < 64) : (arr f).setIfInBounds i (.int .i64 x) = arr (fun j => if j = i then x else f j) := by
  apply Array.ext_getElem?
  intro j
  by_cases hj : j < 64
  · rw [arr_get _ j hj, Array.getElem?_setIfInBounds]
    by_cases e : i = j
    · subst e
      rw [if_pos rfl, if_pos (by rw [arr_size]; exact hj), if_pos rfl]
    · rw [if_neg e, arr_get _ j hj, if_neg (fun h => e h.symm)]
  · rw [Array.getElem?_eq_none (by rw [Array.size_setIfInBounds, arr_size]; omega), Array.getElem?_eq_none (by rw [arr_size]; omega)]
theorem arr_zero : arr (fun _ => 0) = #[.int .i64 0, .int .i64 0, .int .i64 0, .int .i64 0, .int .i64 0, .int .i64 0, .int .i64 0, .int .i64 0, .int .i64 0, .int .i64 0, .int .i64 0, .int .i64 0, .int .i64 0, .int .i64 0, .int .i64 0, .int .i64 0,
    .int .i64 0, .int .i64 0, .int .i64 0, .int .i64 0, .int .i64 0, .int .i64 0, .int .i64 0, .int .i64 0, .int .i64 0, .int .i64 0, .int .i64 0, .int .i64 0, .int .i64 0, .int .i64 0, .int .i64 0, .int .i64 0,
    .int .i64 0, .int .i64 0, .int .i64 0, .int .i64 0, .int .i64 0, .int .i64 0, .int .i64 0, .int .i64 0, .int .i64 0, .int .i64 0, .int .i64 0, .int .i64 0, .int .i64 0, .int .i64 0, .int .i64 0, .int .i64 0,
    .int .i64 0, .int .i64 0, .int .i64 0, .int .i64 0, .int .i64 0, .int .i64 0, .int .i64 0, .int .i64 0, .int .i64 0, .int .i64 0, .int .i64 0, .int .i64 0, .int .i64 0, .int .i64 0, .int .i64 0, .int .i64 0] := by rfl
theorem cnt_drop (l : List (Int × Int)) (k : Nat) (h : k < l.length) (n : Nat) : cnt (l.drop k) n = if St.rgt l[k].1 l[k].2 = true ∧ l[k].2 = (n : Int) then l[k].1 else cnt (l.drop (k + 1)) n := by
  rw [List.drop_eq_getElem_cons h]
  rfl

/-- The vector of counts, up to node k. -/
def ofTo (f : Nat → Int) : Nat → List (Int × Int)
  | 0 => []
  | k + 1 => ofTo f k ++ (if 0 < f k then [(f k, (k : Int))] else [])
theorem ofTo_len (f : Nat → Int) : ∀ k, (ofTo f k).length ≤ k
  | 0 => Nat.le_refl _
  | k + 1 => by
    have := ofTo_len f k
    unfold ofTo
    split <;> simp <;> omega
def ofL (f : Nat → Int) : List (Int × Int) := ofTo f 64
theorem ofL_len (f : Nat → Int) : (ofL f).length ≤ 64 := ofTo_len f 64
theorem ofTo_ext {f g : Nat → Int} : ∀ k, (∀ i, i < k → f i = g i) → ofTo f k = ofTo g k
  | 0, _ => rfl
  | k + 1, h => by
    unfold ofTo
    rw [ofTo_ext k (fun i hi => h i (by omega)), h k (by omega)]
theorem ofL_ext {f g : Nat → Int} (h : ∀ i, i < 64 → f i = g i) : ofL f = ofL g := ofTo_ext 64 h

/-- Is no count of g greater, up to node k? -/
def covTo (f g : Nat → Int) (k : Nat) : Prop := ∀ n, n < k → g n ≤ f n
def cov (f g : Nat → Int) : Bool := decide (∀ n : Fin 64, g n ≤ f n)
theorem cov_iff (f g : Nat → Int) : cov f g = true ↔ covTo f g 64 := by
  unfold cov covTo
  rw [decide_eq_true_iff]
  exact ⟨fun h n hn => h ⟨n, hn⟩, fun h n => h n.val n.isLt⟩
theorem cov_no {f g : Nat → Int} (k : Nat) (hk : k < 64) (h : f k < g k) : cov f g = false := by
  cases hc : cov f g with
  | false => rfl
  | true => have := (cov_iff f g).1 hc k hk; omega
/-- How two stand. -/
def stand (f g : Nat → Int) : Int := if cov f g = true then (if cov g f = true then 0 else 2) else (if cov g f = true then 1 else 3)
theorem stand_eq (f g : Nat → Int) : stand f g = if cov f g = true then (if cov g f = true then 0 else 2) else (if cov g f = true then 1 else 3) := rfl
/-- The greatest count, up to node k. -/
def topTo (f : Nat → Int) : Nat → Int
  | 0 => 0
  | k + 1 => if topTo f k < f k then f k else topTo f k
def top (f : Nat → Int) : Int := topTo f 64
theorem cnt_nonneg (l : List (Int × Int)) (n : Nat) : 0 ≤ cnt l n := by
  induction l with
  | nil => exact Int.le_refl _
  | cons s r ih =>
    unfold cnt
    split
    · rename_i h
      have : 1 ≤ s.1 := by have := h.1; unfold St.rgt at this; exact (of_decide_eq_true this).1
      omega
    · exact ih
/-- Is it a vector? -/
def formed : List (Int × Int) → Bool
  | [] => true
  | [s] => St.rgt s.1 s.2
  | s :: t :: r => St.rgt s.1 s.2 && decide (s.2 < t.2) && formed (t :: r)

end Ve
end Go.Proofs.Ytbbmngabbbehcaa
namespace Go.Proofs.Ytbbmngabbbehcaa
open Go.RowKit

/-- A list of stamps by value: its length, its room, its cells. -/
def OneL (w : World) (A : Option Addr) (c : Nat) (l : List (Int × Int)) : Prop := l.length ≤ c ∧ c ≤ maxLen ∧ (A = none → l.length = 0 ∧ c = 0) ∧ Lies w A (stCells l)
section
variable {w w' : World} {A : Option Addr} {c : Nat} {l : List (Int × Int)}
theorem OneL.later (h : OneL w A c l) (hb : Below w.heap.size w w') : OneL w' A c l := ⟨h.1, h.2.1, h.2.2.1, h.2.2.2.later hb⟩
theorem OneL.len (h : OneL w A c l) : l.length ≤ 9223372036854775807 := by
  have h1 := h.1
  have h2 := h.2.1
  unfold maxLen at h2
  omega
theorem OneL.stamps (h : OneL w A c l) : Stamps w A l := Stamps.of_lies h.2.2.2
theorem OneL.nil : OneL w none 0 [] := ⟨Nat.le_refl _, Nat.zero_le _, fun _ => ⟨rfl, rfl⟩, Lies.nil⟩
theorem OneL.of_own {base : Nat} {e : TypeId} {v : Value} (h : w.ownsRow base e 2 v l.length (stCells l)) : ∃ A c, v = .slice A l.length c ∧ OneL w A c l := by
  obtain ⟨A, c, h1, h2, h3, h4, h5⟩ := own_form h
  exact ⟨A, c, h1, h2, h3, h4, h5⟩
end

/-- A slice of lists of stamps in memory. -/
def Rows (w : World) (A : Option Addr) (ls : List (List (Int × Int))) : Prop :=
  ls ≠ [] → ∃ b off, A = some ⟨b, off, none⟩ ∧ ∀ k, k < ls.length → ∃ A' c', w.cell? ⟨b, off + k, none⟩ = some (.slice A' (ls.getD k []).length c') ∧ OneL w A' c' (ls.getD k [])
theorem Rows.later {w w' : World} {A : Option Addr} {ls : List (List (Int × Int))} (h : Rows w A ls) (hb : Below w.heap.size w w') : Rows w' A ls := fun hne => by
  obtain ⟨b, off, hA, hc⟩ := h hne
  refine ⟨b, off, hA, fun k hk => ?_⟩
  obtain ⟨A', c', h1, h2⟩ := hc k hk
  exact ⟨A', c', (hb.cell (World.block_lt_of_cell? w _ h1)).trans h1, h2.later hb⟩
theorem Rows.nil {w : World} {A : Option Addr} : Rows w A [] := fun h => absurd rfl h
theorem Rows.len {w : World} {A : Option Addr} {ls : List (List (Int × Int))} (h : Rows w A ls) : ∀ k, k < ls.length → (ls.getD k []).length ≤ 9223372036854775807 := fun k hk => by
  obtain ⟨_, _, _, hc⟩ := h (fun e => by subst e; simp at hk)
  obtain ⟨_, _, _, h2⟩ := hc k hk
  exact h2.len

namespace Ve
/-- The greatest counts of the first k lists. -/
def jnTo (ls : List (List (Int × Int))) : Nat → Nat → Int
  | 0, _ => 0
  | k + 1, n => if jnTo ls k n < cnt (ls.getD k []) n then cnt (ls.getD k []) n else jnTo ls k n
def jn (ls : List (List (Int × Int))) : Nat → Int := jnTo ls ls.length
theorem jnTo_nonneg (ls : List (List (Int × Int))) : ∀ k n, 0 ≤ jnTo ls k n
  | 0, _ => Int.le_refl _
  | k + 1, n => by
    unfold jnTo
    split
    · exact cnt_nonneg _ _
    · exact jnTo_nonneg ls k n
/-- Half of a round: the greater ones, up to node n. -/
def mxTo (f g : Nat → Int) (n : Nat) : Nat → Int := fun j => if j < n then (if f j < g j then g j else f j) else f j
/-- The least counts of the first k + 1 lists. -/
def mtTo (ls : List (List (Int × Int))) : Nat → Nat → Int
  | 0, n => cnt (ls.getD 0 []) n
  | k + 1, n => if cnt (ls.getD (k + 1) []) n < mtTo ls k n then cnt (ls.getD (k + 1) []) n else mtTo ls k n
def mt (ls : List (List (Int × Int))) : Nat → Int := mtTo ls (ls.length - 1)
def mnTo (f g : Nat → Int) (n : Nat) : Nat → Int := fun j => if j < n then (if g j < f j then g j else f j) else f j
theorem mtTo_nonneg (ls : List (List (Int × Int))) : ∀ k n, 0 ≤ mtTo ls k n
  | 0, n => cnt_nonneg _ _
  | k + 1, n => by
    unfold mtTo
    split
    · exact cnt_nonneg _ _
    · exact mtTo_nonneg ls k n
theorem mx_step (f g : Nat → Int) (n : Nat) (x : Int) (h : x = if f n < g n then g n else f n) (i : Nat) : (if i = n then x else mxTo f g n i) = mxTo f g (n + 1) i := by
  unfold mxTo
  by_cases e : i = n
  · subst e
    rw [if_pos rfl, if_pos (Nat.lt_succ_self _), h]
  · rw [if_neg e]
    by_cases e2 : i < n
    · rw [if_pos e2, if_pos (show i < n + 1 by omega)]
    · rw [if_neg e2, if_neg (show ¬ i < n + 1 by omega)]
theorem mn_step (f g : Nat → Int) (n : Nat) (x : Int) (h : x = if g n < f n then g n else f n) (i : Nat) : (if i = n then x else mnTo f g n i) = mnTo f g (n + 1) i := by
  unfold mnTo
  by_cases e : i = n
  · subst e
    rw [if_pos rfl, if_pos (Nat.lt_succ_self _), h]
  · rw [if_neg e]
    by_cases e2 : i < n
    · rw [if_pos e2, if_pos (show i < n + 1 by omega)]
    · rw [if_neg e2, if_neg (show ¬ i < n + 1 by omega)]
/-- The meet of lists, as stamps: none of none. -/
def meetL (ls : List (List (Int × Int))) : List (Int × Int) := if ls = [] then [] else ofL (mt ls)
def joinL (ls : List (List (Int × Int))) : List (Int × Int) := ofL (jn ls)
end Ve
end Go.Proofs.Ytbbmngabbbehcaa
