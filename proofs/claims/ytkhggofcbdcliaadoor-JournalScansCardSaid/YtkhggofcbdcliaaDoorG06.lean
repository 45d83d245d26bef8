/-
  A list of files whose files are laid anew one by one: each in memory of the call's own, apart from one another. Nothing of the program is imported.
  What bytes.Clone answers.
  'append([]T{}, xs...)': onto an empty slice without room: what lay there is as it was. Nothing of the program is imported.
  A region that draws its order, whose operations may make memory and hand back what depends on the order: each operation is walked once, over what is known of those that it waits for; the last ones, in one forced order, behind them. Nothing of the program is imported.
-/
import Derived.Test.YtkhggofcbdcliaaDoorG04
import Derived.Lib.SliceRun
import Derived.Lib.Walk
import Derived.Test.YtkhggofcbdcliaaDoorG01
import Derived.Laws.CopyOwn
import Derived.StillTail
import Derived.Below
namespace Go.Proofs.YtkhggofcbdcliaaDoor
open Go.RowKit

section
variable {w w' : World} {base n0 : Nat} {t e : TypeId} {v : Value} {L Lk : List Fc} {k : Nat}
/-- A file's bytes lie in another block than the row of the files. -/
theorem OwnB.off_row {f : Fc} {g n cap : Nat} {xs : List Value} {size : Nat} (h : OwnB w base e f) (hr : w.ownsRow n0 t size (.slice (some ⟨g, 0, none⟩) n cap) n xs) (hne : t ≠ e) : f.blk ≠ some g := by
  intro hb
  unfold Fc.blk at hb
  cases hX : f.X with
  | none => rw [hX] at hb; cases hb
  | some a =>
    obtain ⟨b, cur, rfl, _, hB, _⟩ := h.at_ a hX
    rw [hX] at hb
    injection hb with hb
    subst hb
    rcases hr.2 with ⟨h1, _⟩ | ⟨g', cap', cur', h1, _, hg, _⟩
    · cases h1
    · injection h1 with h1
      injection h1 with h1
      injection h1 with h1
      subst h1
      unfold Blk at hB
      rw [hg] at hB
      injection hB with hB
      injection hB with _ hB
      exact hne hB
/-- A cell elsewhere is written anew. -/
theorem OwnB.far {f : Fc} (h : OwnB w base e f) {p : Addr} (hp : f.blk ≠ some p.block) (u : Value) : OwnB (w.setCell p u) base e f :=
  h.stays fun k hk => Below.heap_setCell w p u k (fun e => hp (by rw [← e]; exact hk))

/-- A file's bytes, in a block that is theirs alone. -/
def OwnS (w : World) (base : Nat) (e : TypeId) (f : Fc) : Prop := w.ownsRow base e 1 (.slice f.X f.l.length f.c) f.l.length (bCells f.l)
theorem sl_blk (f : Fc) : Value.ownBlock (.slice f.X f.l.length f.c) = f.blk := by
  unfold Fc.blk
  cases f.X <;> rfl
theorem OwnS.stays {f : Fc} (h : OwnS w base e f) (hs : ∀ k, f.blk = some k → w'.heap[k]? = w.heap[k]?) : OwnS w' base e f := own_stays h fun k hk => hs k (by rw [← sl_blk]; exact hk)
theorem OwnS.later {f : Fc} (h : OwnS w base e f) (hb : Below w.heap.size w w') : OwnS w' base e f := own_later h hb
theorem OwnS.lower {f : Fc} {base' : Nat} (h : OwnS w base e f) (hb : base' ≤ base) : OwnS w base' e f := own_base h hb
theorem OwnS.far {f : Fc} (h : OwnS w base e f) {p : Addr} (hp : f.blk ≠ some p.block) (u : Value) : OwnS (w.setCell p u) base e f :=
  h.stays fun k hk => Below.heap_setCell w p u k (fun e => hp (by rw [← e]; exact hk))
/-- Of a list of files the first k lie anew, as they read before. -/
structure HalfD (w : World) (n0 : Nat) (t e : TypeId) (v : Value) (L : List Fc) (k : Nat) (Lk : List Fc) : Prop where
  len : Lk.length = L.length
  fi : Lk.map Fc.fi = L.map Fc.fi
  rest : ∀ i, k ≤ i → Lk[i]? = L[i]?
  row : w.ownsRow n0 t 3 v L.length (fCells Lk)
  each : ∀ (i : Nat) (x : Fc), i < k → Lk[i]? = some x → OwnB w n0 e x
  hard : ∀ (i : Nat) (x : Fc), i < k → Lk[i]? = some x → OwnS w n0 e x
  apart : ∀ (i j : Nat) (x y : Fc) (b : Nat), i < j → j < k → Lk[i]? = some x → Lk[j]? = some y → x.blk = some b → y.blk ≠ some b
theorem HalfD.start (h : w.ownsRow n0 t 3 v L.length (fCells L)) : HalfD w n0 t e v L 0 L := ⟨rfl, rfl, fun _ _ => rfl, h, (fun i x hi => by omega), (fun i x hi => by omega), fun i j x y b hij hj => by omega⟩
theorem HalfD.next (hne : t ≠ e) {g cap : Nat} (h : HalfD w n0 t e (.slice (some ⟨g, 0, none⟩) L.length cap) L k Lk) {x : Fc} (hx : L[k]? = some x) {X : Option Addr} {c : Nat} (hb : Below w.heap.size w w') {B : Nat} (hB : w.heap.size ≤ B) (hn : n0 ≤ w.heap.size)
    (ho : OwnB w' B e { x with X := X, c := c }) (hs : OwnS w' B e { x with X := X, c := c }) : HalfD (w'.setCell ⟨g, k * 3 + 1, none⟩ (.slice X x.l.length c)) n0 t e (.slice (some ⟨g, 0, none⟩) L.length cap) L (k + 1) (Lk.set k { x with X := X, c := c }) := by
  have hk : k < L.length := (List.getElem?_eq_some_iff.1 hx).1
  have hxk : Lk[k]? = some x := by rw [h.rest k (Nat.le_refl _)]; exact hx
  have hrow := own_later h.row hb
  have hg := own_base_le h.row
  refine ⟨by rw [List.length_set]; exact h.len, ?_, fun i hi => ?_, ?_, fun i y hi hy => ?_, fun i y hi hy => ?_, fun i j y z b hij hj hy hz hby => ?_⟩
  · rw [List.map_set, ← h.fi]
    apply List.ext_getElem?
    intro i
    by_cases e : k = i
    · subst e
      rw [List.getElem?_set_self (by rw [List.length_map, h.len]; exact hk), List.getElem?_map, hxk]
      rfl
    · rw [List.getElem?_set_ne e]
  · rw [List.getElem?_set_ne (by omega)]
    exact h.rest i (by omega)
  · have := own_put hrow (k * 3 + 1) (.slice X x.l.length c)
    rw [fCells_set1 x X c x.l Lk k hxk] at this
    exact this
  · by_cases ek : i = k
    · subst ek
      rw [List.getElem?_set_self (by rw [h.len]; exact hk)] at hy
      cases hy
      exact (ho.lower (by omega)).far (ho.off_row hrow hne) _
    · rw [List.getElem?_set_ne (by omega)] at hy
      have h1 := (h.each i y (by omega) hy).later hb
      exact h1.far (h1.off_row hrow hne) _
  · by_cases ek : i = k
    · subst ek
      rw [List.getElem?_set_self (by rw [h.len]; exact hk)] at hy
      cases hy
      exact (hs.lower (by omega)).far (ho.off_row hrow hne) _
    · rw [List.getElem?_set_ne (by omega)] at hy
      have h1 := (h.each i y (by omega) hy).later hb
      exact ((h.hard i y (by omega) hy).later hb).far (h1.off_row hrow hne) _
  · by_cases ek : j = k
    · subst ek
      rw [List.getElem?_set_self (by rw [h.len]; exact hk)] at hz
      cases hz
      rw [List.getElem?_set_ne (by omega)] at hy
      have h1 := ((h.each i y hij hy).lt b hby).2
      intro hc
      have h2 := (ho.lt b hc).1
      omega
    · rw [List.getElem?_set_ne (by omega)] at hy hz
      exact h.apart i j y z b hij (by omega) hy hz hby
theorem HalfD.done (h : HalfD w n0 t e v L k Lk) (hk : L.length ≤ k) : OwnD w n0 t e v Lk := by
  refine ⟨by rw [h.len]; exact h.row, fun f hf => ?_, fun i j x y b hij hx hy => ?_⟩
  · obtain ⟨i, hi⟩ := List.getElem?_of_mem hf
    have := (List.getElem?_eq_some_iff.1 hi).1
    exact h.each i f (by rw [h.len] at this; omega) hi
  · have := (List.getElem?_eq_some_iff.1 hy).1
    exact h.apart i j x y b hij (by rw [h.len] at this; omega) hx hy
theorem HalfD.hards (h : HalfD w n0 t e v L k Lk) (hk : L.length ≤ k) : ∀ f ∈ Lk, OwnS w n0 e f := fun f hf => by
  obtain ⟨i, hi⟩ := List.getElem?_of_mem hf
  have := (List.getElem?_eq_some_iff.1 hi).1
  exact h.hard i f (by rw [h.len] at this; omega) hi
/-- A file behind the others. -/
theorem OwnD.snoc (hne : t ≠ e) (h : OwnD w n0 t e v L) {x : Fc} {B : Nat} (hB : n0 ≤ B) (hlt : ∀ f ∈ L, ∀ b, f.blk = some b → b < B) (ho : OwnB w B e x) {v2 : Value} {w2 : World} (hg : w.grownBy w2 v.ownBlock)
    (h2 : w2.ownsRow n0 t 3 v2 (L.length + 1) (fCells L ++ fCells [x])) : OwnD w2 n0 t e v2 (L ++ [x]) := by
  have keep : ∀ {B : Nat} {f : Fc}, OwnB w B e f → OwnB w2 B e f := fun {B f} hf => hf.stays fun k hk => hg.block k (hf.lt k hk).2 (fun ek => by
    obtain ⟨_, h1⟩ := h.row
    rcases h1 with ⟨hv, _⟩ | ⟨g, cap, cur, hv, _⟩
    · rw [hv] at ek; cases ek
    · have hr := h.row
      rw [hv] at ek hr
      have : f.blk = some g := by rw [hk]; exact ek
      exact hf.off_row hr hne this)
  refine ⟨by rw [fCells_append, List.length_append, List.length_singleton]; exact h2, fun f hf => ?_, fun i j y z b hij hy hz hby => ?_⟩
  · rcases List.mem_append.1 hf with hf | hf
    · exact keep (h.each f hf)
    · simp at hf
      subst hf
      exact keep (ho.lower hB)
  · have hj := (List.getElem?_eq_some_iff.1 hz).1
    rw [List.length_append, List.length_singleton] at hj
    rw [List.getElem?_append_left (by omega)] at hy
    by_cases ej : j < L.length
    · rw [List.getElem?_append_left ej] at hz
      exact h.apart i j y z b hij hy hz hby
    · have : j = L.length := by omega
      subst this
      rw [List.getElem?_concat_length] at hz
      cases hz
      have h1 := hlt y (List.mem_of_getElem? hy) b hby
      intro hc
      have := (ho.lt b hc).1
      omega
theorem OwnD.blk_lt (h : OwnD w n0 t e v L) : ∀ f ∈ L, ∀ b, f.blk = some b → b < w.heap.size := fun f hf b hb => ((h.each f hf).lt b hb).2
/-- A cell below is written anew. -/
theorem OwnD.low (h : OwnD w n0 t e v L) {p : Addr} (hp : p.block < n0) (u : Value) : OwnD (w.setCell p u) n0 t e v L :=
  have hf : ∀ k, n0 ≤ k → (w.setCell p u).heap[k]? = w.heap[k]? := fun k hk => Below.heap_setCell _ _ _ _ (by omega)
  ⟨own_stays h.row fun k hk => hf k (own_ge h.row k hk), fun f hfm => (h.each f hfm).stays fun k hk => hf k ((h.each f hfm).lt k hk).1, h.apart⟩
theorem OwnD.nil (w : World) (n0 : Nat) (t e : TypeId) : OwnD w n0 t e (.slice none 0 0) [] := ⟨⟨rfl, .inl ⟨rfl, rfl⟩⟩, (fun _ h => by cases h), fun i j x y b _ hx => by simp at hx⟩
end
end Go.Proofs.YtkhggofcbdcliaaDoor
namespace Go.Proofs.YtkhggofcbdcliaaDoor
open Go.RowKit

set_option maxHeartbeats 800000 in
theorem cloneB_any (A : Option Addr) (c1 : Nat) (l : List Int) (w : World) (hl : l.length ≤ 140737488355328) (h1 : OneB w A c1 l) :
    Calls Tryd.prog 36 #[.slice A l.length c1] w (GivesB l w) := by
  obtain ⟨i0, hi, hz0, hz1, hz2⟩ := info_parts infoBy
  cases A with
  | none =>
    obtain ⟨h0, hc⟩ := h1.noA rfl
    have hl0 : l = [] := List.eq_nil_of_length_eq_zero h0
    subst hl0
    subst hc
    clear h1
    have heq := fun wx => Lib.run_eql_slice_nil (P := Tryd.prog) wx 25 5 none 0 0 0 0 Tryd.underlying25
    go_enter Tryd.func36, Tryd.ntmps36
    go_wp2
    go_ret
    exact ⟨_, rfl, ⟨rfl, .inl ⟨rfl, rfl⟩⟩, Below.refl _ _⟩
  | some a =>
    have hown : (w.alloc (.cells #[] 5)).ownsRow w.heap.size 5 1 (.slice (some ⟨w.heap.size, 0, none⟩) 0 0) 0 [] :=
      ⟨rfl, .inr ⟨w.heap.size, 0, #[], rfl, Nat.le_refl _, heap_alloc_new w _, Nat.le_refl _, Nat.zero_le _, rfl, rfl⟩⟩
    have HA := Lib.hid h1.noA
    have heq := fun wx => Lib.run_eql_slice_nil (P := Tryd.prog) wx 25 5 (some a) l.length c1 0 0 Tryd.underlying25
    go_enter Tryd.func36, Tryd.ntmps36
    go_wp2_with (at_builtin; refine wpList_append_lies _ rfl _ _ 25 rfl w.heap.size 5 i0 (.int .u8 0) 1 1 Tryd.underlying25 hi hz0 hz1 hz2 rfl (by decide) _ 0 [] rfl hown (some a) l.length c1 HA.out (bCells l) rfl (by rw [bCells_length, Nat.mul_one]) (h1.lies.alloc _) (bCells_one l) ?c3 ?c4 ?c5 ?_)
    case c3 => unfold maxLen; omega
    case c4 => omega
    case c5 => simp
    intro v' w1 hown1 hg1 _
    have hbw : Below w.heap.size w w1 := (below_new (Below.refl _ _) (.cells #[] 5)).grown hg1 (by simp) (by intro k hk; simp [Value.ownBlock] at hk; omega)
    try simp only [Nat.zero_add, List.nil_append] at hown1
    have HO := Lib.hid hown1
    clear hown hown1 hg1
    go_wp2
    go_ret
    exact ⟨_, rfl, HO.out, hbw⟩

end Go.Proofs.YtkhggofcbdcliaaDoor
namespace Go.Proofs.YtkhggofcbdcliaaDoor
open Go.RowKit

theorem run_append_fresh {P : Program} (w : World) (base g : Nat) (t ty e : TypeId) (i : TypeInfo) (z : Value) (size bytes : Nat) (ht : P.underlying t = some (.slice e)) (hi : P.info? e = some i) (hz : i.zero = some z)
    (hsize : i.size = size) (hby : i.bytes = bytes) (hzs : z.cells.size = size) (hsz : 0 < size) (hg : Blk w g e #[]) (hbg : base ≤ g)
    (A : Option Addr) (m c : Nat) (hA : A = none → m = 0 ∧ c = 0) (news : List Value) (hl : news.length = m * size) (hr : Lies w A news) (h1 : ∀ u ∈ news, u.oneCell' = true)
    (h63 : m ≤ maxLen) (hbytes : m * bytes ≤ 140737488355328) :
    ∃ v' w', (Builtin.append_ #[t, t] ty #[.slice (some ⟨g, 0, none⟩) 0 0, .slice A m c]).run P w = .ok v' w' ∧ w'.ownsRow base e size v' m news ∧ Below w.heap.size w w' := by
  have hown : w.ownsRow base e size (.slice (some ⟨g, 0, none⟩) 0 0) 0 [] := ⟨by simp, .inr ⟨g, 0, #[], rfl, hbg, hg, Nat.le_refl _, Nat.zero_le _, by simp, by simp⟩⟩
  have hglt := hg.lt
  cases A with
  | none =>
    obtain ⟨rfl, rfl⟩ := hA rfl
    have hn : news = [] := List.eq_nil_of_length_eq_zero (by simpa using hl)
    subst hn
    exact ⟨_, w, run_append_owned_none (P := P) (w := w) base t ty e i size ht hi _ 0 [] hown, hown, Below.refl _ _⟩
  | some ad =>
    have hcells : ∀ j u, news[j]? = some u → w.cell? (ad.add j) = some u := by
      intro j u hu
      obtain ⟨b, off, hab, hc⟩ := hr (fun h => by subst h; simp at hu)
      injection hab with hab
      subst hab
      rw [Go.WideShapes.add_plain]
      exact hc j u hu
    subst hsize
    subst hby
    by_cases hm : m = 0
    · subst hm
      have hn : news = [] := List.eq_nil_of_length_eq_zero (by simpa using hl)
      subst hn
      have hrun := run_append_room (P := P) w t ty e i ht hi g 0 0 #[] hg ad 0 c [] (by simp) hcells h1 (Nat.le_refl _) (by simp)
      refine ⟨_, _, hrun, ⟨by simp, .inr ⟨g, 0, _, rfl, hbg, setRow_heap w g #[] _ e _ hg, Nat.le_refl _, Nat.zero_le _, by simp, by simp⟩⟩, ?_⟩
      refine ⟨rfl, rfl, rfl, by simp, fun k hk => ?_⟩
      by_cases hkg : k = g
      · subst hkg
        rw [setRow_heap w k #[] _ e _ hg, hg]
        simp
      · exact setRow_other w g k _ hkg
    · have hge := grownCap_ge w (0 + m) 0 e
      have hcm : grownCap w (0 + m) 0 e ≤ maxLen := grownCap_le_maxLen w (0 + m) 0 e (by omega)
      have hrun := run_append_grow (P := P) w t ty e i z ht hi hz ⟨g, 0, none⟩ 0 0 [] (by simp) (fun j u hu => by simp at hu) ad m c news hl hcells (by omega) (by unfold maxLen at h63; omega) (growslice_fits (by omega) (by rw [Nat.zero_add]; exact hbytes))
      refine ⟨_, _, hrun, ⟨hl, .inr ⟨w.heap.size, _, _, by rw [Nat.zero_add], by omega, heap_alloc_new w.drew _, by rw [Nat.zero_add] at hge ⊢; exact hge, hcm, ?_, ?_⟩⟩, ?_⟩
      · simp only [Array.size_append, List.size_toArray, size_zeroCells, hzs, hl, ← Nat.add_mul, List.length_nil, Nat.zero_add]
        congr 1
        rw [Nat.zero_add] at hge
        omega
      · simp only [Array.toList_append, List.nil_append]
        rw [← hl]
        exact List.take_left
      · exact (Below.drew (Below.refl _ _)).alloc (Nat.le_refl _) _

theorem wpList_append_fresh {P : Program} (w : World) {ops : Array Oper} {rest : List Oper} {o : Oper} {a : Act} {Q : Exit → Act → World → Prop} (hgd : o.guard = none) (s x : Operand) (t : TypeId)
    (ho : o.op = .call { callee := .builtin .append, args := #[s, x], argTypes := #[t, t] })
    (base g : Nat) (e : TypeId) (i : TypeInfo) (z : Value) (size bytes : Nat) (ht : P.underlying t = some (.slice e)) (hi : P.info? e = some i) (hz : i.zero = some z)
    (hsize : i.size = size) (hby : i.bytes = bytes) (hzs : z.cells.size = size) (hsz : 0 < size) (hs : a.eval s = .slice (some ⟨g, 0, none⟩) 0 0) (hg : Blk w g e #[]) (hbg : base ≤ g)
    (A : Option Addr) (m c : Nat) (hA : A = none → m = 0 ∧ c = 0) (news : List Value) (hx : a.eval x = .slice A m c) (hl : news.length = m * size) (hr : Lies w A news) (h1 : ∀ u ∈ news, u.oneCell' = true)
    (h63 : m ≤ maxLen) (hbytes : m * bytes ≤ 140737488355328)
    (h : ∀ v' w', w'.ownsRow base e size v' m news → Below w.heap.size w w' → wpList P ops Q rest (a.put o.dst v') w') :
    wpList P ops Q (o :: rest) a w := by
  refine wpList_plain hgd fun K hK => ?_
  obtain ⟨v', w', hrun, h2, h3⟩ := run_append_fresh (P := P) w base g t o.type e i z size bytes ht hi hz hsize hby hzs hsz hg hbg A m c hA news hl hr h1 h63 hbytes
  unfold Oper.wp execOp
  simp only [ho, resolve, invoke, builtin, Sem.run_bind, Sem.run_pure, Result.andThen_ok, List.map_toArray, List.map_cons, List.map_nil, hs, hx, hrun]
  exact hK _ _ (h v' w' h2 h3)

end Go.Proofs.YtkhggofcbdcliaaDoor
namespace Go.Proofs.YtkhggofcbdcliaaDoor
open Go.RowKit

/-- What operation i has yielded, written into the row of what has been yielded. -/
def upd (v : Nat → Value) (i : Nat) (x : Value) : Nat → Value := fun j => if j = i then x else v j
theorem upd_same (v : Nat → Value) (i : Nat) (x : Value) : upd v i x i = x := if_pos rfl
theorem upd_other (v : Nat → Value) (i : Nat) (x : Value) {j : Nat} (h : j ≠ i) : upd v i x j = v j := if_neg h

/-- The operations that one waits for. -/
def deps (md : Region.Mode) (ops : Array Oper) (i : Nat) : List Nat := ((ops[i]?).map fun o => (o.after.toList.filter fun e => Region.binds md e).map (·.on)).getD []
def headListed (size n : Nat) : Array Bool := ((List.range size).map fun i => decide (i < n)).toArray
/-- All of it asked at once of the region's text: every one waits for earlier ones; the tail waits for all, and for itself in its order. -/
def factsB (md : Region.Mode) (ops : Array Oper) (n : Nat) : Bool :=
  decide (n < ops.size) && Region.sinkB md ops n && Region.chainB md ops n && ((List.range ops.size).all fun i => (deps md ops i).all fun j => decide (j < i)) && Region.seqB md ops (ops.size - n) n (headListed ops.size n)

def cntTo (listed : Array Bool) : Nat → Nat
  | 0 => 0
  | k + 1 => cntTo listed k + (if listed.getD k true = false then 1 else 0)
theorem cntTo_set_ge (listed : Array Bool) (j : Nat) : ∀ k, k ≤ j → cntTo (listed.setIfInBounds j true) k = cntTo listed k
  | 0, _ => rfl
  | k + 1, h => by
    rw [cntTo, cntTo, cntTo_set_ge listed j k (by omega), getD_set_ne true (by omega)]
theorem cntTo_set (listed : Array Bool) (j : Nat) (hj : listed.getD j true = false) : ∀ k, j < k → cntTo (listed.setIfInBounds j true) k + 1 = cntTo listed k
  | 0, h => by omega
  | k + 1, h => by
    by_cases e : j = k
    · subst e
      have hs : (listed.setIfInBounds j true).getD j true = true := by
        rcases Nat.lt_or_ge j listed.size with h' | h'
        · simp [h']
        · simp [Array.getElem?_eq_none h'] at hj
      rw [cntTo, cntTo, cntTo_set_ge listed j j (Nat.le_refl _), hs, hj]
      simp
    · have := cntTo_set listed j hj k (by omega)
      rw [cntTo, cntTo, getD_set_ne true e]
      omega
theorem cntTo_zero (listed : Array Bool) : ∀ k, cntTo listed k = 0 → ∀ i, i < k → listed.getD i true = true
  | 0, _, i, hi => by omega
  | k + 1, h, i, hi => by
    rw [cntTo] at h
    by_cases e : i = k
    · subst e
      cases hl : listed.getD i true with
      | true => rfl
      | false => rw [hl] at h; simp at h
    · exact cntTo_zero listed k (by omega) i (by omega)
theorem cntTo_pos (listed : Array Bool) : ∀ k, 0 < cntTo listed k → ∃ i, i < k ∧ listed.getD i true = false ∧ ∀ j, j < i → listed.getD j true = true
  | 0, h => by simp [cntTo] at h
  | k + 1, h => by
    by_cases h0 : 0 < cntTo listed k
    · obtain ⟨i, h1, h2, h3⟩ := cntTo_pos listed k h0
      exact ⟨i, by omega, h2, h3⟩
    · rw [cntTo] at h
      refine ⟨k, by omega, ?_, cntTo_zero listed k (by omega)⟩
      cases hl : listed.getD k true with
      | false => rfl
      | true => rw [hl] at h; simp at h; omega
theorem cntTo_none (size : Nat) : ∀ k, k ≤ size → cntTo (Array.replicate size false) k = k
  | 0, _ => rfl
  | k + 1, h => by
    rw [cntTo, cntTo_none size k (by omega)]
    have : (Array.replicate size false).getD k true = false := by simp [show k < size from h]
    rw [this]
    simp

section
variable {P : Program} {ops : Array Oper} {md : Region.Mode} {Q : Exit → Act → World → Prop}

theorem wpAny_facts {n : Nat} (hB : factsB md ops n = true) (T : (Nat → Value) → Act) (Ψ : Nat → Value → World → Prop) (R : Nat → Nat → Value → Value → Prop) (Rel : World → World → Prop) (trans : ∀ {w1 w2 w3}, Rel w1 w2 → Rel w2 w3 → Rel w1 w3) (W0 : World)
    (stab : ∀ i x w w', Ψ i x w → Rel w w' → Ψ i x w')
    (step : ∀ i, i < n → ∀ v w, Rel W0 w → (∀ j ∈ deps md ops i, Ψ j (v j) w) → wpOp P ops Q i (fun a' w' => ∃ x, a' = T (upd v i x) ∧ Rel w w' ∧ Ψ i x w' ∧ ∀ j y, j ≠ i → Ψ j y w → R i j x y ∧ R j i y x) (T v) w)
    (done : ∀ v w, Rel W0 w → (∀ i, i < n → Ψ i (v i) w) → (∀ i j, i < n → j < n → i ≠ j → R i j (v i) (v j)) → wpList P ops Q (ops.toList.drop n) (T v) w) :
    ∀ (f : Nat) (listed : Array Bool) (v : Nat → Value) (w : World), HeadInv md ops n listed → cntTo listed n = f → Rel W0 w → (∀ i, i < n → listed.getD i true = true → Ψ i (v i) w) → (∀ i j, i < n → j < n → i ≠ j → listed.getD i true = true → listed.getD j true = true → R i j (v i) (v j)) → wpAny P md ops Q (f + (ops.size - n)) listed (T v) w := by
  simp only [factsB, Bool.and_eq_true, decide_eq_true_eq] at hB
  obtain ⟨⟨⟨⟨hn, hs⟩, hc⟩, hd⟩, hq⟩ := hB
  intro f
  induction f with
  | zero =>
    intro listed v w inv hcnt hb hfacts hrel
    have hall := cntTo_zero listed n hcnt
    have he : listed = headListed ops.size n := by
      apply Array.ext
      · rw [inv.size]; simp [headListed]
      · intro i h1 h2
        have hi : i < ops.size := by rw [← inv.size]; exact h1
        have e2 : (headListed ops.size n)[i] = decide (i < n) := by simp [headListed]
        rw [e2]
        by_cases hin : i < n
        · have := hall i hin
          simp [h1] at this
          rw [this, decide_eq_true hin]
        · have := inv.tail i (by omega) hi
          simp [h1] at this
          rw [this, decide_eq_false hin]
    rw [Nat.zero_add]
    have hl : (ops.toList.drop n).length = ops.size - n := by simp
    rw [← hl]
    refine wpAny_of_seq (ops.toList.drop n) n listed _ w (fun j => by simp) ?_ (done v w hb (fun i hi => hfacts i hi (hall i hi)) (fun i j hi hj hne => hrel i j hi hj hne (hall i hi) (hall j hj)))
    rw [hl, he]
    exact hq
  | succ f ih =>
    intro listed v w inv hcnt hb hfacts hrel
    obtain ⟨m, hm1, hm2, hm3⟩ := cntTo_pos listed n (by omega)
    have hmr : m ∈ Region.ready md ops listed := by
      have hms : m < ops.size := by omega
      refine mem_ready.2 ⟨hm2, ops[m], Array.getElem?_eq_getElem hms, fun e he hbind => ?_⟩
      have h1 := List.all_eq_true.1 hd m (List.mem_range.2 hms)
      have h2 : e.on ∈ deps md ops m := by
        unfold deps
        rw [Array.getElem?_eq_getElem hms]
        exact List.mem_map.2 ⟨e, List.mem_filter.2 ⟨Array.mem_toList_iff.2 he, hbind⟩, rfl⟩
      have h3 := of_decide_eq_true (List.all_eq_true.1 h1 _ h2)
      have h4 := hm3 e.on h3
      have h5 : e.on < listed.size := by rw [inv.size]; omega
      simp [h5] at h4 ⊢
      exact h4
    rw [show f + 1 + (ops.size - n) = (f + (ops.size - n)) + 1 from by omega]
    refine ⟨fun h0 => (by rw [h0] at hmr; cases hmr), fun i hi => ?_⟩
    have hin : i < n := by
      rcases Nat.lt_or_ge i n with h | h
      · exact h
      · exact absurd hi (tail_waits hs hc hn inv _ m rfl hm1 hm2 i h)
    obtain ⟨hun, oi, hoi, hafter⟩ := mem_ready.1 hi
    refine wpOp_mono ?_ (step i hin v w hb ?_)
    · rintro a' w' ⟨x, rfl, hb', hx, hrx⟩
      refine ih _ (upd v i x) w' (inv.set hi hin) (by have := cntTo_set listed i hun n hin; omega) (trans hb hb') (fun j hj hl => ?_) (fun p q hp hq hpq hlp hlq => ?_)
      · by_cases e : j = i
        · subst e
          rw [upd_same]
          exact hx
        · rw [upd_other v i x e]
          rw [getD_set_ne true (fun h => e h.symm)] at hl
          exact stab j _ w w' (hfacts j hj hl) hb'
      · by_cases ep : p = i
        · subst ep
          rw [upd_same, upd_other v p x (fun h => hpq h.symm)]
          rw [getD_set_ne true hpq] at hlq
          exact (hrx q _ (fun h => hpq h.symm) (hfacts q hq hlq)).1
        · rw [getD_set_ne true (fun h => ep h.symm)] at hlp
          by_cases eq : q = i
          · subst eq
            rw [upd_same, upd_other v q x ep]
            exact (hrx p _ ep (hfacts p hp hlp)).2
          · rw [getD_set_ne true (fun h => eq h.symm)] at hlq
            rw [upd_other v i x ep, upd_other v i x eq]
            exact hrel p q hp hq hpq hlp hlq
    · intro j hj
      unfold deps at hj
      rw [hoi] at hj
      obtain ⟨e, he, rfl⟩ := List.mem_map.1 hj
      obtain ⟨he1, he2⟩ := List.mem_filter.1 he
      have h1 := hafter e (Array.mem_toList_iff.1 he1) he2
      have h2 : e.on < listed.size := by
        rcases Nat.lt_or_ge e.on listed.size with h' | h'
        · exact h'
        · simp [Array.getElem?_eq_none h'] at h1
      have h3 : listed.getD e.on true = true := by simp [h2] at h1 ⊢; exact h1
      have h4 : e.on < n := by
        rcases Nat.lt_or_ge e.on n with h' | h'
        · exact h'
        · have := inv.tail e.on h' (by rw [← inv.size]; exact h2)
          rw [h3] at this
          cases this
      exact hfacts e.on h4 h3

/-- **A region that draws its order, whose operations make memory.** R: what two of them are to one another (two new blocks are not one). -/
theorem wp_region_facts2 {id : Nat} {l : List Oper} {w : World} (n : Nat) (hm : P.follows .mixedOrders = true) (hB : factsB .any l.toArray n = true) (T : (Nat → Value) → Act) (v0 : Nat → Value) (Ψ : Nat → Value → World → Prop) (R : Nat → Nat → Value → Value → Prop) (Rel : World → World → Prop) (trans : ∀ {w1 w2 w3}, Rel w1 w2 → Rel w2 w3 → Rel w1 w3) (hself : ∀ w, Rel w w) (hdrew : Rel w w.drew)
    (stab : ∀ i x w w', Ψ i x w → Rel w w' → Ψ i x w')
    (step : ∀ i, i < n → ∀ v w', Rel w w' → (∀ j ∈ deps .any l.toArray i, Ψ j (v j) w') → wpOp P l.toArray Q i (fun a' w'' => ∃ x, a' = T (upd v i x) ∧ Rel w' w'' ∧ Ψ i x w'' ∧ ∀ j y, j ≠ i → Ψ j y w' → R i j x y ∧ R j i y x) (T v) w')
    (done : ∀ v w', Rel w w' → (∀ i, i < n → Ψ i (v i) w') → (∀ i j, i < n → j < n → i ≠ j → R i j (v i) (v j)) → wpList P l.toArray Q (l.drop n) (T v) w') :
    (Code.region id l.toArray true).wp P Q (T v0) w := by
  refine wp_region_any hm ?_
  have hn : n < l.toArray.size := by
    simp only [factsB, Bool.and_eq_true, decide_eq_true_eq] at hB
    exact hB.1.1.1.1
  have hw : ∀ w', Rel { w with drawn := w.drawn + 1 } w' → Rel w w' := fun w' h => trans hdrew h
  have h := wpAny_facts hB T Ψ R Rel trans { w with drawn := w.drawn + 1 } stab (fun i hi v w' hb hd => step i hi v w' (hw w' hb) hd) (fun v w' hb hf hr => done v w' (hw w' hb) hf hr)
    n (Array.replicate l.toArray.size false) v0 { w with drawn := w.drawn + 1 }
    ⟨by simp, fun j oj hj hl => (by rw [getD_replicate_false] at hl; cases hl), fun t ht ht' => (by rw [Array.getD_eq_getD_getElem?, Array.getElem?_replicate, if_pos ht']; rfl)⟩ (cntTo_none _ n (by omega)) (hself _) (fun i hi hl => by
      rw [Array.getD_eq_getD_getElem?, Array.getElem?_replicate, if_pos (by omega)] at hl
      cases hl) (fun i j hi hj _ hl _ => by
      rw [Array.getD_eq_getD_getElem?, Array.getElem?_replicate, if_pos (by omega)] at hl
      cases hl)
  rw [show n + (l.toArray.size - n) = l.toArray.size from by omega] at h
  exact h
/-- **A region that draws its order, whose operations make memory.** -/
theorem wp_region_facts {id : Nat} {l : List Oper} {w : World} (n : Nat) (hm : P.follows .mixedOrders = true) (hB : factsB .any l.toArray n = true) (T : (Nat → Value) → Act) (v0 : Nat → Value) (Ψ : Nat → Value → World → Prop) (Rel : World → World → Prop) (trans : ∀ {w1 w2 w3}, Rel w1 w2 → Rel w2 w3 → Rel w1 w3) (hself : ∀ w, Rel w w) (hdrew : Rel w w.drew)
    (stab : ∀ i x w w', Ψ i x w → Rel w w' → Ψ i x w')
    (step : ∀ i, i < n → ∀ v w', Rel w w' → (∀ j ∈ deps .any l.toArray i, Ψ j (v j) w') → wpOp P l.toArray Q i (fun a' w'' => ∃ x, a' = T (upd v i x) ∧ Rel w' w'' ∧ Ψ i x w'') (T v) w')
    (done : ∀ v w', Rel w w' → (∀ i, i < n → Ψ i (v i) w') → wpList P l.toArray Q (l.drop n) (T v) w') :
    (Code.region id l.toArray true).wp P Q (T v0) w :=
  wp_region_facts2 n hm hB T v0 Ψ (fun _ _ _ _ => True) Rel trans hself hdrew stab
    (fun i hi v w' hb hd => wpOp_mono (fun _ _ ⟨x, h1, h2, h3⟩ => ⟨x, h1, h2, h3, fun _ _ _ _ => ⟨trivial, trivial⟩⟩) (step i hi v w' hb hd))
    (fun v w' hb hf _ => done v w' hb hf)
/-- One operation, walked as a list of one. -/
theorem wpOp_one {i : Nat} {o : Oper} {K : Act → World → Prop} {a : Act} {w : World} (ho : ops[i]? = some o) (h : wpList P ops (Exit.then K Q) [o] a w) : wpOp P ops Q i K a w := by
  unfold wpOp
  rw [ho]
  unfold wpList at h
  simp only
  split
  · rename_i hw
    rw [if_pos hw] at h
    rcases h with h | ⟨h1, h2⟩
    · left
      unfold Oper.wp at *
      generalize (execOp a.eval o).run P w = r at *
      cases r with
      | ok nx w' => cases nx <;> simp only [Oper.upon] at h ⊢ <;> first | exact h | (refine h.mono ?_; intro e w'' hq; cases e <;> exact hq)
      | halt x w' => cases x <;> simp only [Oper.upon] at h ⊢ <;> exact h
    · exact .inr ⟨h1, h2⟩
  · rename_i hw
    rw [if_neg hw] at h
    exact h
end

end Go.Proofs.YtkhggofcbdcliaaDoor
