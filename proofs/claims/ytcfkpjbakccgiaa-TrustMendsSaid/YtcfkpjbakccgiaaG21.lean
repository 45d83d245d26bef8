/-
  What trust's Blurred answers.
  What a round of a loop over trust's pieces keeps: all cells but those of one box and of the row that it holds. Nothing of the program is imported.
  The function that trust's pieces answers: whatever the loop's body does to one box and the row in it, the pieces come, one behind the other.
  What trust's pieces answers: a function over the pieces of a span.
-/
import Derived.Test.YtcfkpjbakccgiaaG20
import Derived.Test.YtcfkpjbakccgiaaG05
import Derived.Test.YtcfkpjbakccgiaaG03
import Derived.Test.YtcfkpjbakccgiaaG14
import Derived.RangeFuncFrom
import Derived.RangeFuncNested
import Derived.RangeFuncBound
import Derived.RangeFuncCalls
import Derived.RangeFuncLeaves
import Derived.RangeFuncWrites
import Derived.Shelf.Abstract
import Derived.Shelf.RegionOpen
import Derived.OwnWalkIn
import Derived.TacticsInMore
import Derived.LoopNIn
import Derived.LoopIn
import Derived.WalkMore
import Derived.Test.YtcfkpjbakccgiaaG10
namespace Go.Proofs.Ytcfkpjbakccgiaa
open Go.RowKit

namespace Tr
theorem rise_len {hi : Int} : ∀ (zs : List Zn) (k : Int), Rise hi k zs → k ≤ hi + 1 → k + zs.length ≤ hi + 1
  | [], k, _, h => by simpa using h
  | z :: r, k, ⟨h1, h2, h3, h4⟩, _ => by
    have := rise_len r (z.2.1 + 1) h4 (by omega)
    rw [List.length_cons]
    omega
theorem fmd_len {zs : List Zn} (h : fmd zs = true) : zs.length ≤ 256 := by
  have := rise_len zs 0 (rise_fmd h) (by omega)
  omega
def blL (zs : List Zn) : List (Int × Int) := zs.map fun z => (z.1, z.2.1)
theorem blL_in (zs : List Zn) (o : Nat) : Sp.inL (blL zs) o = (at_ zs (o : Int)).isSome := by
  induction zs with
  | nil => rfl
  | cons z r ih =>
    rw [at_cons]
    show (holds z (o : Int) || Sp.inL (blL r) o) = _
    rw [ih]
    cases holds z (o : Int) <;> simp
theorem blr_is {zs : List Zn} (h : fmd zs = true) : blr zs = Sp.ofL (Sp.inL (blL zs)) := by
  unfold blr
  rw [if_pos h]
  exact Sp.ofL_ext (fun o _ => (blL_in zs o).symm)
end Tr

set_option maxRecDepth 100000 in
set_option maxHeartbeats 3200000 in
theorem tblurred_any (A : Option Addr) (c : Nat) (L : List Zc) (w : World) (h : OneZ w A c L) :
    Calls Try.prog 14 #[.slice A L.length c] w (Ans (Tr.blr (L.map Zc.zn)) w) := by
  have N := tformed_any A c L w h
  have HD := Lib.hid h
  clear h
  cases hq : Tr.fmd (L.map Zc.zn) with
  | false =>
    have hR : Tr.blr (L.map Zc.zn) = [] := by unfold Tr.blr; rw [if_neg (fun h => by rw [hq] at h; exact absurd h Bool.false_ne_true)]
    rw [hR]
    rw [hq] at N
    have NN := Lib.hid N
    clear N hq hR HD
    go_enter Try.func14, Try.ntmps14
    go_wp2_with fail
    refine NN.out.mono ?_
    rintro e w1 ⟨rfl, b1⟩
    clear NN
    go_wp2
    go_ret
    exact ⟨none, 0, rfl, OneL.nil, b1⟩
  | true =>
    rw [hq] at N
    have hlen := Tr.fmd_len hq
    rw [List.length_map] at hlen
    rw [Tr.blr_is hq]
    obtain ⟨zs, hzs⟩ : ∃ zs, Tr.blL (L.map Zc.zn) = zs := ⟨_, rfl⟩
    have hzl : zs.length = L.length := by rw [← hzs]; unfold Tr.blL; rw [List.length_map, List.length_map]
    have hzg : ∀ k (x : Zc), L[k]? = some x → zs.take (k + 1) = zs.take k ++ [(x.lo, x.hi)] := fun k x hx => by
      have hk := (List.getElem?_eq_some_iff.1 hx).1
      rw [List.take_succ_eq_append_getElem (by rw [hzl]; exact hk)]
      congr 1
      have : zs[k]? = some (x.lo, x.hi) := by rw [← hzs]; unfold Tr.blL; rw [List.getElem?_map, List.getElem?_map, hx]; rfl
      have := (List.getElem?_eq_some_iff.1 this).2
      rw [this]
    rw [hzs]
    have HZL := Lib.hid hzl
    have HZG := Lib.hid hzg
    have NN := Lib.hid N
    obtain ⟨i0, hI, hz0, hz1, hz2⟩ := info_parts infoSt
    obtain ⟨i1, hI1, hy0, hy1, hy2⟩ := info_parts (show (Try.prog.info? 55).map (fun i => (i.zero, i.size, i.bytes)) = some (some (.agg #[.int .i64 0, .int .i64 0]), 2, 16) from by kernel_rfl)
    clear N hq hzs hzl hzg hI hz0 hz1 hz2
    go_enter Try.func14, Try.ntmps14
    go_wp2_with fail
    refine NN.out.mono ?_
    rintro e w1 ⟨rfl, b1⟩
    clear NN
    go_wp2_with fail
    go_loopw [3, 11] (fun s3 s11 wr => ∃ (k : Nat), k ≤ L.length ∧ s11 = .int .i64 (k : Int) ∧ wr.ownsRow w.heap.size 55 2 s3 k (stCells (zs.take k)) ∧ Below w.heap.size w wr) (fun _ s11 _ => L.length - (intOf s11).toNat)
    case atStart => exact ⟨0, Nat.zero_le _, rfl, ⟨rfl, .inl ⟨rfl, rfl⟩⟩, b1⟩
    case round =>
      obtain ⟨k, hk, rfl, ho, hbw⟩ := hrel
      obtain ⟨VA, vc, hvv, -, hvm, hvn, -⟩ := own_form ho
      subst hvv
      unfold maxLen at hvm
      have HO := Lib.hid ho
      clear ho b1
      by_cases hlt : k < L.length
      · have hne : L ≠ [] := fun e => by subst e; simp at hlt
        obtain ⟨b, off, hA, hc⟩ := (HD.out.later hbw).at hne
        subst hA
        obtain ⟨x, hx⟩ : ∃ x, L[k]? = some x := ⟨L[k], List.getElem?_eq_getElem hlt⟩
        obtain ⟨e0, e1, e2⟩ := hc k x hx
        have HT := Lib.hid (HZG.out k x hx)
        have hi0 : (0 : Int) ≤ (k : Int) := by omega
        have hi1 : (k : Int) < (L.length : Int) := by omega
        obtain ⟨lo, hi, X, cx, l⟩ := x
        dsimp only at e0 e1 e2 HT
        have b2 := below_new (Below.refl wr.heap.size wr) (.cells #[.int .i64 lo, .int .i64 hi, .slice X l.length cx] 57)
        have XB := Blk.new wr 57 #[.int .i64 lo, .int .i64 hi, .slice X l.length cx]
        obtain ⟨W2, hW2⟩ : ∃ W2, wr.alloc (.cells #[.int .i64 lo, .int .i64 hi, .slice X l.length cx] 57) = W2 := ⟨_, rfl⟩
        rw [hW2] at b2 XB
        have k0 : W2.cell? ⟨wr.heap.size, 0, none⟩ = some (.int .i64 lo) := XB.cell (i := 0) rfl
        have k1 : W2.cell? ⟨wr.heap.size, 1, none⟩ = some (.int .i64 hi) := XB.cell (i := 1) rfl
        have k2 : W2.cell? ⟨wr.heap.size, 2, none⟩ = some (.slice X l.length cx) := XB.cell (i := 2) rfl
        have b3 := below_new (Below.refl W2.heap.size W2) (.cells #[.int .i64 lo, .int .i64 hi] 55)
        have YB := Blk.new W2 55 #[.int .i64 lo, .int .i64 hi]
        have hown := Lib.hid (own_later (own_later HO.out b2) b3)
        have HB3 := Lib.hid (below_on (below_on hbw b2) b3)
        have hy : Lies (W2.alloc (.cells #[.int .i64 lo, .int .i64 hi] 55)) (some ⟨W2.heap.size, 0, none⟩) (stCells [(lo, hi)]) := (one_stamp YB).2.2.2
        have hs3 := HB3.out.size
        have HY := Lib.hid hy
        have HW2 := Lib.hid hW2
        clear hc hne hx XB YB b2 b3 hW2 hy HO hbw
        go_upto_region 7 with (fail)
        rw [HW2.out]
        clear HW2 e0 e1 e2
        go_wp2_with (at_builtin; refine Go.Proofs.Ytcfkpjbakccgiaa.wpList_append_lies _ rfl _ _ 28 rfl w.heap.size 55 i1 (.agg #[.int .i64 0, .int .i64 0]) 2 16 Try.underlying28 hI1 hy0 hy1 hy2 rfl (by decide) (.slice VA k vc) k (stCells (zs.take k)) rfl hown.out (some ⟨W2.heap.size, 0, none⟩) 1 1 (fun h => by cases h) (stCells [(lo, hi)]) rfl rfl HY.out (stCells_one _) ?d3 ?d4 ?d5 ?_)
        case d3 => unfold maxLen; omega
        case d4 => omega
        case d5 => exact hs3
        intro v7 w7 ho7 hg7 _
        rw [← stCells_append, ← HT.out] at ho7
        have HO7 := Lib.hid ho7
        have HB7 := Lib.hid (HB3.out.grown hg7 hs3 (fun q hq => own_ge hown.out q hq))
        clear ho7 hg7 hs3
        go_wp2_with fail
        go_roundw
        case rel => exact ⟨k + 1, by omega, by first | rfl | go_num, HO7.out, HB7.out⟩
        case measure => simp [intOf]; omega
      · have hkl : k = L.length := by omega
        have hd : decide ((k : Int) < (L.length : Int)) = false := decide_eq_false (by omega)
        have htk : zs.take k = zs := List.take_of_length_le (by rw [HZL.out]; omega)
        have hol := HO.out
        rw [htk, hkl, ← HZL.out] at hol
        obtain ⟨A2, c2, e2, h2⟩ := OneL.of_own hol
        injection e2 with e3 _ e4
        subst e3 e4
        have hkz : k = zs.length := by rw [HZL.out]; omega
        have JN := join_one h2
        have NJ := Lib.hid (JN 28)
        have HBW := Lib.hid hbw
        subst hkz
        clear hkl htk hol h2 JN HO hbw
        go_wp2_with fail
        refine NJ.out.mono ?_
        rintro e w6 ⟨v, rfl, ho, b6⟩
        obtain ⟨A5, c5, rfl, h5⟩ := OneL.of_own ho
        have H5 := Lib.hid h5
        have B6 := Lib.hid (below_on HBW.out b6)
        clear ho b6 NJ h5
        go_wp2
        go_ret
        exact ⟨A5, c5, rfl, H5.out, B6.out⟩
end Go.Proofs.Ytcfkpjbakccgiaa
namespace Go.Proofs.Ytcfkpjbakccgiaa
open Go.RowKit

/-- The block of the row that a box holds. -/
def rowIn (W : World) (g : Nat) : Option Nat := (W.cell? ⟨g, 0, none⟩).bind Value.ownBlock
/-- All cells stay, but the box's own and those of the row in it; a new row lies beyond what was there. -/
structure KeepB (g : Nat) (W W' : World) : Prop where
  size : W.heap.size ≤ W'.heap.size
  same : ∀ k o, W.heap[k]? = some o → o.isCells = true → k ≠ g → rowIn W g ≠ some k → W'.heap[k]? = some o
  row : rowIn W' g = rowIn W g ∨ ∀ r, rowIn W' g = some r → W.heap.size ≤ r ∧ r < W'.heap.size
/-- A box whose row lies in memory. -/
structure RowOk (g : Nat) (W : World) : Prop where
  lt : g < W.heap.size
  row : ∀ r, rowIn W g = some r → r < W.heap.size
/-- A block that no round turns. -/
structure Safe (g : Nat) (W : World) (k : Nat) : Prop where
  cells : ∃ o, W.heap[k]? = some o ∧ o.isCells = true
  box : k ≠ g
  row : rowIn W g ≠ some k
section
variable {g k : Nat} {W W' X Y Z : World}
theorem KeepB.refl (g : Nat) (W : World) : KeepB g W W := ⟨Nat.le_refl _, fun _ _ h _ _ _ => h, .inl rfl⟩
theorem Safe.lt (h : Safe g W k) : k < W.heap.size := by
  obtain ⟨o, ho, _⟩ := h.cells
  exact (Array.getElem?_eq_some_iff.1 ho).1
theorem KeepB.trans (h : KeepB g X Y) (h' : KeepB g Y Z) : KeepB g X Z := by
  refine ⟨Nat.le_trans h.size h'.size, fun k o h1 h2 h3 h4 => ?_, ?_⟩
  · have h5 := h.same k o h1 h2 h3 h4
    refine h'.same k o h5 h2 h3 (fun e => ?_)
    rcases h.row with hr | hr
    · exact h4 (hr ▸ e)
    · have := (hr k e).1
      have := (Array.getElem?_eq_some_iff.1 h1).1
      omega
  · rcases h'.row with hr | hr
    · rcases h.row with hq | hq
      · exact .inl (hr.trans hq)
      · exact .inr (fun r e => by
          have := hq r (hr ▸ e)
          have := h'.size
          omega)
    · exact .inr (fun r e => by
        have := hr r e
        have := h.size
        omega)
theorem RowOk.keep (h : RowOk g W) (hk : KeepB g W W') : RowOk g W' := ⟨by have := h.lt; have := hk.size; omega, fun r e => by
  rcases hk.row with hr | hr
  · have := h.row r (hr ▸ e)
    have := hk.size
    omega
  · exact (hr r e).2⟩
theorem Safe.keep (h : Safe g W k) (hk : KeepB g W W') : W'.heap[k]? = W.heap[k]? ∧ Safe g W' k := by
  obtain ⟨o, ho, hc⟩ := h.cells
  have h1 := hk.same k o ho hc h.box h.row
  refine ⟨h1.trans ho.symm, ⟨o, h1, hc⟩, h.box, fun e => ?_⟩
  rcases hk.row with hr | hr
  · exact h.row (hr ▸ e)
  · have := (hr k e).1
    have := h.lt
    omega
theorem Safe.cell (h : Safe g W k) (hk : KeepB g W W') {i : Nat} {v : Value} (hc : W.cell? ⟨k, i, none⟩ = some v) : W'.cell? ⟨k, i, none⟩ = some v := (World.cell?_of_block (a := ⟨k, i, none⟩) (h.keep hk).1).trans hc
theorem rowIn_below {n : Nat} (h : g < n) (hb : Below n W W') : rowIn W' g = rowIn W g := by
  unfold rowIn
  rw [hb.cell (p := ⟨g, 0, none⟩) h]
/-- What leaves all that is there keeps. -/
theorem KeepB.below (h : RowOk g W) (hb : Below W.heap.size W W') : KeepB g W W' := ⟨hb.size, fun k _ h1 _ _ _ => (hb.block k (Array.getElem?_eq_some_iff.1 h1).1).trans h1, .inl (rowIn_below h.lt hb)⟩
theorem KeepB.put (l : Nat) (o o' : Obj) (ho : W.heap[l]? = some o) (hc : o.isCells = false) (hl : l ≠ g) : KeepB g W (W.putObj l o') := by
  refine ⟨by simp, fun k u h1 h2 _ _ => ?_, .inl ?_⟩
  · by_cases e : l = k
    · subst e
      rw [ho] at h1
      cases h1
      rw [hc] at h2
      cases h2
    · exact (World.putObj_heap_other (fun h => e h.symm)).trans h1
  · unfold rowIn
    rw [World.cell?_of_block (a := ⟨g, 0, none⟩) (World.putObj_heap_other (fun e => hl e.symm))]
/-- A new block is safe. -/
theorem Safe.new (h : RowOk g W) (cs : Array Value) (t : TypeId) : Safe g (W.alloc (.cells cs t)) W.heap.size := by
  refine ⟨⟨_, World.alloc_heap_new W _, rfl⟩, by have := h.lt; omega, fun e => ?_⟩
  rw [rowIn_below h.lt (below_new (Below.refl _ _) _)] at e
  have := h.row _ e
  omega
theorem RowOk.below (h : RowOk g W) (hb : Below W.heap.size W W') : RowOk g W' := h.keep (KeepB.below h hb)
theorem Safe.below (h : Safe g W k) (hr : RowOk g W) (hb : Below W.heap.size W W') : Safe g W' k := (h.keep (KeepB.below hr hb)).2
/-- A block older than the box, with no row of the box's in it. -/
theorem Safe.old {n : Nat} (hn : n ≤ g) (hr : ∀ r, rowIn W g = some r → n ≤ r) {k : Nat} (hk : k < n) (hc : ∃ o, W.heap[k]? = some o ∧ o.isCells = true) : Safe g W k := ⟨hc, by omega, fun e => by have := hr k e; omega⟩
end

end Go.Proofs.Ytcfkpjbakccgiaa
namespace Go.Proofs.Ytcfkpjbakccgiaa
open Go.RowKit Go.Shelf Fb
attribute [local go_sem] Oper.semAt_some

/-- No zone: of the first object, with nothing. -/
def Zc.none : Zc := ⟨0, 0, Option.none, 0, []⟩
/-- The pieces, where they lie: zones, and between them the rest. -/
def pcc (R : Zc) (hi : Int) : Int → List Zc → List Zc
  | k, [] => if k ≤ hi then [⟨k, hi, R.X, R.c, R.l⟩] else []
  | k, z :: r => (if k < z.lo then [⟨k, z.lo - 1, R.X, R.c, R.l⟩] else []) ++ z :: pcc R hi (z.hi + 1) r
theorem pcc_zn (R : Zc) (hi : Int) : ∀ (L : List Zc) (k : Int), (pcc R hi k L).map Zc.zn = Tr.pcs R.l hi k (L.map Zc.zn)
  | [], k => by
    show (if k ≤ hi then [(⟨k, hi, R.X, R.c, R.l⟩ : Zc)] else []).map Zc.zn = if k ≤ hi then [(k, hi, R.l)] else []
    by_cases h : k ≤ hi
    · rw [if_pos h, if_pos h]; rfl
    · rw [if_neg h, if_neg h]; rfl
  | z :: r, k => by
    have ih := pcc_zn R hi r (z.hi + 1)
    show ((if k < z.lo then _ else []) ++ z :: pcc R hi (z.hi + 1) r).map Zc.zn = (if k < z.lo then [(k, z.lo - 1, R.l)] else []) ++ z.zn :: Tr.pcs R.l hi (z.hi + 1) (r.map Zc.zn)
    rw [List.map_append, List.map_cons, ih]
    by_cases h : k < z.lo
    · rw [if_pos h, if_pos h]; rfl
    · rw [if_neg h, if_neg h]; rfl
/-- Where the pieces lie: with the zones', or with the rest's. -/
theorem pcc_mem (R : Zc) (hi : Int) : ∀ (L : List Zc) (k : Int) (z : Zc), z ∈ pcc R hi k L → z ∈ L ∨ (z.X = R.X ∧ z.c = R.c ∧ z.l = R.l)
  | [], k, z, h => by
    unfold pcc at h
    split at h
    · rw [List.mem_singleton] at h
      subst h
      exact .inr ⟨rfl, rfl, rfl⟩
    · cases h
  | y :: r, k, z, h => by
    have h : z ∈ (if k < y.lo then [(⟨k, y.lo - 1, R.X, R.c, R.l⟩ : Zc)] else []) ++ y :: pcc R hi (y.hi + 1) r := h
    rcases List.mem_append.1 h with h | h
    · split at h
      · rw [List.mem_singleton] at h
        subst h
        exact .inr ⟨rfl, rfl, rfl⟩
      · cases h
    · rcases List.mem_cons.1 h with rfl | h
      · exact .inl List.mem_cons_self
      · rcases pcc_mem R hi r _ z h with h | h
        · exact .inl (List.mem_cons_of_mem _ h)
        · exact .inr h
/-- What a round is told: a span, a vector. -/
def toldP (x : Zc) : Array Value := #[.agg #[.int .i64 x.lo, .int .i64 x.hi], .slice x.X x.l.length x.c]
def tellP (P : List Zc) (k : Nat) : Array Value := toldP (P.getD k Zc.none)
theorem drop_one {P : List Zc} {m : Nat} {a : Zc} {r : List Zc} (h : P.drop m = a :: r) : m < P.length ∧ P.getD m Zc.none = a ∧ P.drop (m + 1) = r := by
  have hlt : m < P.length := by
    rcases Nat.lt_or_ge m P.length with h1 | h1
    · exact h1
    · rw [List.drop_eq_nil_of_le h1] at h; cases h
  rw [List.drop_eq_getElem_cons hlt] at h
  injection h with h1 h2
  exact ⟨hlt, by rw [List.getD_eq_getElem?_getD, List.getElem?_eq_getElem hlt]; exact h1, h2⟩

set_option maxRecDepth 100000 in
set_option maxHeartbeats 6400000 in
theorem eachP_in (g : Nat) (L P : List Zc) (R : Zc) (lo hi : Int) (hP : pcc R hi lo L = P) (hL : ∀ z ∈ L, 0 ≤ z.lo ∧ z.lo ≤ 255 ∧ 0 ≤ z.hi ∧ z.hi ≤ 255) (hlo : 0 ≤ lo ∧ lo ≤ 255) (n : Nat) (hn : 1 ≤ n)
    (l bw bz br c s : Nat) (A : Option Addr) (J Jx : List Nat → World → Prop) (hJa : AbidesFrom s J)
    (hY : ∀ pre x W, J pre W → pre.length < P.length → YieldAt Fence.wide (n - 1) Try.prog l (tellP P x) W fun e W' => (e = .returned (.bool true) ∧ J (pre ++ [x]) W' ∧ KeepB g W W') ∨ (e = .returned (.bool false) ∧ Jx (pre ++ [x]) W'))
    (W : World) (hlen : L.length ≤ 9223372036854775807) (hok : RowOk g W) (sw : Safe g W bw) (sr : Safe g W br)
    (w0 : W.cell? ⟨bw, 0, none⟩ = some (.int .i64 lo)) (w1 : W.cell? ⟨bw, 1, none⟩ = some (.int .i64 hi)) (z0 : W.cell? ⟨bz, 0, none⟩ = some (.slice A L.length c)) (r0 : W.cell? ⟨br, 0, none⟩ = some (.slice R.X R.l.length R.c))
    (hZ : L ≠ [] → ∃ b off, A = some ⟨b, off, none⟩ ∧ Safe g W b ∧ ∀ k x, L[k]? = some x → W.cell? ⟨b, off + k * 3, none⟩ = some (.int .i64 x.lo) ∧ W.cell? ⟨b, off + k * 3 + 1, none⟩ = some (.int .i64 x.hi) ∧ W.cell? ⟨b, off + k * 3 + 2, none⟩ = some (.slice x.X x.l.length x.c))
    (h0 : J [] W) :
    CallsIn Fence.wide n Try.prog 71 #[.func (.yield l) #[] #[], .pointer (some ⟨bw, 0, none⟩), .pointer (some ⟨bz, 0, none⟩), .pointer (some ⟨br, 0, none⟩)] W fun e W' => (∃ v, e = .returned v) ∧
      ((∃ ys, ys = List.range P.length ∧ J ys W') ∨ (∃ pre, pre <+: List.range P.length ∧ Jx pre W')) := by
  have HL := Lib.hid hL
  have HJA := Lib.hid hJa
  have HZ := Lib.hid hZ
  have HP := Lib.hid hP
  have SW := Lib.hid sw
  have SR := Lib.hid sr
  have OK := Lib.hid hok
  have HPR : ∀ m, m < P.length → List.range m ++ [m] <+: List.range P.length := fun m hm => by
    rw [← List.range_succ]
    exact ⟨(List.range P.length).drop (m + 1), by
      have := List.take_append_drop (m + 1) (List.range P.length)
      rw [List.take_range, Nat.min_eq_left (by omega)] at this
      exact this⟩
  have HPR := Lib.hid HPR
  clear hL hJa hZ hP sw sr hok
  refine callsIn_of_wp Try.func71 rfl trivial ?_ rfl
  simp only [Try.ntmps71, List.size_toArray, List.length_cons, List.length_nil, Nat.reduceAdd, Nat.reduceSub, Array.replicate_succ, Array.replicate_zero, List.push_toArray, List.append_toArray, List.nil_append, List.cons_append]
  gi_wp2_with fail
  gi_loopw [5, 12] (fun s5 s12 wr => ∃ (k m : Nat) (nx : Int), k ≤ L.length ∧ s12 = .int .i64 (k : Int) ∧ s5 = .int .i64 nx ∧ 0 ≤ nx ∧ nx ≤ 256 ∧ P.drop m = pcc R hi nx (L.drop k) ∧ m ≤ P.length ∧ J (List.range m) wr ∧ KeepB g W wr) (fun _ s12 _ => L.length - (intOf s12).toNat)
  case atStart => exact ⟨0, 0, lo, Nat.zero_le _, rfl, rfl, hlo.1, by omega, HP.out.symm, Nat.zero_le _, h0, KeepB.refl _ _⟩
  case round =>
    obtain ⟨k, m, nx, hk, rfl, rfl, hn0, hn1, hdr, hmP, hJs, hkp⟩ := hrel
    have HDR := Lib.hid hdr
    have r0' := SR.out.cell hkp r0
    have w1' := SW.out.cell hkp w1
    clear hdr
    by_cases hlt : k < L.length
    · have hne : L ≠ [] := fun e => by subst e; simp at hlt
      obtain ⟨b, off, hA, sb, hcs⟩ := HZ.out hne
      subst hA
      obtain ⟨x, hx⟩ : ∃ x, L[k]? = some x := ⟨L[k], List.getElem?_eq_getElem hlt⟩
      obtain ⟨e0, e1, e2⟩ := hcs k x hx
      replace e0 := sb.cell hkp e0
      replace e1 := sb.cell hkp e1
      replace e2 := sb.cell hkp e2
      obtain ⟨hb1, hb2, hb3, hb4⟩ := HL.out x (List.mem_of_getElem? hx)
      have hdl : L.drop k = x :: L.drop (k + 1) := by
        rw [List.drop_eq_getElem_cons hlt]
        congr 1
        exact (List.getElem?_eq_some_iff.1 hx).2
      have hi0 : (0 : Int) ≤ (k : Int) := by omega
      have hi1 : (k : Int) < (L.length : Int) := by omega
      have HD2 := HDR.out
      rw [hdl] at HD2
      have HD2 : P.drop m = (if nx < x.lo then [⟨nx, x.lo - 1, R.X, R.c, R.l⟩] else []) ++ x :: pcc R hi (x.hi + 1) (L.drop (k + 1)) := HD2
      obtain ⟨zlo, zhi, X, cx, zl⟩ := x
      dsimp only at e0 e1 e2 hb1 hb2 hb3 hb4 HD2
      have hok1 := OK.out.keep hkp
      have b1 := below_new (Below.refl wr.heap.size wr) (.cells #[.int .i64 zlo, .int .i64 zhi, .slice X zl.length cx] 57)
      have s1 := Safe.new hok1 #[.int .i64 zlo, .int .i64 zhi, .slice X zl.length cx] 57
      have hJ1 : J (List.range m) (wr.alloc (.cells #[.int .i64 zlo, .int .i64 zhi, .slice X zl.length cx] 57)) := HJA.out _ _ _ none hJs (World.grownBy_alloc _ _ none) (fun r e => by cases e)
      have B2 := Blk.new wr 57 #[.int .i64 zlo, .int .i64 zhi, .slice X zl.length cx]
      have kp1 := hkp.trans (KeepB.below hok1 b1)
      have g0 := B2.cell (i := 0) rfl
      have g1 := B2.cell (i := 1) rfl
      have g2 := B2.cell (i := 2) rfl
      have q0 := SR.out.cell kp1 r0
      have S1 := Lib.hid s1
      have KP1 := Lib.hid kp1
      clear b1 hcs hJs hkp hok1 B2 s1 sb hx hdl HDR kp1
      by_cases hgap : nx < zlo
      · rw [if_pos hgap] at HD2
        obtain ⟨hm1, hm2, hm3⟩ := drop_one HD2
        obtain ⟨hm4, hm5, hm6⟩ := drop_one hm3
        obtain ⟨fn, tmps, assign, body, hy, hR⟩ := hY _ m _ hJ1 (by rw [List.length_range]; exact hm1)
        rw [show tellP P m = #[.agg #[.int .i64 nx, .int .i64 (zlo - 1)], .slice R.X R.l.length R.c] from by unfold tellP; rw [hm2]; rfl] at hy
        have hd : decide (nx < zlo) = true := decide_eq_true hgap
        have hw1 : IntKind.i64.wrap (zlo - 1) = zlo - 1 := IntWalk.i64_in _ (by omega)
        have HM := Lib.hid hm5
        have HM6 := Lib.hid hm6
        have HPM := Lib.hid (HPR.out m hm1)
        clear hm2 hm3 hm5 hm6 HD2 hgap
        gi_wp2_with fail
        refine hR.mono ?_
        rintro e W3 (⟨rfl, hJ3, hk3⟩ | ⟨rfl, hJx3⟩)
        · clear hy hR fn tmps assign body
          rw [← List.range_succ] at hJ3
          have p0 := S1.out.cell hk3 g0
          have p1 := S1.out.cell hk3 g1
          have p2 := S1.out.cell hk3 g2
          have s3 := (S1.out.keep hk3).2
          have kp3 := KP1.out.trans hk3
          obtain ⟨fn, tmps, assign, body, hy, hR⟩ := hY _ (m + 1) W3 hJ3 (by rw [List.length_range]; exact hm4)
          rw [show tellP P (m + 1) = #[.agg #[.int .i64 zlo, .int .i64 zhi], .slice X zl.length cx] from by unfold tellP; rw [HM.out]; rfl] at hy
          have HPM2 := Lib.hid (HPR.out (m + 1) hm4)
          clear HPM hk3 hJ1 g0 g1 g2 q0 e0 e1 e2 r0' w1' S1
          gi_wp2_with fail
          refine hR.mono ?_
          rintro e W4 (⟨rfl, hJ4, hk4⟩ | ⟨rfl, hJx4⟩)
          · clear hy hR fn tmps assign body
            rw [← List.range_succ] at hJ4
            have t1 := s3.cell hk4 p1
            have kp4 := kp3.trans hk4
            have hw2 : IntKind.i64.wrap (zhi + 1) = zhi + 1 := IntWalk.i64_in _ (by omega)
            clear p0 p1 p2 s3 kp3 hk4
            gi_wp2_with fail
            go_roundw
            case rel => exact ⟨k + 1, m + 2, zhi + 1, by omega, by first | rfl | go_num, rfl, by omega, by omega, HM6.out, by omega, hJ4, kp4⟩
            case measure => simp [intOf]; omega
          · gi_wp2_with fail
            refine bodyPost_ret (results_none rfl _ _ _) rfl ?_
            exact ⟨⟨_, rfl⟩, .inr ⟨_, HPM2.out, hJx4⟩⟩
        · gi_wp2_with fail
          refine bodyPost_ret (results_none rfl _ _ _) rfl ?_
          exact ⟨⟨_, rfl⟩, .inr ⟨_, HPM.out, hJx3⟩⟩
      · rw [if_neg hgap] at HD2
        have HD2 : P.drop m = (⟨zlo, zhi, X, cx, zl⟩ : Zc) :: pcc R hi (zhi + 1) (L.drop (k + 1)) := HD2
        obtain ⟨hm4, hm5, hm6⟩ := drop_one HD2
        obtain ⟨fn, tmps, assign, body, hy, hR⟩ := hY _ m _ hJ1 (by rw [List.length_range]; exact hm4)
        rw [show tellP P m = #[.agg #[.int .i64 zlo, .int .i64 zhi], .slice X zl.length cx] from by unfold tellP; rw [hm5]; rfl] at hy
        have hd : decide (nx < zlo) = false := decide_eq_false hgap
        have HM6 := Lib.hid hm6
        have HPM := Lib.hid (HPR.out m hm4)
        clear hm5 hm6 HD2 hgap
        gi_wp2_with fail
        refine ⟨fun _ h => (by cases h), ?_⟩
        gi_wp2_with fail
        refine hR.mono ?_
        rintro e W3 (⟨rfl, hJ3, hk3⟩ | ⟨rfl, hJx3⟩)
        · clear hy hR fn tmps assign body
          rw [← List.range_succ] at hJ3
          have t1 := S1.out.cell hk3 g1
          have kp3 := KP1.out.trans hk3
          have hw2 : IntKind.i64.wrap (zhi + 1) = zhi + 1 := IntWalk.i64_in _ (by omega)
          clear hk3 hJ1 g0 g1 g2 q0 e0 e1 e2 r0' w1' S1
          gi_wp2_with fail
          go_roundw
          case rel => exact ⟨k + 1, m + 1, zhi + 1, by omega, by first | rfl | go_num, rfl, by omega, by omega, HM6.out, by omega, hJ3, kp3⟩
          case measure => simp [intOf]; omega
        · gi_wp2_with fail
          refine bodyPost_ret (results_none rfl _ _ _) rfl ?_
          exact ⟨⟨_, rfl⟩, .inr ⟨_, HPM.out, hJx3⟩⟩
    · have hkl : k = L.length := by omega
      have hdk : decide ((k : Int) < (L.length : Int)) = false := decide_eq_false (by omega)
      have HD2 : P.drop m = if nx ≤ hi then [⟨nx, hi, R.X, R.c, R.l⟩] else [] := by rw [HDR.out, hkl, List.drop_length]; rfl
      clear HDR hkl
      by_cases hgap : nx ≤ hi
      · rw [if_pos hgap] at HD2
        obtain ⟨hm4, hm5, hm6⟩ := drop_one HD2
        obtain ⟨fn, tmps, assign, body, hy, hR⟩ := hY _ m _ hJs (by rw [List.length_range]; exact hm4)
        rw [show tellP P m = #[.agg #[.int .i64 nx, .int .i64 hi], .slice R.X R.l.length R.c] from by unfold tellP; rw [hm5]; rfl] at hy
        have hd : decide (nx ≤ hi) = true := decide_eq_true hgap
        have HPM := Lib.hid (HPR.out m hm4)
        have hmN : m + 1 = P.length := by
          have := congrArg List.length HD2
          simp at this
          omega
        have HMN := Lib.hid hmN
        clear hm5 hm6 HD2 hgap hmN
        gi_wp2_with fail
        refine hR.mono ?_
        rintro e W3 (⟨rfl, hJ3, hk3⟩ | ⟨rfl, hJx3⟩)
        · have hJ3 : J (List.range P.length) W3 := by rw [← HMN.out, List.range_succ]; exact hJ3
          clear hy hR fn tmps assign body
          gi_wp2
          go_end0
          exact ⟨⟨_, rfl⟩, .inl ⟨_, rfl, hJ3⟩⟩
        · gi_wp2
          go_end0
          exact ⟨⟨_, rfl⟩, .inr ⟨_, HPM.out, hJx3⟩⟩
      · rw [if_neg hgap] at HD2
        have hd : decide (nx ≤ hi) = false := decide_eq_false hgap
        have hmN : m = P.length := by
          have := List.drop_eq_nil_iff.1 HD2
          omega
        subst hmN
        clear HD2 hgap
        gi_wp2
        go_end0
        exact ⟨⟨_, rfl⟩, .inl ⟨_, rfl, hJs⟩⟩
end Go.Proofs.Ytcfkpjbakccgiaa
namespace Go.Proofs.Ytcfkpjbakccgiaa
open Go.RowKit Go.Shelf Fb

/-- A function over pieces is answered. -/
def WalkerP (A : Option Addr) (c : Nat) (L : List Zc) (R : Zc) (lo hi : Int) (w : World) (e : Ending) (w1 : World) : Prop :=
  ∃ bw bz br, e = .returned (.func (.func 71) #[] #[.pointer (some ⟨bw, 0, none⟩), .pointer (some ⟨bz, 0, none⟩), .pointer (some ⟨br, 0, none⟩)]) ∧
    Blk w1 bw 55 #[.int .i64 lo, .int .i64 hi] ∧ Blk w1 bz 22 #[.slice A L.length c] ∧ Blk w1 br 23 #[.slice R.X R.l.length R.c] ∧ w.heap.size ≤ bw ∧ w.heap.size ≤ bz ∧ w.heap.size ≤ br ∧ Below w.heap.size w w1

theorem pieces_any (A : Option Addr) (c : Nat) (L : List Zc) (R : Zc) (lo hi : Int) (w : World) :
    Calls Try.prog 41 #[.slice A L.length c, .slice R.X R.l.length R.c, .agg #[.int .i64 lo, .int .i64 hi]] w (WalkerP A c L R lo hi w) := by
  have B0 := ((Blk.new w 22 #[.slice A L.length c]).alloc (.cells #[.slice R.X R.l.length R.c] 23)).alloc (.cells #[.int .i64 lo, .int .i64 hi] 55)
  have B1 := (Blk.new (w.alloc (.cells #[.slice A L.length c] 22)) 23 #[.slice R.X R.l.length R.c]).alloc (.cells #[.int .i64 lo, .int .i64 hi] 55)
  have B2 := Blk.new ((w.alloc (.cells #[.slice A L.length c] 22)).alloc (.cells #[.slice R.X R.l.length R.c] 23)) 55 #[.int .i64 lo, .int .i64 hi]
  simp only [World.size_alloc] at B1 B2
  have FIN := Lib.hid (⟨_, _, _, rfl, B2, B0, B1, by omega, Nat.le_refl _, by omega, below_new (below_new (below_new (Below.refl _ _) _) _) _⟩ : WalkerP A c L R lo hi w (.returned (.func (.func 71) #[] #[.pointer (some ⟨w.heap.size + 1 + 1, 0, none⟩), .pointer (some ⟨w.heap.size, 0, none⟩), .pointer (some ⟨w.heap.size + 1, 0, none⟩)])) _)
  clear B0 B1 B2
  go_enter Try.func41, Try.ntmps41
  go_wp2
  go_ret
  exact FIN.out

theorem enters_eachP : ∀ args w, (callFunc 71 args).run Try.prog w = .ok (.enter 71 args) w :=
  enters_of Try.func71 (by kernel_rfl) rfl

theorem Blk.isCells {w : World} {g : Nat} {t : TypeId} {cs : Array Value} (h : Blk w g t cs) : ∃ o, w.heap[g]? = some o ∧ o.isCells = true := ⟨_, h, rfl⟩
theorem Safe.newer {g : Nat} {w w1 : World} (h : RowOk g w) (hb : Below w.heap.size w w1) {k : Nat} (hk : w.heap.size ≤ k) (hc : ∃ o, w1.heap[k]? = some o ∧ o.isCells = true) : Safe g w1 k := by
  refine ⟨hc, by have := h.lt; omega, fun e => ?_⟩
  rw [rowIn_below h.lt hb] at e
  have := h.row _ e
  omega

/-- Where zones lie that no round turns. -/
def ZoneSafe (g : Nat) (W : World) (A : Option Addr) (L : List Zc) : Prop := L ≠ [] → ∃ b off, A = some ⟨b, off, none⟩ ∧ Safe g W b ∧ ∀ k x, L[k]? = some x → W.cell? ⟨b, off + k * 3, none⟩ = some (.int .i64 x.lo) ∧ W.cell? ⟨b, off + k * 3 + 1, none⟩ = some (.int .i64 x.hi) ∧ W.cell? ⟨b, off + k * 3 + 2, none⟩ = some (.slice x.X x.l.length x.c)
theorem ZoneSafe.below {g : Nat} {W W' : World} {A : Option Addr} {L : List Zc} (h : ZoneSafe g W A L) (hr : RowOk g W) (hb : Below W.heap.size W W') : ZoneSafe g W' A L := fun hne => by
  obtain ⟨b, off, hA, hs, hc⟩ := h hne
  exact ⟨b, off, hA, hs.below hr hb, fun k x hx => ⟨cell_later hb (hc k x hx).1, cell_later hb (hc k x hx).2.1, cell_later hb (hc k x hx).2.2⟩⟩
/-- Zones that are older than the box, while the box holds no row older than itself. -/
theorem ZoneSafe.old {g : Nat} {w W : World} {A : Option Addr} {c : Nat} {L : List Zc} (h : OneZ w A c L) (hb : Below w.heap.size w W) (hn : w.heap.size ≤ g) (hr : ∀ r, rowIn W g = some r → w.heap.size ≤ r) : ZoneSafe g W A L := fun hne => by
  obtain ⟨b, off, hA, hc⟩ := h.at hne
  obtain ⟨x, hx⟩ : ∃ x, L[0]? = some x := ⟨L[0]'(List.length_pos_iff.2 hne), List.getElem?_eq_getElem _⟩
  obtain ⟨o, ho, hoc⟩ := cells_of_cell (hc 0 x hx).1
  have hlt : b < w.heap.size := (Array.getElem?_eq_some_iff.1 ho).1
  exact ⟨b, off, hA, Safe.old hn hr hlt ⟨o, (hb.block b hlt).trans ho, hoc⟩, fun k x hx => ⟨cell_later hb (hc k x hx).1, cell_later hb (hc k x hx).2.1, cell_later hb (hc k x hx).2.2⟩⟩

/-- The loop over such a function. -/
theorem pieces_stops (g n : Nat) (L P : List Zc) (R : Zc) (lo hi : Int) (hP : pcc R hi lo L = P) (hL : ∀ z ∈ L, 0 ≤ z.lo ∧ z.lo ≤ 255 ∧ 0 ≤ z.hi ∧ z.hi ≤ 255) (hlo : 0 ≤ lo ∧ lo ≤ 255) (hn : 1 ≤ n) (hlen : L.length ≤ 9223372036854775807) (A : Option Addr) (c bw bz br : Nat) (w : World)
    (hok : RowOk g w) (sw : Safe g w bw) (sr : Safe g w br) (Bw : Blk w bw 55 #[.int .i64 lo, .int .i64 hi]) (Bz : Blk w bz 22 #[.slice A L.length c]) (Br : Blk w br 23 #[.slice R.X R.l.length R.c]) (hZ : ZoneSafe g w A L) :
    SeqStopsK Fence.wide n Try.prog 71 #[.pointer (some ⟨bw, 0, none⟩), .pointer (some ⟨bz, 0, none⟩), .pointer (some ⟨br, 0, none⟩)] (tellP P) (KeepB g) (· = List.range P.length) (· <+: List.range P.length) P.length w :=
  fun l J Jx W hW hJ _ hY h0 => eachP_in g L P R lo hi hP hL hlo n hn l bw bz br c W.heap.size A J Jx hJ hY W hlen (hok.below hW) (sw.below hok hW) (sr.below hok hW)
    ((Bw.later hW).cell (i := 0) rfl) ((Bw.later hW).cell (i := 1) rfl) ((Bz.later hW).cell (i := 0) rfl) ((Br.later hW).cell (i := 0) rfl) (hZ.below hok hW) h0
end Go.Proofs.Ytcfkpjbakccgiaa
