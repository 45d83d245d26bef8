/-
  What telltaleref04's Writes, Same, Fits and News answer.
  What telltaleref04's Formed answers of any note.
  What telltaleref04's At and Told answer.
  A note and a write as arguments, opened.
-/
import Derived.Test.YtbpgofgdlikedaaG08
import Derived.Test.YtbpgofgdlikedaaG02
import Derived.Test.YtbpgofgdlikedaaG04
import Derived.Lib.SmallJoins
namespace Go.Proofs.Ytbpgofgdlikedaa
open Go.RowKit

theorem wr_ext {l r : List Wr} (h : l.length = r.length) (hk : ∀ k, k < l.length → l.getD k Nt.zeroW = r.getD k Nt.zeroW) : l = r := by
  apply List.ext_getElem h
  intro i h1 h2
  have := hk i h1
  rw [List.getD_eq_getElem?_getD, List.getD_eq_getElem?_getD, List.getElem?_eq_getElem h1, List.getElem?_eq_getElem h2] at this
  simpa using this

set_option maxHeartbeats 3200000 in
theorem nwrites_any (A B : Option Addr) (c1 c2 : Nat) (l r : List Wr) (w : World) (h1 : OneW w A c1 l) (h2 : OneW w B c2 r) :
    Calls Try.prog 15 #[.slice A l.length c1, .slice B r.length c2] w (Says (.bool (decide (l = r))) w) := by
  have hl := h1.len
  have H1 := Lib.hid h1
  have H2 := Lib.hid h2
  clear h1 h2
  by_cases hlen : l.length = r.length
  · have hd0 : ((l.length : Int) != (r.length : Int)) = false := by rw [bne_eq_false_iff_eq]; omega
    have HLEN := Lib.hid hlen
    have hr1 : r.length ≤ l.length := by omega
    have hr2 : l.length ≤ r.length := by omega
    clear hlen
    go_enter Try.func15, Try.ntmps15
    go_wp2_with fail
    go_loopw [5] (fun s5 wr => ∃ k : Nat, k ≤ l.length ∧ s5 = .int .i64 (k : Int) ∧ (∀ j, j < k → l.getD j Nt.zeroW = r.getD j Nt.zeroW) ∧ Below w.heap.size w wr) (fun s5 _ => l.length - (intOf s5).toNat)
    case atStart => exact ⟨0, Nat.zero_le _, rfl, fun j hj => by omega, Below.refl _ _⟩
    case round =>
      obtain ⟨k, hk, rfl, heq, hbw⟩ := hrel
      have HEQ := Lib.hid heq
      clear heq
      by_cases hlt : k < l.length
      · have hne : l ≠ [] := fun e => by subst e; simp at hlt
        have hne2 : r ≠ [] := fun e => by have := HLEN.out; subst e; simp at this; exact hne this
        obtain ⟨b, off, hA, hcA⟩ := (H1.out.later hbw).at hne
        obtain ⟨b', off', hB, hcB⟩ := (H2.out.later hbw).at hne2
        obtain ⟨e0, e1, e2, e3⟩ := hcA k hlt
        obtain ⟨f0, f1, f2, f3⟩ := hcB k (by omega)
        have H1' := H1
        have H2' := H2
        subst hA hB
        clear hcA hcB
        have hi0 : (0 : Int) ≤ (k : Int) := by omega
        have hi1 : (k : Int) < (l.length : Int) := by omega
        have hi2 : (k : Int) < (r.length : Int) := by omega
        obtain ⟨x, hx⟩ : ∃ x, l.getD k Nt.zeroW = x := ⟨_, rfl⟩
        obtain ⟨y, hy⟩ : ∃ y, r.getD k Nt.zeroW = y := ⟨_, rfl⟩
        rw [hx] at e0 e1 e2 e3
        rw [hy] at f0 f1 f2 f3
        have HX := Lib.hid hx
        have HY := Lib.hid hy
        clear hx hy
        by_cases hxy : x = y
        · subst hxy
          go_wp2_with fail
          go_quiet (fail)
          go_wp2_with fail
          go_roundw
          case rel =>
            refine ⟨k + 1, by omega, by go_num, ?_, below_drewN hbw _⟩
            intro j hj
            by_cases e : j = k
            · subst e; rw [HX.out, HY.out]
            · exact HEQ.out j (by omega)
          case measure => simp [intOf]; omega
        · have hno : decide (l = r) = false := decide_eq_false (fun e => hxy (by rw [← HX.out, ← HY.out, e]))
          have HNO := Lib.hid hno
          clear hno
          obtain ⟨x1, x2, x3, x4⟩ := x
          obtain ⟨y1, y2, y3, y4⟩ := y
          have hall : (x1 == y1) = false ∨ (x1 = y1 ∧ (x2 == y2) = false) ∨ (x1 = y1 ∧ x2 = y2 ∧ (x3 == y3) = false) ∨ (x1 = y1 ∧ x2 = y2 ∧ x3 = y3 ∧ (x4 == y4) = false) := by
            by_cases q1 : x1 = y1
            · by_cases q2 : x2 = y2
              · by_cases q3 : x3 = y3
                · exact .inr (.inr (.inr ⟨q1, q2, q3, beq_eq_false_iff_ne.2 (fun e => hxy (by rw [q1, q2, q3, e]))⟩))
                · exact .inr (.inr (.inl ⟨q1, q2, beq_eq_false_iff_ne.2 q3⟩))
              · exact .inr (.inl ⟨q1, beq_eq_false_iff_ne.2 q2⟩)
            · exact .inl (beq_eq_false_iff_ne.2 q1)
          clear hxy
          rcases hall with h1 | ⟨rfl, h1⟩ | ⟨rfl, rfl, h1⟩ | ⟨rfl, rfl, rfl, h1⟩
          all_goals
            go_wp2_with fail
            go_quiet (fail)
            go_wp2
            go_ret
            exact ⟨by rw [HNO.out]; rfl, below_drewN hbw _⟩
      · have hyes : decide (l = r) = true := decide_eq_true (wr_ext HLEN.out (fun j hj => HEQ.out j (by omega)))
        have HY := Lib.hid hyes
        clear hyes
        go_wp2
        go_ret
        exact ⟨by rw [HY.out]; rfl, hbw⟩
  · have hd0 : ((l.length : Int) != (r.length : Int)) = true := by rw [bne_iff_ne]; omega
    have hno : decide (l = r) = false := decide_eq_false (fun e => hlen (by rw [e]))
    have HNO := Lib.hid hno
    clear hno
    go_enter Try.func15, Try.ntmps15
    go_wp2
    go_ret
    exact ⟨by rw [HNO.out]; rfl, Below.refl _ _⟩

/-- The same notes? -/
def sameN (a b : Note) : Bool := decide (a.s = b.s) && (decide (a.e = b.e) && (decide (a.b = b.b) && decide (a.ws = b.ws)))
theorem sameN_iff (a b : Note) : sameN a b = true ↔ a = b := by
  unfold sameN
  simp only [Bool.and_eq_true, decide_eq_true_eq]
  constructor
  · rintro ⟨h1, h2, h3, h4⟩
    cases a
    cases b
    simp_all
  · rintro rfl
    exact ⟨rfl, rfl, rfl, rfl⟩
theorem sameN_self (a : Note) : sameN a a = true := (sameN_iff a a).2 rfl

/-- A note in a block of its own, by its cells. -/
theorem note_cells {w : World} {g : Nat} {t : TypeId} {S E B V : Option Addr} {cs ce cb cv : Nat} {n : Note} (h : Blk w g t (noteCells S E B V cs ce cb cv n)) :
    w.cell? ⟨g, 0, none⟩ = some (.slice S n.s.length cs) ∧ w.cell? ⟨g, 1, none⟩ = some (.slice E n.e.length ce) ∧ w.cell? ⟨g, 2, none⟩ = some (.slice B n.b.length cb) ∧ w.cell? ⟨g, 3, none⟩ = some (.slice V n.ws.length cv) := ⟨h.cell rfl, h.cell rfl, h.cell rfl, h.cell rfl⟩

end Go.Proofs.Ytbpgofgdlikedaa
namespace Go.Proofs.Ytbpgofgdlikedaa
open Go.RowKit

namespace Nt
def obj (l : List Wr) (k : Nat) : Int := (l.getD k zeroW).2.2.1
/-- Are the first k writes as they must be? -/
def wsTo (n : Note) (k : Nat) : Prop := ∀ j, j < k → hasOf n.e (n.ws.getD j zeroW).1 (n.ws.getD j zeroW).2.1 = true ∧ (0 ≤ obj n.ws j ∧ obj n.ws j ≤ 255) ∧ inOf n.b (obj n.ws j) = false ∧ (0 < j → obj n.ws (j - 1) < obj n.ws j)
def wsOk (n : Note) : Bool := decide (∀ j : Fin n.ws.length, hasOf n.e (n.ws.getD j.val zeroW).1 (n.ws.getD j.val zeroW).2.1 = true ∧ (0 ≤ obj n.ws j.val ∧ obj n.ws j.val ≤ 255) ∧ inOf n.b (obj n.ws j.val) = false ∧ (0 < j.val → obj n.ws (j.val - 1) < obj n.ws j.val))
theorem wsOk_iff (n : Note) : wsOk n = true ↔ wsTo n n.ws.length := by
  unfold wsOk wsTo
  rw [decide_eq_true_iff]
  exact ⟨fun h j hj => h ⟨j, hj⟩, fun h j => h j.val j.isLt⟩
theorem wsOk_no {n : Note} (k : Nat) (hk : k < n.ws.length) (h : ¬ (hasOf n.e (n.ws.getD k zeroW).1 (n.ws.getD k zeroW).2.1 = true ∧ (0 ≤ obj n.ws k ∧ obj n.ws k ≤ 255) ∧ inOf n.b (obj n.ws k) = false ∧ (0 < k → obj n.ws (k - 1) < obj n.ws k))) : wsOk n = false := by
  cases hc : wsOk n with
  | false => rfl
  | true => exact absurd ((wsOk_iff n).1 hc k hk) h
/-- Is it a note as it must be? -/
def fmd (n : Note) : Bool := Ve.fmd n.s && (Ve.fmd n.e && (Ve.cov (Ve.cnt n.e) (Ve.cnt n.s) && (Sp.fmd n.b && wsOk n)))
end Nt

end Go.Proofs.Ytbpgofgdlikedaa
namespace Go.Proofs.Ytbpgofgdlikedaa
open Go.RowKit

section
variable {P : Program}
theorem results_cell_tmp {fn : Func} {p t1 : Tmp} {ty : TypeId} (h : fn.results = #[.cell p ty, .tmp t1]) (tmps : Array Value) (w : World) (g : Nat) (t : TypeId) (cs : Array Value) (d : TypeDesc)
    (hp : tmps.getD p undef = .pointer (some ⟨g, 0, none⟩)) (hg : Blk w g t cs) (hu : P.underlying ty = some d) (hd : (match d with | .struct _ | .array _ _ => true | _ => false) = true) (hi : (P.info? ty).map (·.size) = some cs.size) :
    (results fn tmps).run P w = .ok (.tuple #[.agg cs, tmps.getD t1 undef]) w := by
  have hp' : tmps[p]?.getD undef = .pointer (some ⟨g, 0, none⟩) := by simpa using hp
  simp [results, h, hp', asAddr, run_loadVar_row w g t ty cs (0, 0) d hg hu hd hi]
theorem results_cell_tmp2 {fn : Func} {p t1 t2 : Tmp} {ty : TypeId} (h : fn.results = #[.cell p ty, .tmp t1, .tmp t2]) (tmps : Array Value) (w : World) (g : Nat) (t : TypeId) (cs : Array Value) (d : TypeDesc)
    (hp : tmps.getD p undef = .pointer (some ⟨g, 0, none⟩)) (hg : Blk w g t cs) (hu : P.underlying ty = some d) (hd : (match d with | .struct _ | .array _ _ => true | _ => false) = true) (hi : (P.info? ty).map (·.size) = some cs.size) :
    (results fn tmps).run P w = .ok (.tuple #[.agg cs, tmps.getD t1 undef, tmps.getD t2 undef]) w := by
  have hp' : tmps[p]?.getD undef = .pointer (some ⟨g, 0, none⟩) := by simpa using hp
  simp [results, h, hp', asAddr, run_loadVar_row w g t ty cs (0, 0) d hg hu hd hi]
end

namespace Nt
def wrV (x : Wr) : Value := .agg #[.int .i64 x.1, .int .i64 x.2.1, .int .i64 x.2.2.1, .bool x.2.2.2]
def wrArr (x : Wr) : Array Value := #[.int .i64 x.1, .int .i64 x.2.1, .int .i64 x.2.2.1, .bool x.2.2.2]
/-- The first write of an object, and whether there is one. -/
def at_ (l : List Wr) (o : Int) : Wr × Bool := match l.find? (fun x => decide (x.2.2.1 = o)) with
  | some x => (x, true)
  | none => (zeroW, false)
theorem at_some {l : List Wr} {o : Int} {k : Nat} (hk : k < l.length) (h : obj l k = o) (hb : ∀ j, j < k → obj l j ≠ o) : at_ l o = (l.getD k zeroW, true) := by
  have : l.find? (fun x => decide (x.2.2.1 = o)) = some (l.getD k zeroW) := by
    rw [List.find?_eq_some_iff_getElem]
    have e : l.getD k zeroW = l[k] := by rw [List.getD_eq_getElem?_getD, List.getElem?_eq_getElem hk]; rfl
    refine ⟨decide_eq_true h, k, hk, e.symm, fun j hj => ?_⟩
    have h2 := hb j hj
    unfold obj at h2
    rw [List.getD_eq_getElem?_getD, List.getElem?_eq_getElem (by omega)] at h2
    simpa using h2
  unfold at_
  rw [this]
theorem at_none {l : List Wr} {o : Int} (hb : ∀ j, j < l.length → obj l j ≠ o) : at_ l o = (zeroW, false) := by
  have : l.find? (fun x => decide (x.2.2.1 = o)) = none := by
    rw [List.find?_eq_none]
    intro x hx
    obtain ⟨j, hj, rfl⟩ := List.mem_iff_getElem.1 hx
    have h2 := hb j hj
    unfold obj at h2
    rw [List.getD_eq_getElem?_getD, List.getElem?_eq_getElem hj] at h2
    simpa using h2
  unfold at_
  rw [this]
end Nt
theorem infoW4 : (Try.prog.info? 27).map (·.size) = some 4 := by kernel_rfl

set_option maxHeartbeats 1600000 in
theorem nat_any (A : Option Addr) (c : Nat) (l : List Wr) (o : Int) (w : World) (h : OneW w A c l) :
    Calls Try.prog 21 #[.slice A l.length c, .int .i64 o] w (Says (.tuple #[Nt.wrV (Nt.at_ l o).1, .bool (Nt.at_ l o).2]) w) := by
  have hl := h.len
  have H1 := Lib.hid h
  clear h
  go_enter Try.func21, Try.ntmps21
  go_wp2_with fail
  go_loopw [6] (fun s6 wr => ∃ k : Nat, k ≤ l.length ∧ s6 = .int .i64 (k : Int) ∧ (∀ j, j < k → Nt.obj l j ≠ o) ∧ Blk wr w.heap.size 27 (Nt.wrArr Nt.zeroW) ∧ Below w.heap.size w wr) (fun s6 _ => l.length - (intOf s6).toNat)
  case atStart => exact ⟨0, Nat.zero_le _, rfl, (fun j hj => by omega), Blk.new _ _ _, below_new (Below.refl _ _) _⟩
  case round =>
    obtain ⟨k, hk, rfl, hall, hB, hbw⟩ := hrel
    have HALL := Lib.hid hall
    clear hall
    have z0 := hB.cell (i := 0) rfl
    have z1 := hB.cell (i := 1) rfl
    have z2 := hB.cell (i := 2) rfl
    have z3 := hB.cell (i := 3) rfl
    have y0 := hB.free 0
    have y1 := hB.free 1
    have y2 := hB.free 2
    have y3 := hB.free 3
    have HB := Lib.hid hB
    clear hB
    by_cases hlt : k < l.length
    · have hne : l ≠ [] := fun e => by subst e; simp at hlt
      obtain ⟨b, off, hA, hcA⟩ := (H1.out.later hbw).at hne
      have H1' := H1
      subst hA
      obtain ⟨e0, e1, e2, e3⟩ := hcA k hlt
      clear hcA
      have hi0 : (0 : Int) ≤ (k : Int) := by omega
      have hi1 : (k : Int) < (l.length : Int) := by omega
      have hob : (l.getD k Nt.zeroW).2.2.1 = Nt.obj l k := rfl
      by_cases heq : Nt.obj l k = o
      · have hd : (Nt.obj l k == o) = true := beq_iff_eq.2 heq
        have hat := Nt.at_some hlt heq HALL.out
        obtain ⟨x, hx⟩ : ∃ x, l.getD k Nt.zeroW = x := ⟨_, rfl⟩
        rw [hx] at e0 e1 e2 e3 hob hat
        rw [← hob] at hd
        have HAT := Lib.hid hat
        have hbf : b ≠ w.heap.size := fun e => by
          have hq := World.cell?_of_block (w := wr) (w' := wr) (a := ⟨b, off + k * 4, none⟩) rfl
          have h0 := H1.out.2.2.2
          have hne2 : Nt.wrCells l ≠ [] := fun e2 => hne (Nt.wrCells_nil.1 e2)
          obtain ⟨b', off', hA', hc'⟩ := h0 hne2
          injection hA' with hA'
          injection hA' with hA1 hA2
          obtain ⟨q1, _⟩ := Nt.wrCells_get l k hlt
          have := World.block_lt_of_cell? _ _ (hc' _ _ q1)
          simp at this
          omega
        clear hat hx hob heq
        go_wp2
        have hB4 : Blk ((((wr.setCell ⟨w.heap.size, 0, none⟩ (.int .i64 x.1)).setCell ⟨w.heap.size, 1, none⟩ (.int .i64 x.2.1)).setCell ⟨w.heap.size, 2, none⟩ (.int .i64 x.2.2.1)).setCell ⟨w.heap.size, 3, none⟩ (.bool x.2.2.2)) w.heap.size 27 (Nt.wrArr x) := (((HB.out.put 0 _).put 1 _).put 2 _).put 3 _
        exact bodyPost_ret (v := .tuple #[Nt.wrV x, .bool true]) (results_cell_tmp (p := 4) (t1 := 5) (ty := 27) rfl _ _ w.heap.size 27 (Nt.wrArr x) _ rfl hB4 Try.underlying27 rfl infoW4) rfl ⟨by rw [HAT.out], (((hbw.setCell (p := ⟨w.heap.size, 0, none⟩) (Nat.le_refl _) _).setCell (p := ⟨w.heap.size, 1, none⟩) (Nat.le_refl _) _).setCell (p := ⟨w.heap.size, 2, none⟩) (Nat.le_refl _) _).setCell (p := ⟨w.heap.size, 3, none⟩) (Nat.le_refl _) _⟩
      · have hd : (Nt.obj l k == o) = false := beq_eq_false_iff_ne.2 heq
        have HT := Lib.hid (show ∀ j, j < k + 1 → Nt.obj l j ≠ o from fun j hj => by
          by_cases e : j = k
          · subst e; exact heq
          · exact HALL.out j (by omega))
        obtain ⟨x, hx⟩ : ∃ x, l.getD k Nt.zeroW = x := ⟨_, rfl⟩
        rw [hx] at e0 e1 e2 e3 hob
        rw [← hob] at hd
        clear hob heq hx
        go_wp2_with fail
        go_roundw
        case rel => exact ⟨k + 1, by omega, by go_num, HT.out, HB.out, hbw⟩
        case measure => simp [intOf]; omega
    · have hkl : k = l.length := by omega
      have hat := Nt.at_none (l := l) (o := o) (fun j hj => HALL.out j (by omega))
      have HAT := Lib.hid hat
      clear hat
      subst hkl
      go_wp2
      have hB4 : Blk ((((wr.setCell ⟨w.heap.size, 0, none⟩ (.int .i64 0)).setCell ⟨w.heap.size, 1, none⟩ (.int .i64 0)).setCell ⟨w.heap.size, 2, none⟩ (.int .i64 0)).setCell ⟨w.heap.size, 3, none⟩ (.bool false)) w.heap.size 27 (Nt.wrArr Nt.zeroW) := (((HB.out.put 0 _).put 1 _).put 2 _).put 3 _
      exact bodyPost_ret (v := .tuple #[Nt.wrV Nt.zeroW, .bool false]) (results_cell_tmp (p := 4) (t1 := 5) (ty := 27) rfl _ _ w.heap.size 27 (Nt.wrArr Nt.zeroW) _ rfl hB4 Try.underlying27 rfl infoW4) rfl ⟨by rw [HAT.out], (((hbw.setCell (p := ⟨w.heap.size, 0, none⟩) (Nat.le_refl _) _).setCell (p := ⟨w.heap.size, 1, none⟩) (Nat.le_refl _) _).setCell (p := ⟨w.heap.size, 2, none⟩) (Nat.le_refl _) _).setCell (p := ⟨w.heap.size, 3, none⟩) (Nat.le_refl _) _⟩

end Go.Proofs.Ytbpgofgdlikedaa
namespace Go.Proofs.Ytbpgofgdlikedaa
open Go.ChangeShapes Go.WideShapes Go.RowKit Go.Deep

section
variable {H : Type} {enc : TypeId × Value → H} {P : Program} {w : World}

/-- The cells of a write. -/
theorem write_cells {base : Nat} {spare : Nat → Bool} {held : Bool} {fuel : Nat} {t ti : TypeId} {g0 g1 g2 s0 s1 : Field} {cs : List Value} {x : DataW H × List MemPlace}
    (hs : P.underlying t = some (.struct #[g0, g1, g2])) (hC : P.cellsOf t = 4) (k0 : P.cellsOf g0.type = 2) (o0 : g0.offset = 0) (k1 : P.cellsOf g1.type = 1) (o1 : g1.offset = 2) (k2 : P.cellsOf g2.type = 1) (o2 : g2.offset = 3)
    (hss : P.underlying g0.type = some (.struct #[s0, s1])) (hone : Deep.oneCellFields P #[s0, s1] = true) (hi0 : s0.type = ti) (hi1 : s1.type = ti) (hi : P.underlying ti = some (.int .i64)) (h1 : P.underlying g1.type = some (.int .i64)) (hb : P.underlying g2.type = some .bool)
    (h : DataW.trod enc P w base spare held fuel t cs = some x) : ∃ y : Wr, cs = Nt.wrCell y := by
  obtain ⟨y0, y1, y2, m, rfl, hl, q0, q1, q2⟩ := trod_struct3 hs h
  rw [hC] at hl
  obtain ⟨a0, a1, a2, a3, rfl⟩ : ∃ a0 a1 a2 a3, cs = [a0, a1, a2, a3] := by
    match cs, hl with
    | [a0, a1, a2, a3], _ => exact ⟨a0, a1, a2, a3, rfl⟩
  rw [o0, k0] at q0
  rw [o1, k1] at q1
  rw [o2, k2] at q2
  obtain ⟨c, n, e0, _⟩ := stamp_cells hss hone k0 hi0 hi1 hi q0
  obtain ⟨o, e1, _, _⟩ := DataW.trod_int h1 q1
  obtain ⟨g, e2, _⟩ := DataW.trod_bool hb q2
  simp at e0 e1 e2
  obtain ⟨rfl, rfl⟩ := e0
  subst e1 e2
  exact ⟨(c, n, o, g), rfl⟩

/-- A write by value. -/
theorem open_write {base b0 : Nat} {spare : Nat → Bool} {held : Bool} {r : Reach} {t ti : TypeId} {g0 g1 g2 s0 s1 : Field} {v : Value} {d : DataW H} {p : List MemPlace}
    (hs : P.underlying t = some (.struct #[g0, g1, g2])) (hC : P.cellsOf t = 4) (k0 : P.cellsOf g0.type = 2) (o0 : g0.offset = 0) (k1 : P.cellsOf g1.type = 1) (o1 : g1.offset = 2) (k2 : P.cellsOf g2.type = 1) (o2 : g2.offset = 3)
    (hss : P.underlying g0.type = some (.struct #[s0, s1])) (hone : Deep.oneCellFields P #[s0, s1] = true) (hi0 : s0.type = ti) (hi1 : s1.type = ti) (hi : P.underlying ti = some (.int .i64)) (h1 : P.underlying g1.type = some (.int .i64)) (hb : P.underlying g2.type = some .bool)
    (hv : Value.okWide P w r b0 t v) (h : DataW.Trod enc P w base spare held t v d p) : ∃ y : Wr, v = .agg (Nt.wrArr y) := by
  obtain ⟨cs, rfl, _⟩ := okWide_struct hs hv
  obtain ⟨fuel, hf⟩ := h
  obtain ⟨y, hy⟩ := write_cells hs hC k0 o0 k1 o1 k2 o2 hss hone hi0 hi1 hi h1 hb hf
  refine ⟨y, ?_⟩
  have : cs = Nt.wrArr y := by
    apply Array.toList_inj.1
    rw [show cs.toList = Nt.wrCell y from hy]
    rfl
  rw [this]

/-- How long a list is, by its reading. -/
def LenD (d : DataW H) (k : Nat) : Prop := k = 0 ∨ ∃ elems spare, d = .slice elems spare ∧ elems.length = k

/-- A note by value. -/
theorem open_note {b0 : Nat} {r : Reach} {t es ep ew : TypeId} {f0 f1 f2 f3 : Field} {v : Value} {d : DataW H} {p : List MemPlace}
    (hs : P.underlying t = some (.struct #[f0, f1, f2, f3])) (hone : Deep.oneCellFields P #[f0, f1, f2, f3] = true) (hC : P.cellsOf t = 4)
    (u0 : P.underlying f0.type = some (.slice es)) (u1 : P.underlying f1.type = some (.slice es)) (u2 : P.underlying f2.type = some (.slice ep)) (u3 : P.underlying f3.type = some (.slice ew)) (cS : P.cellsOf es = 2) (cP : P.cellsOf ep = 2) (cW : P.cellsOf ew = 4)
    (HS : ∀ (fuel : Nat) (cs : List Value) (x : DataW H × List MemPlace), DataW.trod enc P w 0 (fun _ => true) true fuel es cs = some x → ∃ a, cs = stCell a)
    (HP : ∀ (fuel : Nat) (cs : List Value) (x : DataW H × List MemPlace), DataW.trod enc P w 0 (fun _ => true) true fuel ep cs = some x → ∃ a, cs = stCell a)
    (HW : ∀ (fuel : Nat) (cs : List Value) (x : DataW H × List MemPlace), DataW.trod enc P w 0 (fun _ => true) true fuel ew cs = some x → ∃ a, cs = Nt.wrCell a)
    (hv : Value.okWide P w r b0 t v) (h : DataW.Trod enc P w 0 (fun _ => true) true t v d p) :
    ∃ (S E B V : Option Addr) (cs ce cb cv : Nat) (n : Note), v = .agg (noteCells S E B V cs ce cb cv n) ∧ NoteAt w S E B V cs ce cb cv n ∧
      ∃ d0 d1 d2 d3, d = .agg [d0, d1, d2, d3] ∧ LenD d0 n.s.length ∧ LenD d1 n.e.length ∧ LenD d2 n.b.length ∧ LenD d3 n.ws.length := by
  obtain ⟨cs, rfl, hsz⟩ := okWide_struct hs hv
  obtain ⟨fuel, hf⟩ := h
  obtain ⟨y0, y1, y2, y3, m, hx, _, q0, q1, q2, q3⟩ := Go.Joins.trod_struct4 hs hf
  obtain ⟨o0, k0⟩ := Deep.hone_of hone 0 f0 rfl
  obtain ⟨o1, k1⟩ := Deep.hone_of hone 1 f1 rfl
  obtain ⟨o2, k2⟩ := Deep.hone_of hone 2 f2 rfl
  obtain ⟨o3, k3⟩ := Deep.hone_of hone 3 f3 rfl
  rw [hC] at hsz
  obtain ⟨a0, a1, a2, a3, hcs⟩ : ∃ a0 a1 a2 a3, cs.toList = [a0, a1, a2, a3] := by
    have hl : cs.toList.length = 4 := by simpa using hsz
    match cs.toList, hl with
    | [a0, a1, a2, a3], _ => exact ⟨a0, a1, a2, a3, rfl⟩
  have hcc : (Value.agg cs).cells.toList = [a0, a1, a2, a3] := hcs
  rw [hcc] at q0 q1 q2 q3
  rw [o0, k0] at q0
  rw [o1, k1] at q1
  rw [o2, k2] at q2
  rw [o3, k3] at q3
  simp at q0 q1 q2 q3
  obtain ⟨S, c0, l0, e0, g0, g0', g0'', L0, z0⟩ := open_list_at (0, 0) stCell (size := 2) (fun _ => rfl) u0 cS (by decide) HS q0
  obtain ⟨E, c1, l1, e1, g1, g1', g1'', L1, z1⟩ := open_list_at (0, 0) stCell (size := 2) (fun _ => rfl) u1 cS (by decide) HS q1
  obtain ⟨B, c2, l2, e2, g2, g2', g2'', L2, z2⟩ := open_list_at (0, 0) stCell (size := 2) (fun _ => rfl) u2 cP (by decide) HP q2
  obtain ⟨V, c3, l3, e3, g3, g3', g3'', L3, z3⟩ := open_list_at Nt.zeroW Nt.wrCell (size := 4) (fun _ => rfl) u3 cW (by decide) HW q3
  rw [stCells_flat] at L0 L1 L2
  simp at e0 e1 e2 e3
  subst e0 e1 e2 e3
  have hv2 : cs = noteCells S E B V c0 c1 c2 c3 ⟨l0, l1, l2, l3⟩ := by
    apply Array.toList_inj.1
    rw [hcs]
    rfl
  have hd : d = .agg [y0.1, y1.1, y2.1, y3.1] := congrArg Prod.fst hx
  refine ⟨S, E, B, V, c0, c1, c2, c3, ⟨l0, l1, l2, l3⟩, by rw [hv2], ⟨⟨g0, g0', g0'', L0⟩, ⟨g1, g1', g1'', L1⟩, ⟨g2, g2', g2'', L2⟩, ⟨g3, g3', g3'', L3⟩⟩, _, _, _, _, hd, ?_, ?_, ?_, ?_⟩
  · rcases z0 with ⟨_, z, _⟩ | ⟨el, sp, z, z', _⟩
    · exact .inl z
    · exact .inr ⟨el, sp, z, z'⟩
  · rcases z1 with ⟨_, z, _⟩ | ⟨el, sp, z, z', _⟩
    · exact .inl z
    · exact .inr ⟨el, sp, z, z'⟩
  · rcases z2 with ⟨_, z, _⟩ | ⟨el, sp, z, z', _⟩
    · exact .inl z
    · exact .inr ⟨el, sp, z, z'⟩
  · rcases z3 with ⟨_, z, _⟩ | ⟨el, sp, z, z', _⟩
    · exact .inl z
    · exact .inr ⟨el, sp, z, z'⟩

/-- How long a list inside a struct argument can be. -/
theorem sized_field {ts : List TypeId} {ds : List (DataW H)} (h : (DataW.weightsEach P ts ds).all (· ≤ reachBytes) = true) {j : Nat} {t : TypeId} {fs : Array Field} {parts : List (DataW H)} (ht : ts[j]? = some t) (hd : ds[j]? = some (.agg parts)) (hu : P.underlying t = some (.struct fs))
    {i : Nat} {tf e : TypeId} {x : DataW H} {k : Nat} (hti : (fs.toList.map (·.type))[i]? = some tf) (hpi : parts[i]? = some x) (hue : P.underlying tf = some (.slice e)) (hx : LenD x k) : k * P.bytesOf e ≤ reachBytes := by
  rcases hx with rfl | ⟨elems, spare, rfl, rfl⟩
  · omega
  · have hin : (elems.length + spare.length) * P.bytesOf e ∈ DataW.weights P tf (.slice elems spare) := by unfold DataW.weights; rw [hue]; exact List.mem_cons_self ..
    have hmid : (elems.length + spare.length) * P.bytesOf e ∈ DataW.weights P t (.agg parts) := by
      unfold DataW.weights
      rw [hu]
      exact DataW.weights_mem_each hti hpi _ hin
    have hall := List.all_eq_true.1 h _ (DataW.weights_mem_each ht hd _ hmid)
    have h2 : (elems.length + spare.length) * P.bytesOf e ≤ reachBytes := by simpa using hall
    exact Nat.le_trans (Nat.mul_le_mul_right _ (Nat.le_add_right _ _)) h2
end

end Go.Proofs.Ytbpgofgdlikedaa
