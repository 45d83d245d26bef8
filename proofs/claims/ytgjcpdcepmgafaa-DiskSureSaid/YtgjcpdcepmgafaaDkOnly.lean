/-
  The changes of one file alone: what Cut's and Append's do.
-/
import Derived.Test.YtgjcpdcepmgafaaDkShort
import Derived.Deep.RegionLaw
namespace Go.Proofs.Ytgjcpdcepmgafaa
open Go.RowKit

theorem cut1_any (g i n : Nat) (pk : Nat) (f : Fc) (W : World) (h0 : W.cell? ⟨pk, 0, none⟩ = some (.int .i64 (n : Int))) (h1 : W.cell? ⟨g, i * 3 + 1, none⟩ = some (.slice f.X f.l.length f.c)) (h2 : W.cell? ⟨g, i * 3 + 2, none⟩ = some (.int .i64 f.s)) (h3 : W.frozen? ⟨g, i * 3 + 1, none⟩ = false) (h4 : W.frozen? ⟨g, i * 3 + 2, none⟩ = false)
    (hn : n ≤ f.l.length) (hl : f.l.length ≤ f.c) (hc : f.c ≤ 9223372036854775807) (hX : f.X = none → f.c = 0) :
    Calls Try.prog 37 #[.pointer (some ⟨g, i * 3, none⟩), .pointer (some ⟨pk, 0, none⟩)] W fun e w' => e = .returned (.tuple #[]) ∧ w' = cutW W g i n f := by
  have N := Lib.hid (shorten_any g i n f W h1 h2 h3 h4 hn hl hc hX)
  clear h1 h2 h3 h4 hX
  go_enter Try.func37, Try.ntmps37
  go_wp2_with fail
  refine N.out.mono ?_
  rintro e w' ⟨rfl, hw⟩
  have HW := Lib.hid hw
  clear hw
  go_wp2
  go_end0
  exact ⟨rfl, HW.out⟩

theorem cutChg (n0 N : Nat) (w : World) (fs : List Fi) (number : Int) (n pn pc pk : Nat) (h0 : w.cell? ⟨pn, 0, none⟩ = some (.int .i64 number)) (h1 : w.cell? ⟨pc, 0, none⟩ = some (.func (.func 37) #[] #[.pointer (some ⟨pk, 0, none⟩)])) (h2 : w.cell? ⟨pk, 0, none⟩ = some (.int .i64 (n : Int)))
    (l0 : pn < n0) (l1 : pc < n0) (l2 : pk < n0) (hn : ∀ f ∈ fs, f.1 = number → n ≤ f.2.1.length) :
    Chg n0 N fs 46 #[.pointer (some ⟨pn, 0, none⟩), .pointer (some ⟨pc, 0, none⟩)] (JB n0 w fs (Dk.cut1 number n)) := by
  intro done Lk f g i cap W hJ hi hf hN hx hsz hr hs ho
  obtain ⟨q0, q1, q2, q3, q4⟩ := row_cells hr hx
  have hg := own_base_le hr
  have k0 : W.cell? ⟨pn, 0, none⟩ = some (.int .i64 number) := (hJ.1.cell (p := ⟨pn, 0, none⟩) l0).trans h0
  have k1 : W.cell? ⟨pc, 0, none⟩ = _ := (hJ.1.cell (p := ⟨pc, 0, none⟩) l1).trans h1
  have k2 : W.cell? ⟨pk, 0, none⟩ = _ := (hJ.1.cell (p := ⟨pk, 0, none⟩) l2).trans h2
  by_cases hne : f.num = number
  · have hnf : n ≤ f.l.length := hn f.fi (List.mem_of_getElem? hf) hne
    have hcap := ho.cap
    unfold maxLen at hcap
    rw [hne] at q0
    refine only_yes g i number pn pc _ _ (fun _ _ => rfl) W _ q0 k0 k1 (fun k => ?_)
    refine (cut1_any g i n pk f (W.drewN k) k2 q1 q2 q3 q4 hnf ho.le hcap (fun h => (ho.noA h).2)).mono ?_
    rintro e w' ⟨rfl, rfl⟩
    refine ⟨rfl, rfl, f.cut n, ?_⟩
    have hb : Below n0 W (cutW (W.drewN k) g i n f) := (below_drewN (Below.refl n0 W) k).trans (cutW_below (by omega))
    have hc := chgd_cut (W := W.drewN k) (n0 := n0) (J := JB n0 w fs (Dk.cut1 number n)) (done := done) (i := i) n hnf (hJ.snoc hb hi hf (by show (f.num, f.l.take n, min f.s (n : Int)) = Dk.cut1 number n f.fi; unfold Dk.cut1; rw [if_pos (show f.fi.1 = number from hne)]; rfl)) (show (W.drewN k).ownsRow (n0 + 2) 43 3 (.slice (some ⟨g, 0, none⟩) N cap) N (fCells Lk) from hr) hx (ho.stays (fun _ _ => rfl))
    exact ⟨hc.keeps, hc.size, hc.row, hc.own, hc.blk, hc.rest⟩
  · refine (only_no g i f.num number pn pc W q0 k0 hne).mono ?_
    rintro e w' ⟨rfl, k, rfl⟩
    refine ⟨rfl, f, chgd_same k (hJ.snoc (below_drewN (Below.refl n0 W) k) hi hf ?_) hr hx ho⟩
    unfold Dk.cut1
    rw [if_neg (show ¬ f.fi.1 = number from hne)]

theorem wp_append_any {P : Program} (w : World) {o : Oper} {a : Act} {K : Act → World → Prop} {Q : Exit → Act → World → Prop} (s x : Operand) (t : TypeId)
    (ho : o.op = .call { callee := .builtin .append, args := #[s, x], argTypes := #[t, t] })
    (base : Nat) (e : TypeId) (i : TypeInfo) (z : Value) (size bytes : Nat) (ht : P.underlying t = some (.slice e)) (hi : P.info? e = some i) (hz : i.zero = some z)
    (hsize : i.size = size) (hby : i.bytes = bytes) (hzs : z.cells.size = size) (hsz : 0 < size)
    (v : Value) (n : Nat) (xs : List Value) (hs : a.eval s = v) (hown : w.ownsRow base e size v n xs)
    (A : Option Addr) (m c : Nat) (hA : A = none → m = 0 ∧ c = 0) (news : List Value) (hx : a.eval x = .slice A m c) (hl : news.length = m * size) (hr : Lies w A news) (h1 : ∀ u ∈ news, u.oneCell' = true)
    (h63 : n + m ≤ maxLen) (hbytes : (n + m) * bytes ≤ 140737488355328) (hbase : base ≤ w.heap.size)
    (h : ∀ A' c' w', w'.ownsRow base e size (.slice A' (n + m) c') (n + m) (xs ++ news) → w.grownBy w' v.ownBlock → (Value.ownBlock (.slice A' (n + m) c') = v.ownBlock ∨ Value.ownBlock (.slice A' (n + m) c') = some w.heap.size) → K (a.put o.dst (.slice A' (n + m) c')) w') :
    Oper.wp P o a w K Q := by
  obtain ⟨v', w', hrun, h2, h3, h4⟩ := run_append_lies (P := P) w base t o.type e i z size bytes ht hi hz hsize hby hzs hsz v n xs hown A m c hA news hl hr h1 h63 hbytes hbase
  obtain ⟨A', c', rfl, -, -, -, -⟩ := own_form h2
  unfold Oper.wp execOp
  simp only [ho, resolve, invoke, builtin, Sem.run_bind, Sem.run_pure, Result.andThen_ok, List.map_toArray, List.map_cons, List.map_nil, hs, hx, hrun]
  exact h A' c' w' h2 h3 h4
/-- The same at a step of a region that draws its order. -/
theorem step_append_any {P : Program} (w : World) {ops : Array Oper} {o : Oper} {a : Act} {K : Act → World → Prop} {Q : Exit → Act → World → Prop} {E : Prop} (hgd : o.guard = none) (s x : Operand) (t : TypeId)
    (ho : o.op = .call { callee := .builtin .append, args := #[s, x], argTypes := #[t, t] })
    (base : Nat) (e : TypeId) (i : TypeInfo) (z : Value) (size bytes : Nat) (ht : P.underlying t = some (.slice e)) (hi : P.info? e = some i) (hz : i.zero = some z)
    (hsize : i.size = size) (hby : i.bytes = bytes) (hzs : z.cells.size = size) (hsz : 0 < size)
    (v : Value) (n : Nat) (xs : List Value) (hs : a.eval s = v) (hown : w.ownsRow base e size v n xs)
    (A : Option Addr) (m c : Nat) (hA : A = none → m = 0 ∧ c = 0) (news : List Value) (hx : a.eval x = .slice A m c) (hl : news.length = m * size) (hr : Lies w A news) (h1 : ∀ u ∈ news, u.oneCell' = true)
    (h63 : n + m ≤ maxLen) (hbytes : (n + m) * bytes ≤ 140737488355328) (hbase : base ≤ w.heap.size)
    (h : ∀ A' c' w', w'.ownsRow base e size (.slice A' (n + m) c') (n + m) (xs ++ news) → w.grownBy w' v.ownBlock → (Value.ownBlock (.slice A' (n + m) c') = v.ownBlock ∨ Value.ownBlock (.slice A' (n + m) c') = some w.heap.size) → K (a.put o.dst (.slice A' (n + m) c')) w') :
    if Region.wanted o (yielded ops a.tmps) = true then Oper.wp P o a w K Q else E := by
  have hw : Region.wanted o (yielded ops a.tmps) = true := by simp [Region.wanted, hgd]
  rw [if_pos hw]
  exact wp_append_any w s x t ho base e i z size bytes ht hi hz hsize hby hzs hsz v n xs hs hown A m c hA news hx hl hr h1 h63 hbytes hbase h

/-- What Append's change does to the file of the number. -/
def AppP (n0 N cap g i : Nat) (b : List Int) (Lk : List Fc) (f : Fc) (W w' : World) : Prop :=
  ∃ f', f'.fi = (f.num, f.l ++ b, f.s) ∧ Below n0 W w' ∧ W.heap.size ≤ w'.heap.size ∧ w'.ownsRow (n0 + 2) 43 3 (.slice (some ⟨g, 0, none⟩) N cap) N (fCells (Lk.set i f')) ∧ OwnB w' (n0 + 2) 5 f' ∧ (f'.blk = f.blk ∨ ∀ b, f'.blk = some b → W.heap.size ≤ b) ∧ (∀ b, n0 ≤ b → b < W.heap.size → b ≠ g → f.blk ≠ some b → w'.heap[b]? = W.heap[b]?)

set_option maxRecDepth 100000 in
set_option maxHeartbeats 3200000 in
theorem app1_any (n0 N cap g m pb : Nat) (B : Option Addr) (cb : Nat) (b : List Int) (Lk : List Fc) (f : Fc) (W : World) (h0 : W.cell? ⟨pb, 0, none⟩ = some (.slice B b.length cb)) (hb : OneB W B cb b) (hsz : n0 + 2 ≤ W.heap.size)
    (hr : W.ownsRow (n0 + 2) 43 3 (.slice (some ⟨g, 0, none⟩) N cap) N (fCells Lk)) (hx : Lk[m]? = some f) (hs : OwnS W (n0 + 2) 5 f) (ho : OwnB W (n0 + 2) 5 f) (hl : f.l.length + b.length ≤ 140737488355328) :
    Calls Try.prog 33 #[.pointer (some ⟨g, m * 3, none⟩), .pointer (some ⟨pb, 0, none⟩)] W fun e w' => e = .returned (.tuple #[]) ∧ AppP n0 N cap g m b Lk f W w' := by
  obtain ⟨i0, hI, hz0, hz1, hz2⟩ := info_parts infoBy
  obtain ⟨q0, q1, q2, q3, q4⟩ := row_cells hr hx
  have hg := own_base_le hr
  have hne : f.blk ≠ some g := ho.off_row hr (by decide)
  have HB := Lib.hid hb
  have HR := Lib.hid hr
  have HX := Lib.hid hx
  have HS := Lib.hid hs
  have HO := Lib.hid ho
  have HN := Lib.hid hne
  have Q1 := Lib.hid q1
  have K0 := Lib.hid h0
  have Q3 := Lib.hid q3
  clear hb hr hx hs ho hne q1 q3 h0 q0 q2 q4
  go_enter Try.func33, Try.ntmps33
  go_wp2_with fail
  have hs : W.drew.ownsRow (n0 + 2) 5 1 (.slice f.X f.l.length f.c) f.l.length (bCells f.l) := HS.out
  have hlb : Lies W.drew B (bCells b) := HB.out.lies.drew
  have q1 : W.drew.cell? ⟨g, m * 3 + 1, none⟩ = some (.slice f.X f.l.length f.c) := Q1.out
  have k0 : W.drew.cell? ⟨pb, 0, none⟩ = some (.slice B b.length cb) := K0.out
  have FINS := Lib.hid (fun (X2 : Option Addr) (c2 : Nat) (w2 : World) (ho2 : w2.ownsRow (n0 + 2) 5 1 (.slice X2 (f.l.length + b.length) c2) (f.l.length + b.length) (bCells f.l ++ bCells b)) (hg2 : W.drew.grownBy w2 (Value.ownBlock (.slice f.X f.l.length f.c))) (hblk : Value.ownBlock (.slice X2 (f.l.length + b.length) c2) = Value.ownBlock (.slice f.X f.l.length f.c) ∨ Value.ownBlock (.slice X2 (f.l.length + b.length) c2) = some W.heap.size) =>
    (show w2.cell? ⟨g, m * 3 + 1, none⟩ = some (.slice f.X f.l.length f.c) ∧ w2.frozen? ⟨g, m * 3 + 1, none⟩ = false ∧ AppP n0 N cap g m b Lk f W (w2.setCell ⟨g, m * 3 + 1, none⟩ (.slice X2 (f.l.length + b.length) c2)) from by
      rw [sl_blk f] at hg2 hblk
      have hgb : w2.heap[g]? = W.heap[g]? := hg2.block g hg.2 (fun e => HN.out e.symm)
      refine ⟨(World.cell?_of_block (w := W) (a := ⟨g, m * 3 + 1, none⟩) hgb).trans Q1.out, (World.frozen?_of_block (w := W) (a := ⟨g, m * 3 + 1, none⟩) hgb).trans Q3.out, ?_⟩
      rw [← bCells_append, ← List.length_append] at ho2
      rw [← List.length_append] at hblk ⊢
      have hb2 : Below n0 W w2 := (Below.drew (Below.refl n0 W)).grown hg2 (by show n0 ≤ W.heap.size; omega) (fun k hk => by have := (HO.out.lt k hk).1; omega)
      have r2 : w2.ownsRow (n0 + 2) 43 3 (.slice (some ⟨g, 0, none⟩) N cap) N (fCells Lk) := own_stays HR.out (fun k hk => by
        have : g = k := by injection hk
        subst this
        exact hgb)
      have ob := OwnB.of_own (f := { f with X := X2, c := c2, l := f.l ++ b }) ho2 (fun x hx => (List.mem_append.1 hx).elim (HO.out.byte x) (HB.out.byte x))
      have hblk2 : ({ f with X := X2, c := c2, l := f.l ++ b } : Fc).blk = f.blk ∨ ({ f with X := X2, c := c2, l := f.l ++ b } : Fc).blk = some W.heap.size := by
        have := sl_blk { f with X := X2, c := c2, l := f.l ++ b }
        dsimp only at this
        rw [← this]
        exact hblk
      refine ⟨{ f with X := X2, c := c2, l := f.l ++ b }, rfl, hb2.setCell (by show n0 ≤ g; omega) _, by simpa using hg2.size, row_put1 r2 HX.out X2 c2 (f.l ++ b), ob.far (p := ⟨g, m * 3 + 1, none⟩) (ob.off_row r2 (by decide)) _, hblk2.imp id (fun h k hk => by rw [h] at hk; injection hk with hk; omega), fun k h1 h2 h3 h4 => ?_⟩
      exact (Below.heap_setCell _ _ _ _ h3).trans (hg2.block k h2 (fun e => h4 e.symm))))
  go_region_law (refine step_append_any _ rfl _ _ 25 rfl (n0 + 2) 5 i0 (.int .u8 0) 1 1 Try.underlying25 hI hz0 hz1 hz2 rfl (by decide) _ f.l.length (bCells f.l) rfl hs B b.length cb HB.out.noA (bCells b) rfl (by rw [bCells_length, Nat.mul_one]) hlb (bCells_one b) (by unfold maxLen; omega) (by omega) hsz ?_; intro X2 c2 w2 ho2 hg2 hblk; have FIN := Lib.hid (FINS.out X2 c2 w2 ho2 hg2 hblk).2.2; have c1 := (FINS.out X2 c2 w2 ho2 hg2 hblk).1; have c3 := (FINS.out X2 c2 w2 ho2 hg2 hblk).2.1; clear ho2 hg2 hblk)
  all_goals
    go_wp2
    go_end0
    exact ⟨rfl, FIN.out⟩

theorem appChg (n0 N : Nat) (w : World) (fs : List Fi) (number : Int) (B : Option Addr) (cb : Nat) (b : List Int) (pn pc pb : Nat) (h0 : w.cell? ⟨pn, 0, none⟩ = some (.int .i64 number)) (h1 : w.cell? ⟨pc, 0, none⟩ = some (.func (.func 33) #[] #[.pointer (some ⟨pb, 0, none⟩)])) (h2 : w.cell? ⟨pb, 0, none⟩ = some (.slice B b.length cb))
    (hB : OneB w B cb b) (hw : n0 = w.heap.size) (l0 : pn < n0) (l1 : pc < n0) (l2 : pb < n0) (hn : ∀ f ∈ fs, f.1 = number → f.2.1.length + b.length ≤ 140737488355328) :
    Chg n0 N fs 46 #[.pointer (some ⟨pn, 0, none⟩), .pointer (some ⟨pc, 0, none⟩)] (JB n0 w fs (Dk.app1 number b)) := by
  intro done Lk f g i cap W hJ hi hf hN hx hsz hr hs ho
  obtain ⟨q0, q1, q2, q3, q4⟩ := row_cells hr hx
  have hg := own_base_le hr
  have k0 : W.cell? ⟨pn, 0, none⟩ = some (.int .i64 number) := (hJ.1.cell (p := ⟨pn, 0, none⟩) l0).trans h0
  have k1 : W.cell? ⟨pc, 0, none⟩ = _ := (hJ.1.cell (p := ⟨pc, 0, none⟩) l1).trans h1
  have k2 : W.cell? ⟨pb, 0, none⟩ = _ := (hJ.1.cell (p := ⟨pb, 0, none⟩) l2).trans h2
  have hBW : OneB W B cb b := hB.later (by have := hJ.1; rw [hw] at this; exact this)
  by_cases hne : f.num = number
  · have hnf : f.l.length + b.length ≤ 140737488355328 := hn f.fi (List.mem_of_getElem? hf) hne
    rw [hne] at q0
    refine only_yes g i number pn pc _ _ (fun _ _ => rfl) W _ q0 k0 k1 (fun k => ?_)
    refine (app1_any n0 N cap g i pb B cb b Lk f (W.drewN k) k2 (hBW.later (below_drewN (Below.refl _ _) k)) hsz hr hx (OwnS.stays hs (fun _ _ => rfl)) (ho.stays (fun _ _ => rfl)) hnf).mono ?_
    rintro e w' ⟨rfl, f', p1, p2, p3, p4, p5, p6, p7⟩
    refine ⟨rfl, rfl, f', hJ.snoc ((below_drewN (Below.refl n0 W) k).trans p2) hi hf ?_, p3, p4, p5, p6, p7⟩
    rw [p1]
    unfold Dk.app1
    rw [if_pos (show f.fi.1 = number from hne)]
    rfl
  · refine (only_no g i f.num number pn pc W q0 k0 hne).mono ?_
    rintro e w' ⟨rfl, k, rfl⟩
    refine ⟨rfl, f, chgd_same k (hJ.snoc (below_drewN (Below.refl n0 W) k) hi hf ?_) hr hx ho⟩
    unfold Dk.app1
    rw [if_neg (show ¬ f.fi.1 = number from hne)]
end Go.Proofs.Ytgjcpdcepmgafaa
