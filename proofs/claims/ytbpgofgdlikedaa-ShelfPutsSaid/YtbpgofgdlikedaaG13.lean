/-
  What telltaleref11's Right and Formed answer.
  What telltaleref04's Of answers.
  Worlds that agree but for two blocks and for what is new. Nothing of the program is imported.
  What telltaleref04's Through answers.
-/
import Derived.Test.YtbpgofgdlikedaaG10
import Derived.Test.YtbpgofgdlikedaaG12
import Derived.Test.YtbpgofgdlikedaaG11
import Derived.Lib.QuietBelow
import Derived.Test.YtbpgofgdlikedaaG04
import Derived.Deep.AppendLies
import Derived.Deep.RegionLaw
namespace Go.Proofs.Ytbpgofgdlikedaa
open Go.RowKit

set_option maxHeartbeats 1600000 in
theorem fright_any (x : Wr) (w : World) : Calls Try.prog 23 #[Nt.wrV x] w (Says (.bool (Sf.right x)) w) := by
  obtain ⟨c, n, o, g⟩ := x
  show Calls Try.prog 23 #[.agg #[.int .i64 c, .int .i64 n, .int .i64 o, .bool g]] w (Says (.bool (Sf.right (c, n, o, g))) w)
  have hb0 := below_new (Below.refl w.heap.size w) (.cells #[.int .i64 c, .int .i64 n, .int .i64 o, .bool g] 27)
  by_cases h0 : 0 ≤ o
  · have hd0 : decide (0 ≤ o) = true := decide_eq_true h0
    by_cases h1 : o ≤ 255
    · have hd1 : decide (o ≤ 255) = true := decide_eq_true h1
      have HR := Lib.hid (show Sf.right (c, n, o, g) = St.rgt c n by unfold Sf.right; simp [h0, h1])
      go_enter Try.func23, Try.ntmps23
      go_wp2_with fail
      refine (rright_any c n _).mono ?_
      rintro e w1 ⟨rfl, b1⟩
      go_wp2
      go_ret
      exact ⟨by rw [HR.out]; rfl, below_on hb0 b1⟩
    · have hd1 : decide (o ≤ 255) = false := decide_eq_false h1
      have HR := Lib.hid (show Sf.right (c, n, o, g) = false by unfold Sf.right; simp [h1])
      go_enter Try.func23, Try.ntmps23
      go_wp2
      go_ret
      exact ⟨by rw [HR.out]; rfl, hb0⟩
  · have hd0 : decide (0 ≤ o) = false := decide_eq_false h0
    have HR := Lib.hid (show Sf.right (c, n, o, g) = false by unfold Sf.right; simp [h0])
    go_enter Try.func23, Try.ntmps23
    go_wp2
    go_ret
    exact ⟨by rw [HR.out]; rfl, hb0⟩

set_option maxRecDepth 100000 in
set_option maxHeartbeats 3200000 in
theorem fformed_any (A : Option Addr) (c : Nat) (l : List Wr) (w : World) (h : OneW w A c l) :
    Calls Try.prog 12 #[.slice A l.length c] w (Says (.bool (Sf.fmd l)) w) := by
  have hl := h.len
  have H1 := Lib.hid h
  have NO := Lib.hid (fun k hk hn => Sf.fmd_no (l := l) k hk hn)
  have YES := Lib.hid (fun hn => (Sf.fmd_iff l).2 hn)
  obtain ⟨q, hq⟩ : ∃ q, Sf.fmd l = q := ⟨_, rfl⟩
  rw [hq] at NO YES ⊢
  clear h hq
  go_enter Try.func12, Try.ntmps12
  go_wp2_with fail
  go_loopw [3] (fun s3 wr => ∃ k : Nat, k ≤ l.length ∧ s3 = .int .i64 (k : Int) ∧ (∀ j, j < k → Sf.ok l j) ∧ Below w.heap.size w wr) (fun s3 _ => l.length - (intOf s3).toNat)
  case atStart => exact ⟨0, Nat.zero_le _, rfl, (fun j hj => by omega), Below.refl _ _⟩
  case round =>
    obtain ⟨k, hk, rfl, hall, hbw⟩ := hrel
    have HALL := Lib.hid hall
    clear hall
    by_cases hlt : k < l.length
    · have hne : l ≠ [] := fun e => by subst e; simp at hlt
      obtain ⟨b, off, hA, hcA⟩ := (H1.out.later hbw).at hne
      have H1' := H1
      subst hA
      obtain ⟨e0, e1, e2, e3⟩ := hcA k hlt
      have hi0 : (0 : Int) ≤ (k : Int) := by omega
      have hi1 : (k : Int) < (l.length : Int) := by omega
      have hob : (l.getD k Nt.zeroW).2.2.1 = Nt.obj l k := rfl
      have hrt : Sf.right (l.getD k Nt.zeroW) = Sf.right (l.getD k Nt.zeroW) := rfl
      have nOk : ¬ Sf.ok l k → q = false := NO.out k hlt
      have yOk : (Sf.right (l.getD k Nt.zeroW) = true ∧ (0 < k → Nt.obj l (k - 1) < Nt.obj l k)) → ∀ j, j < k + 1 → Sf.ok l j := fun hh j hj => by
        by_cases e : j = k
        · subst e; exact hh
        · exact HALL.out j (by omega)
      have nOk2 : ¬ (Sf.right (l.getD k Nt.zeroW) = true ∧ (0 < k → Nt.obj l (k - 1) < Nt.obj l k)) → q = false := nOk
      obtain ⟨x, hx⟩ : ∃ x, l.getD k Nt.zeroW = x := ⟨_, rfl⟩
      rw [hx] at e0 e1 e2 e3 nOk2 yOk hob
      obtain ⟨r, hr⟩ : ∃ r, Sf.right x = r := ⟨_, rfl⟩
      have cR : ∀ d os, Calls Try.prog 23 #[.agg #[.int .i64 x.1, .int .i64 x.2.1, .int .i64 x.2.2.1, .bool x.2.2.2]] (Sort.grow (redrawn wr d) os) fun e w'' => e = .returned (.bool r) ∧ ∃ p : Regrown, w'' = Sort.grow (redrawn wr p.d) p.os := fun d os => by
        rw [← hr]
        exact Calls.regrown_of (fright_any x _)
      rw [hr] at nOk2 yOk
      have CR := Lib.hid cR
      have k0 := cell_regrown e0
      have k1 := cell_regrown e1
      have k2 := cell_regrown e2
      have k3 := cell_regrown e3
      have NK := Lib.hid nOk2
      have YK := Lib.hid yOk
      have BW := Lib.hid hbw
      cases k with
      | zero =>
        have hgt : decide ((0 : Int) < ((0 : Nat) : Int)) = false := rfl
        clear nOk nOk2 yOk hx hr cR hob hrt hcA e0 e1 e2 e3 hbw
        simp only [Nat.zero_mul, Nat.add_zero] at k0 k1 k2 k3
        cases r with
        | true =>
          have HT := Lib.hid (YK.out ⟨rfl, fun hh => by omega⟩)
          go_wp2_with fail
          refine wp_region_quiet_below (by kernel_rfl) (by kernel_rfl) ?_
          repeat (first | go_big_quiet_step (exact CR.out _ _) | quiet_step (exact CR.out _ _))
          refine wpQuiet_nil ?_
          intro _ hw'
          obtain ⟨⟨dq, osq⟩, hw''⟩ := hw'
          subst hw''
          go_wp2_with fail
          go_roundw
          case rel => exact ⟨1, by omega, by first | rfl | go_num, HT.out, below_on BW.out (below_regrown wr dq osq)⟩
          case measure => simp [intOf]; omega
        | false =>
          have hqf := NK.out (fun hh => by cases hh.1)
          subst hqf
          go_wp2_with fail
          refine wp_region_quiet_below (by kernel_rfl) (by kernel_rfl) ?_
          repeat (first | go_big_quiet_step (exact CR.out _ _) | quiet_step (exact CR.out _ _))
          refine wpQuiet_nil ?_
          intro _ hw'
          obtain ⟨⟨dq, osq⟩, hw''⟩ := hw'
          subst hw''
          go_wp2
          go_ret
          exact ⟨rfl, below_on BW.out (below_regrown wr dq osq)⟩
      | succ m =>
        obtain ⟨-, -, f2, -⟩ := hcA m (by omega)
        have hgt : decide ((0 : Int) < ((m + 1 : Nat) : Int)) = true := decide_eq_true (by omega)
        have hm1 : ((m + 1 : Nat) : Int) - 1 = (m : Int) := by omega
        have hj0 : (0 : Int) ≤ (m : Int) := by omega
        have hj1 : (m : Int) < (l.length : Int) := by omega
        have m2 : ∀ d os, (Sort.grow (redrawn wr d) os).cell? ⟨b, off + m * 4 + 2, none⟩ = some (.int .i64 (Nt.obj l m)) := cell_regrown f2
        have hob1 : Nt.obj l (m + 1) = x.2.2.1 := hob.symm
        rw [hob1, show m + 1 - 1 = m from rfl] at NK YK
        obtain ⟨y, hy⟩ : ∃ y, Nt.obj l m = y := ⟨_, rfl⟩
        rw [hy] at m2 NK YK
        clear nOk nOk2 yOk hx hr cR hob hob1 hrt hcA e0 e1 e2 e3 f2 hbw hy
        cases r with
        | false =>
          have hqf := NK.out (fun hh => by cases hh.1)
          subst hqf
          go_wp2_with fail
          refine wp_region_quiet_below (by kernel_rfl) (by kernel_rfl) ?_
          repeat (first | go_big_quiet_step (exact CR.out _ _) | quiet_step (exact CR.out _ _))
          refine wpQuiet_nil ?_
          intro _ hw'
          obtain ⟨⟨dq, osq⟩, hw''⟩ := hw'
          subst hw''
          go_wp2
          go_ret
          exact ⟨rfl, below_on BW.out (below_regrown wr dq osq)⟩
        | true =>
          by_cases hge : x.2.2.1 ≤ y
          · have hd : decide (x.2.2.1 ≤ y) = true := decide_eq_true hge
            have hqf := NK.out (fun hh => by have := hh.2 (by omega); omega)
            subst hqf
            go_wp2_with fail
            refine wp_region_quiet_below (by kernel_rfl) (by kernel_rfl) ?_
            repeat (first | go_big_quiet_step (exact CR.out _ _) | quiet_step (exact CR.out _ _))
            refine wpQuiet_nil ?_
            intro _ hw'
            obtain ⟨⟨dq, osq⟩, hw''⟩ := hw'
            subst hw''
            go_wp2
            go_ret
            exact ⟨rfl, below_on BW.out (below_regrown wr dq osq)⟩
          · have hd : decide (x.2.2.1 ≤ y) = false := decide_eq_false hge
            have HT := Lib.hid (YK.out ⟨rfl, fun _ => by omega⟩)
            go_wp2_with fail
            refine wp_region_quiet_below (by kernel_rfl) (by kernel_rfl) ?_
            repeat (first | go_big_quiet_step (exact CR.out _ _) | quiet_step (exact CR.out _ _))
            refine wpQuiet_nil ?_
            intro _ hw'
            obtain ⟨⟨dq, osq⟩, hw''⟩ := hw'
            subst hw''
            go_wp2_with fail
            go_roundw
            case rel => exact ⟨m + 1 + 1, by omega, by first | rfl | go_num, HT.out, below_on BW.out (below_regrown wr dq osq)⟩
            case measure => simp [intOf]; omega
    · have hkl : k = l.length := by omega
      subst hkl
      have hqt := YES.out HALL.out
      subst hqt
      go_wp2
      go_ret
      exact ⟨rfl, hbw⟩

theorem Sf.get_bad {l : List Wr} (h : Sf.fmd l = false) (o : Int) : Sf.getR l o = (Nt.zeroW, 1) := by unfold Sf.getR; rw [if_neg (by rw [h]; simp)]
theorem Sf.get_none {l : List Wr} {o : Int} {p : Wr} (h : Sf.fmd l = true) (h2 : Nt.at_ l o = (p, false)) : Sf.getR l o = (Nt.zeroW, 8) := by unfold Sf.getR; rw [if_pos h, h2, if_neg (by simp)]
theorem Sf.get_some {l : List Wr} {o : Int} {p : Wr} (h : Sf.fmd l = true) (h2 : Nt.at_ l o = (p, true)) : Sf.getR l o = (p, 0) := by unfold Sf.getR; rw [if_pos h, h2, if_pos rfl]

set_option maxRecDepth 100000 in
set_option maxHeartbeats 3200000 in
theorem fget_any (A : Option Addr) (c : Nat) (l : List Wr) (o : Int) (w : World) (h : OneW w A c l) :
    Calls Try.prog 10 #[.slice A l.length c, .int .i64 o] w (Says (.tuple #[Nt.wrV (Sf.getR l o).1, .int .i64 (Sf.getR l o).2]) w) := by
  have hb0 := below_new (Below.refl w.heap.size w) (.cells (Nt.wrArr Nt.zeroW) 27)
  have B0 := Blk.new w 27 (Nt.wrArr Nt.zeroW)
  have n1 := fformed_any A c l _ (h.later hb0)
  have n2 := fun wx (hx : Below w.heap.size w wx) => nat_any A c l o wx (h.later hx)
  obtain ⟨W, hW⟩ : ∃ W, w.alloc (.cells (Nt.wrArr Nt.zeroW) 27) = W := ⟨_, rfl⟩
  rw [hW] at hb0 B0 n1
  have HW := Lib.hid (show w.alloc (.cells #[.int .i64 0, .int .i64 0, .int .i64 0, .bool false] 27) = W from hW)
  have HB0 := Lib.hid hb0
  have G1 := Lib.hid (fun h => Sf.get_bad (l := l) h o)
  have G2 := Lib.hid (fun p h h2 => Sf.get_none (l := l) (o := o) (p := p) h h2)
  have G3 := Lib.hid (fun p h h2 => Sf.get_some (l := l) (o := o) (p := p) h h2)
  obtain ⟨r, hr⟩ : ∃ r, Sf.getR l o = r := ⟨_, rfl⟩
  obtain ⟨q, hq⟩ : ∃ q, Sf.fmd l = q := ⟨_, rfl⟩
  obtain ⟨⟨p, k⟩, hp⟩ : ∃ p, Nt.at_ l o = p := ⟨_, rfl⟩
  rw [hr] at G1 G2 G3 ⊢
  rw [hq] at n1 G1 G2 G3
  rw [hp] at n2 G2 G3
  have N1 := Lib.hid n1
  have N2 := Lib.hid (fun wx hx => (show Calls Try.prog 21 #[.slice A l.length c, .int .i64 o] wx (Says (.tuple #[.agg #[.int .i64 p.1, .int .i64 p.2.1, .int .i64 p.2.2.1, .bool p.2.2.2], .bool k]) wx) from n2 wx hx))
  have HBK := Lib.hid B0
  clear n1 n2 hW hb0 hr hq hp h B0
  cases q with
  | false =>
    have hR := G1.out rfl
    subst hR
    go_enter Try.func10, Try.ntmps10
    go_wp2_with fail
    rw [HW.out]
    refine N1.out.mono ?_
    rintro e w1 ⟨rfl, b1⟩
    have B1 := HBK.out.later b1
    have BB := Lib.hid (below_on HB0.out b1)
    obtain ⟨⟨z0, z1, z2, z3⟩, r0, r1, r2, r3⟩ := wr_cells B1
    have HB1 := Lib.hid B1
    clear B1 b1
    go_wp2
    exact bodyPost_ret (v := .tuple #[Nt.wrV Nt.zeroW, .int .i64 1]) (results_cell_tmp (p := 4) (t1 := 5) (ty := 27) rfl _ _ w.heap.size 27 (Nt.wrArr Nt.zeroW) _ rfl (wr_puts HB1.out Nt.zeroW) Try.underlying27 rfl infoW4) rfl ⟨rfl, below_puts BB.out (Nat.le_refl _) _ _ _ _⟩
  | true =>
  cases k with
  | false =>
    have hR := G2.out _ rfl rfl
    subst hR
    go_enter Try.func10, Try.ntmps10
    go_wp2_with fail
    rw [HW.out]
    refine N1.out.mono ?_
    rintro e w1 ⟨rfl, b1⟩
    have B1 := HBK.out.later b1
    have bb := below_on HB0.out b1
    clear b1
    go_wp2_with fail
    refine (N2.out _ bb).mono ?_
    rintro e w2 ⟨rfl, b2⟩
    have b3 := below_new b2 (.cells #[.int .i64 p.1, .int .i64 p.2.1, .int .i64 p.2.2.1, .bool p.2.2.2] 27)
    have B2 := B1.later b3
    have BB := Lib.hid (below_on bb b3)
    obtain ⟨⟨z0, z1, z2, z3⟩, r0, r1, r2, r3⟩ := wr_cells B2
    have HB1 := Lib.hid B2
    clear B1 B2 b2 b3 bb
    go_wp2
    exact bodyPost_ret (v := .tuple #[Nt.wrV Nt.zeroW, .int .i64 8]) (results_cell_tmp (p := 4) (t1 := 5) (ty := 27) rfl _ _ w.heap.size 27 (Nt.wrArr Nt.zeroW) _ rfl (wr_puts HB1.out Nt.zeroW) Try.underlying27 rfl infoW4) rfl ⟨rfl, below_puts BB.out (Nat.le_refl _) _ _ _ _⟩
  | true =>
    have hR := G3.out _ rfl rfl
    subst hR
    go_enter Try.func10, Try.ntmps10
    go_wp2_with fail
    rw [HW.out]
    refine N1.out.mono ?_
    rintro e w1 ⟨rfl, b1⟩
    have B1 := HBK.out.later b1
    have bb := below_on HB0.out b1
    clear b1
    go_wp2_with fail
    refine (N2.out _ bb).mono ?_
    rintro e w2 ⟨rfl, b2⟩
    have b3 := below_new b2 (.cells #[.int .i64 p.1, .int .i64 p.2.1, .int .i64 p.2.2.1, .bool p.2.2.2] 27)
    have B2 := B1.later b3
    have BB := Lib.hid (below_on bb b3)
    have C2 := Blk.new w2 27 (Nt.wrArr p)
    obtain ⟨⟨z0, z1, z2, z3⟩, r0, r1, r2, r3⟩ := wr_cells B2
    obtain ⟨⟨y0, y1, y2, y3⟩, s0, s1, s2, s3⟩ := wr_cells C2
    have HB1 := Lib.hid B2
    clear B1 B2 b2 b3 bb C2
    go_wp2
    exact bodyPost_ret (v := .tuple #[Nt.wrV p, .int .i64 0]) (results_cell_tmp (p := 4) (t1 := 5) (ty := 27) rfl _ _ w.heap.size 27 (Nt.wrArr p) _ rfl (wr_puts HB1.out p) Try.underlying27 rfl infoW4) rfl ⟨rfl, below_puts BB.out (Nat.le_refl _) _ _ _ _⟩
end Go.Proofs.Ytbpgofgdlikedaa
namespace Go.Proofs.Ytbpgofgdlikedaa
open Go.RowKit

/-- The empty note. -/
def noNote : Note := ⟨[], [], [], []⟩
theorem noNote_at (w : World) : NoteAt w none none none none 0 0 0 0 noNote := ⟨OneL.nil, OneL.nil, OneL.nil, OneW.nil⟩
theorem one_write {w : World} {g : Nat} {t : TypeId} {y : Wr} (hB : Blk w g t (Nt.wrArr y)) : OneW w (some ⟨g, 0, none⟩) 1 [y] :=
  ⟨Nat.le_refl _, (by unfold maxLen; omega), (fun h => by cases h), fun _ => ⟨g, 0, rfl, fun j u hu => by
    rw [Nat.zero_add]
    exact hB.cell (by simpa [Nt.wrCells, Nt.wrCell, Nt.wrArr] using hu)⟩⟩
/-- The note of one write, or an error's number. -/
def ofN (l : List (Int × Int)) (y : Wr) : Note × Int :=
  if (Ve.fmd l = true ∧ St.rgt y.1 y.2.1 = true) ∧ (0 ≤ y.2.2.1 ∧ y.2.2.1 ≤ 255) ∧ hasOf l y.1 y.2.1 = false then (⟨l, Ve.joinL [l, [(y.1, y.2.1)]], [], [y]⟩, 0) else (noNote, 1)

/-- Four slices of a note are stored, one after the other. -/
theorem nt_puts {w : World} {g : Nat} {t : TypeId} {y0 y1 y2 y3 : Value} (hB : Blk w g t #[y0, y1, y2, y3]) (S E B V : Option Addr) (cs ce cb cv : Nat) (n : Note) : Blk ((((w.setCell ⟨g, 0, none⟩ (.slice S n.s.length cs)).setCell ⟨g, 1, none⟩ (.slice E n.e.length ce)).setCell ⟨g, 2, none⟩ (.slice B n.b.length cb)).setCell ⟨g, 3, none⟩ (.slice V n.ws.length cv)) g t (noteCells S E B V cs ce cb cv n) := (((hB.put 0 _).put 1 _).put 2 _).put 3 _
theorem nt_cells {w : World} {g : Nat} {t : TypeId} {y0 y1 y2 y3 : Value} (h : Blk w g t #[y0, y1, y2, y3]) : (w.cell? ⟨g, 0, none⟩ = some y0 ∧ w.cell? ⟨g, 1, none⟩ = some y1 ∧ w.cell? ⟨g, 2, none⟩ = some y2 ∧ w.cell? ⟨g, 3, none⟩ = some y3) ∧
    (w.frozen? ⟨g, 0, none⟩ = false ∧ w.frozen? ⟨g, 1, none⟩ = false ∧ w.frozen? ⟨g, 2, none⟩ = false ∧ w.frozen? ⟨g, 3, none⟩ = false) := ⟨⟨h.cell rfl, h.cell rfl, h.cell rfl, h.cell rfl⟩, h.free 0, h.free 1, h.free 2, h.free 3⟩

end Go.Proofs.Ytbpgofgdlikedaa
namespace Go.Proofs.Ytbpgofgdlikedaa
open Go.RowKit

/-- All that lay is as it was, but for the blocks a and b. -/
def But (a b : Nat) (w w' : World) : Prop := w.heap.size ≤ w'.heap.size ∧ ∀ k, k < w.heap.size → k ≠ a → k ≠ b → w'.heap[k]? = w.heap[k]?
section
variable {a b : Nat} {w w1 w2 : World}
theorem But.refl (a b : Nat) (w : World) : But a b w w := ⟨Nat.le_refl _, fun _ _ _ _ => rfl⟩
theorem But.below (h : But a b w w1) (hb : Below w1.heap.size w1 w2) : But a b w w2 := ⟨Nat.le_trans h.1 hb.size, fun k hk h1 h2 => (hb.block k (by have := h.1; omega)).trans (h.2 k hk h1 h2)⟩
theorem But.drew (h : But a b w w1) : But a b w w1.drew := h
theorem But.alloc (h : But a b w w1) (o : Obj) : But a b w (w1.alloc o) := h.below (below_new (Below.refl _ _) o)
theorem But.setA (h : But a b w w1) (i : Nat) (x : Value) : But a b w (w1.setCell ⟨a, i, none⟩ x) := ⟨by simpa using h.1, fun k hk h1 h2 => (Below.heap_setCell w1 ⟨a, i, none⟩ x k h1).trans (h.2 k hk h1 h2)⟩
theorem But.setB (h : But a b w w1) (i : Nat) (x : Value) : But a b w (w1.setCell ⟨b, i, none⟩ x) := ⟨by simpa using h.1, fun k hk h1 h2 => (Below.heap_setCell w1 ⟨b, i, none⟩ x k h2).trans (h.2 k hk h1 h2)⟩
theorem But.grown (h : But a b w w1) {row : Option Nat} (hg : w1.grownBy w2 row) (hs : w1.heap.size ≤ w2.heap.size) (hr : ∀ r, row = some r → w.heap.size ≤ r) : But a b w w2 :=
  ⟨Nat.le_trans h.1 hs, fun k hk h1 h2 => (hg.block k (by have := h.1; omega) (fun e => by have := hr k e.symm; omega)).trans (h.2 k hk h1 h2)⟩
theorem But.blk (h : But a b w w1) {g : Nat} {t : TypeId} {cs : Array Value} (hB : Blk w g t cs) (h1 : g ≠ a) (h2 : g ≠ b) : Blk w1 g t cs := (h.2 g hB.lt h1 h2).trans hB
def isInt : Value → Bool
  | .int .. => true
  | _ => false
/-- A list that begins with a whole number doesn't lie in a block that holds none. -/
theorem lies_far {A : Option Addr} {xs : List Value} {u : Value} (h : Lies w A (u :: xs)) (hu : isInt u = true) {g : Nat} {t : TypeId} {cs : Array Value} (hB : Blk w g t cs) (hc : ∀ x ∈ cs.toList, isInt x = false) : ∀ p, A = some p → p.block ≠ g := fun p hp e => by
  obtain ⟨c, off, hA, hl⟩ := h (by simp)
  rw [hp] at hA
  injection hA with hA
  subst hA
  simp only at e
  subst e
  have h1 := hl 0 u rfl
  rw [Nat.add_zero, cell_of_row w c off cs t (0, 0) hB] at h1
  have h2 := hc u (Array.mem_toList_iff.2 (Array.mem_of_getElem? h1))
  rw [hu] at h2
  cases h2
theorem Lies.but {A : Option Addr} {xs : List Value} (h : Lies w A xs) (hb : But a b w w1) (hi : ∀ u r, xs = u :: r → isInt u = true) {ta tb : TypeId} {ca cb : Array Value} (hA : Blk w a ta ca) (hca : ∀ x ∈ ca.toList, isInt x = false) (hB : Blk w b tb cb) (hcb : ∀ x ∈ cb.toList, isInt x = false) : Lies w1 A xs := by
  cases xs with
  | nil => exact Lies.nil
  | cons u r =>
    have f1 := lies_far h (hi u r rfl) hA hca
    have f2 := lies_far h (hi u r rfl) hB hcb
    intro hne
    obtain ⟨c, off, hA', hl⟩ := h hne
    refine ⟨c, off, hA', fun j x hx => ?_⟩
    have h1 := hl j x hx
    have hlt := World.block_lt_of_cell? _ _ h1
    exact (World.cell?_of_block (a := ⟨c, off + j, none⟩) (hb.2 c hlt (f1 _ hA') (f2 _ hA'))).trans h1
theorem OneL.but {A : Option Addr} {c : Nat} {l : List (Int × Int)} (h : OneL w A c l) (hb : But a b w w1) {ta tb : TypeId} {ca cb : Array Value} (hA : Blk w a ta ca) (hca : ∀ x ∈ ca.toList, isInt x = false) (hB : Blk w b tb cb) (hcb : ∀ x ∈ cb.toList, isInt x = false) : OneL w1 A c l :=
  ⟨h.1, h.2.1, h.2.2.1, h.2.2.2.but hb (fun u r e => by cases l with | nil => cases e | cons s q => cases e; rfl) hA hca hB hcb⟩
theorem OneW.but {A : Option Addr} {c : Nat} {l : List Wr} (h : OneW w A c l) (hb : But a b w w1) {ta tb : TypeId} {ca cb : Array Value} (hA : Blk w a ta ca) (hca : ∀ x ∈ ca.toList, isInt x = false) (hB : Blk w b tb cb) (hcb : ∀ x ∈ cb.toList, isInt x = false) : OneW w1 A c l :=
  ⟨h.1, h.2.1, h.2.2.1, h.2.2.2.but hb (fun u r e => by cases l with | nil => cases e | cons s q => cases e; rfl) hA hca hB hcb⟩
end

theorem marks_noInt (f : Nat → Bool) : ∀ x ∈ (Sp.arr f).toList, isInt x = false := by
  intro x hx
  unfold Sp.arr at hx
  simp at hx
  obtain ⟨i, _, rfl⟩ := hx
  rfl

end Go.Proofs.Ytbpgofgdlikedaa
namespace Go.Proofs.Ytbpgofgdlikedaa
open Go.RowKit Fb

namespace Nt
/-- What is kept of the first k writes; what becomes blurred of them. -/
def keptTo (ws : List Wr) (it : List (Int × Int)) (k : Nat) : List Wr := (ws.take k).filter fun x => Sp.inL it x.2.2.1.toNat
def blurTo (n : Note) (it : List (Int × Int)) (k : Nat) (o : Nat) : Bool := Sp.inL n.b o || (n.ws.take k).any fun x => decide (x.2.2.1 = (o : Int)) && !Sp.inL it o
/-- A note as one sees it who has an interest. -/
def through (n : Note) (it : List (Int × Int)) : Note × Int := if fmd n = true then (⟨n.s, n.e, Sp.ofL (blurTo n it n.ws.length), keptTo n.ws it n.ws.length⟩, 0) else (noNote, 1)
theorem kept_yes {ws : List Wr} {it : List (Int × Int)} {k : Nat} (hk : k < ws.length) (h : Sp.inL it (obj ws k).toNat = true) : keptTo ws it (k + 1) = keptTo ws it k ++ [ws.getD k zeroW] := by
  unfold keptTo obj at *
  have e : ws.getD k zeroW = ws[k] := by rw [List.getD_eq_getElem?_getD, List.getElem?_eq_getElem hk]; rfl
  rw [e] at h ⊢
  rw [List.take_succ_eq_append_getElem hk, List.filter_append]
  simp [h]
theorem kept_no {ws : List Wr} {it : List (Int × Int)} {k : Nat} (hk : k < ws.length) (h : Sp.inL it (obj ws k).toNat = false) : keptTo ws it (k + 1) = keptTo ws it k := by
  unfold keptTo obj at *
  have e : ws.getD k zeroW = ws[k] := by rw [List.getD_eq_getElem?_getD, List.getElem?_eq_getElem hk]; rfl
  rw [e] at h
  rw [List.take_succ_eq_append_getElem hk, List.filter_append]
  simp [h]
theorem kept_len (ws : List Wr) (it : List (Int × Int)) (k : Nat) : (keptTo ws it k).length ≤ k := by
  unfold keptTo
  have h1 := List.length_filter_le (fun x : Wr => Sp.inL it x.2.2.1.toNat) (ws.take k)
  rw [List.length_take] at h1
  omega
theorem blur_step {n : Note} {it : List (Int × Int)} {k : Nat} (hk : k < n.ws.length) (o : Nat) : blurTo n it (k + 1) o = (blurTo n it k o || (decide (obj n.ws k = (o : Int)) && !Sp.inL it o)) := by
  unfold blurTo obj
  have e : n.ws.getD k zeroW = n.ws[k] := by rw [List.getD_eq_getElem?_getD, List.getElem?_eq_getElem hk]; rfl
  rw [e, List.take_succ_eq_append_getElem hk, List.any_append, ← Bool.or_assoc]
  simp
end Nt
theorem marks_zero2 : Try.zeroCells52 = Sp.arr (fun _ => false) := marks_zero

end Go.Proofs.Ytbpgofgdlikedaa
