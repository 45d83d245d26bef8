/-
  What telltaleref02's Formed answers of any list of stamps in memory.
  What telltaleref02's Join answers of any lists of stamps in memory.
  What telltaleref02's Two and With answer of any lists of stamps in memory.
  What telltaleref04's Copy answers of any note: the same, in memory of its own.
-/
import Derived.Test.YtcfkpjbakccgiaaG07
import Derived.Test.YtcfkpjbakccgiaaG02
import Derived.Test.YtcfkpjbakccgiaaG04
import Derived.Test.YtcfkpjbakccgiaaG06
namespace Go.Proofs.Ytcfkpjbakccgiaa
open Go.RowKit

set_option maxHeartbeats 1600000 in
theorem rformed_any (A : Option Addr) (c1 : Nat) (l : List (Int × Int)) (w : World) (hl : l.length ≤ 9223372036854775807) (h1 : Stamps w A l) :
    Calls Try.prog 28 #[.slice A l.length c1] w fun e w' => e = .returned (.bool (Ve.fmd l)) ∧ Below w.heap.size w w' := by
  have H1 := Lib.hid h1
  clear h1
  go_enter Try.func28, Try.ntmps28
  go_wp2_with fail
  go_loopw [3] (fun s3 wr => ∃ k : Nat, k ≤ l.length ∧ s3 = .int .i64 (k : Int) ∧ Ve.fmTo l k ∧ Below w.heap.size w wr) (fun s3 _ => l.length - (intOf s3).toNat)
  case atStart => exact ⟨0, Nat.zero_le _, rfl, fun j hj => by omega, Below.refl _ _⟩
  case round =>
    obtain ⟨k, hk, rfl, heq, hbw⟩ := hrel
    have HEQ := Lib.hid heq
    clear heq
    by_cases hlt : k < l.length
    · have hne : l ≠ [] := fun e => by subst e; simp at hlt
      obtain ⟨b, off, hA, hcA⟩ := (H1.out.later hbw) hne
      subst hA
      obtain ⟨e0, e1⟩ := hcA k hlt
      have hi0 : (0 : Int) ≤ (k : Int) := by omega
      have hi1 : (k : Int) < (l.length : Int) := by omega
      obtain ⟨x, hx⟩ : ∃ x, l.getD k (0, 0) = x := ⟨_, rfl⟩
      rw [hx] at e0 e1
      have k0 : ∀ d os, (Sort.grow (redrawn wr d) os).cell? ⟨b, off + k * 2, none⟩ = some (.int .i64 x.1) := cell_regrown e0
      have k1 : ∀ d os, (Sort.grow (redrawn wr d) os).cell? ⟨b, off + k * 2 + 1, none⟩ = some (.int .i64 x.2) := cell_regrown e1
      have cR : ∀ d os, Calls Try.prog 63 #[.agg #[.int .i64 x.1, .int .i64 x.2]] (Sort.grow (redrawn wr d) os) fun e w'' => e = .returned (.bool (St.rgt x.1 x.2)) ∧ ∃ p : Regrown, w'' = Sort.grow (redrawn wr p.d) p.os := fun d os => Calls.regrown_of (rright_any x.1 x.2 _)
      clear e0 e1
      cases hr : St.rgt x.1 x.2
      · rw [hr] at cR
        have hno : Ve.fmd l = false := Ve.fmd_no k hlt (fun h => by rw [hx, hr] at h; exact absurd h.1 (by simp))
        have HNO := Lib.hid hno
        have CR := Lib.hid cR
        have HX := Lib.hid hx
        clear hno cR hx hcA hr
        go_wp2_with fail
        refine wp_region_quiet_below (by kernel_rfl) (by kernel_rfl) ?_
        repeat (first | go_big_quiet_step (exact CR.out _ _) | quiet_step (exact CR.out _ _))
        refine wpQuiet_nil ?_
        intro _ hw'
        obtain ⟨⟨dq, osq⟩, hw''⟩ := hw'
        subst hw''
        go_wp2
        go_ret
        exact ⟨by rw [HNO.out]; rfl, below_on hbw (below_regrown wr dq osq)⟩
      · rw [hr] at cR
        cases k with
        | zero =>
          simp only [Nat.zero_mul, Nat.add_zero] at k0 k1
          have HX := Lib.hid hx
          have HR := Lib.hid hr
          have CR := Lib.hid cR
          clear cR hx hcA hr
          go_wp2_with fail
          refine wp_region_quiet_below (by kernel_rfl) (by kernel_rfl) ?_
          repeat (first | go_big_quiet_step (exact CR.out _ _) | quiet_step (exact CR.out _ _))
          refine wpQuiet_nil ?_
          intro _ hw'
          obtain ⟨⟨dq, osq⟩, hw''⟩ := hw'
          subst hw''
          go_wp2_with fail
          go_roundw
          case rel =>
            refine ⟨1, by omega, by go_num, ?_, below_on hbw (below_regrown wr dq osq)⟩
            intro j hj
            have hj0 : j = 0 := by omega
            subst hj0
            exact ⟨by rw [HX.out]; exact HR.out, fun h => absurd h (by omega)⟩
          case measure => simp [intOf]; omega
        | succ m =>
          obtain ⟨_, f1⟩ := hcA m (by omega)
          obtain ⟨y, hy⟩ : ∃ y, l.getD m (0, 0) = y := ⟨_, rfl⟩
          rw [hy] at f1
          have k2 : ∀ d os, (Sort.grow (redrawn wr d) os).cell? ⟨b, off + m * 2 + 1, none⟩ = some (.int .i64 y.2) := cell_regrown f1
          clear f1
          have hm1 : ((m + 1 : Nat) : Int) - 1 = (m : Int) := by omega
          have hj0 : (0 : Int) ≤ (m : Int) := by omega
          have hj1 : (m : Int) < (l.length : Int) := by omega
          have hg : decide (((m + 1 : Nat) : Int) > 0) = true := decide_eq_true (by omega)
          by_cases hge : y.2 < x.2
          · have hd : decide (y.2 < x.2) = true := decide_eq_true hge
            have HX := Lib.hid hx
            have HY := Lib.hid hy
            have HR := Lib.hid hr
            have CR := Lib.hid cR
            clear cR hx hcA hr hy
            go_wp2_with fail
            refine wp_region_quiet_below (by kernel_rfl) (by kernel_rfl) ?_
            repeat (first | go_big_quiet_step (exact CR.out _ _) | quiet_step (exact CR.out _ _))
            refine wpQuiet_nil ?_
            intro _ hw'
            obtain ⟨⟨dq, osq⟩, hw''⟩ := hw'
            subst hw''
            go_wp2_with fail
            go_roundw
            case rel =>
              refine ⟨m + 1 + 1, by omega, by go_num, ?_, below_on hbw (below_regrown wr dq osq)⟩
              intro j hj
              by_cases e : j = m + 1
              · subst e
                exact ⟨by rw [HX.out]; exact HR.out, fun _ => by rw [show m + 1 - 1 = m from rfl, HX.out, HY.out]; exact hge⟩
              · exact HEQ.out j (by omega)
            case measure => simp [intOf]; omega
          · have hd : decide (y.2 < x.2) = false := decide_eq_false hge
            have hno : Ve.fmd l = false := Ve.fmd_no (m + 1) hlt (fun h => hge (by have := h.2 (by omega); rw [show m + 1 - 1 = m from rfl, hx, hy] at this; exact this))
            have HNO := Lib.hid hno
            have HX := Lib.hid hx
            have HY := Lib.hid hy
            have CR := Lib.hid cR
            clear hno cR hx hcA hr hy
            go_wp2_with fail
            refine wp_region_quiet_below (by kernel_rfl) (by kernel_rfl) ?_
            repeat (first | go_big_quiet_step (exact CR.out _ _) | quiet_step (exact CR.out _ _))
            refine wpQuiet_nil ?_
            intro _ hw'
            obtain ⟨⟨dq, osq⟩, hw''⟩ := hw'
            subst hw''
            go_wp2
            go_ret
            exact ⟨by rw [HNO.out]; rfl, below_on hbw (below_regrown wr dq osq)⟩
    · have hkl : k = l.length := by omega
      subst hkl
      have hyes : Ve.fmd l = true := (Ve.fmd_iff l).2 HEQ.out
      have HY := Lib.hid hyes
      clear hyes
      go_wp2
      go_ret
      exact ⟨by rw [HY.out]; rfl, hbw⟩

end Go.Proofs.Ytcfkpjbakccgiaa
namespace Go.Proofs.Ytcfkpjbakccgiaa
open Go.RowKit

set_option maxRecDepth 100000 in
set_option maxHeartbeats 1600000 in
theorem rjoin_any (A : Option Addr) (c1 : Nat) (ls : List (List (Int × Int))) (w : World) (hl : ls.length ≤ 9223372036854775807) (h1 : Rows w A ls) :
    Calls Try.prog 85 #[.slice A ls.length c1] w (Gives (Ve.joinL ls) w) := by
  have hls := h1.len
  have H1 := Lib.hid h1
  clear h1
  go_enter Try.func85, Try.ntmps85
  go_wp2_with fail
  rw [← Ve.arr_zero]
  go_loopw [4] (fun s4 wr => ∃ k : Nat, k ≤ ls.length ∧ s4 = .int .i64 (k : Int) ∧ Blk wr w.heap.size 81 (Ve.arr (Ve.jnTo ls k)) ∧ Below w.heap.size w wr) (fun s4 _ => ls.length - (intOf s4).toNat)
  case atStart => exact ⟨0, Nat.zero_le _, rfl, Blk.new _ _ _, below_new (Below.refl _ _) _⟩
  case round =>
    obtain ⟨k, hk, rfl, hB, hbw⟩ := hrel
    by_cases hlt : k < ls.length
    · have hne : ls ≠ [] := fun e => by subst e; simp at hlt
      obtain ⟨b, off, hA, hcA⟩ := (H1.out.later hbw) hne
      obtain ⟨A', c', e0, hL⟩ := hcA k hlt
      have hlen := hls k hlt
      have hS := hL.stamps
      have H1' := H1
      subst hA
      have hi0 : (0 : Int) ≤ (k : Int) := by omega
      have hi1 : (k : Int) < (ls.length : Int) := by omega
      have hjs : ∀ n, Ve.jnTo ls (k + 1) n = Ve.mxTo (Ve.jnTo ls k) (Ve.cnt (ls.getD k [])) 64 n ∨ 64 ≤ n := fun n => by
        by_cases hn : n < 64
        · left
          unfold Ve.mxTo
          rw [if_pos hn]
          rfl
        · right; omega
      have n1 := fun w h => counts_any A' c' (ls.getD k []) w hlen h
      obtain ⟨f, hf⟩ : ∃ f, Ve.jnTo ls k = f := ⟨_, rfl⟩
      obtain ⟨g, hg⟩ : ∃ g, Ve.cnt (ls.getD k []) = g := ⟨_, rfl⟩
      obtain ⟨m, hm⟩ : ∃ m, (ls.getD k []).length = m := ⟨_, rfl⟩
      rw [hg] at n1
      rw [hf, hg] at hjs
      rw [hf] at hB
      rw [hm] at e0 n1
      have HJS := Lib.hid hjs
      have N1 := Lib.hid n1
      have HS := Lib.hid hS
      have HB := Lib.hid hB
      clear hjs n1 hS hB hcA hf hg hm hL
      go_wp2_with fail
      refine (N1.out _ HS.out).mono ?_
      rintro e w2 ⟨rfl, hb2⟩
      have hbx := below_on hbw hb2
      have B1 := HB.out.later hb2
      have hz := hbx.size
      have hlt1 := B1.lt
      clear N1 HS HB hb2
      go_wp2_with (refine wpList_store_row rfl 81 _ _ rfl w2.heap.size (Ve.arr g) rfl rfl 81 (Ve.arr fun _ => 0) ?s1 (by rw [Ve.arr_size]; exact info64) (by rw [Ve.arr_size, Ve.arr_size]) (one_arr _) ?_)
      case s1 =>
        rw [← Ve.arr_zero]
        exact Blk.new w2 _ _
      rw [← Ve.arr_zero]
      have B5 := (Blk.new w2 81 (Ve.arr fun _ => 0)).row (Ve.arr g)
      have B4 := (B1.alloc (.cells (Ve.arr fun _ => 0) 81)).rowFar (g' := w2.heap.size) (by omega) (Ve.arr g)
      have b6 := below_setRow (below_new hbx (.cells (Ve.arr fun _ => 0) 81)) (g := w2.heap.size) hz (Ve.arr g)
      go_loopw [6] (fun s6 wq => ∃ n : Nat, n ≤ 64 ∧ s6 = .int .i64 (n : Int) ∧ Blk wq w.heap.size 81 (Ve.arr (Ve.mxTo f g n)) ∧ Blk wq w2.heap.size 81 (Ve.arr g) ∧ Below w.heap.size w wq) (fun s6 _ => 64 - (intOf s6).toNat)
      case atStart => exact ⟨0, by omega, rfl, B4.same (fun i _ => by unfold Ve.mxTo; rw [if_neg (by omega)]), B5, b6⟩
      case round =>
        obtain ⟨n, hn, rfl, hC, hD, hbq⟩ := hrel
        clear B5 B4 b6 B1
        by_cases hlt2 : n < 64
        · have x0 := hC.arr_cell n hlt2
          have x1 := hC.free n
          have y0 := hD.arr_cell n hlt2
          rw [show Ve.mxTo f g n n = f n from by unfold Ve.mxTo; rw [if_neg (by omega)]] at x0
          have hj0 : (0 : Int) ≤ (n : Int) := by omega
          have hj1 : (n : Int) < 64 := by omega
          by_cases hgt : f n < g n
          · have B7 := (hC.arr_put n hlt2 (g n)).same (f' := Ve.mxTo f g (n + 1)) (fun i _ => Ve.mx_step f g n _ (if_pos hgt).symm i)
            have B8 := hD.far (p := ⟨w.heap.size, n, none⟩) (by show w2.heap.size ≠ w.heap.size; omega) (.int .i64 (g n))
            have HB7 := Lib.hid B7
            have HB8 := Lib.hid B8
            have hbz := hbq.setCell (p := ⟨w.heap.size, n, none⟩) (Nat.le_refl _) (.int .i64 (g n))
            clear hC hD B7 B8
            go_wp2_with fail
            go_region
            go_wp2_with fail
            go_roundw
            case rel => exact ⟨n + 1, by omega, by go_num, HB7.out.drew, HB8.out.drew, hbz.drew⟩
            case measure => simp [intOf]; omega
          · have hle : g n ≤ f n := by omega
            have B7 := (hC.arr_put n hlt2 (f n)).same (f' := Ve.mxTo f g (n + 1)) (fun i _ => Ve.mx_step f g n _ (if_neg hgt).symm i)
            have B8 := hD.far (p := ⟨w.heap.size, n, none⟩) (by show w2.heap.size ≠ w.heap.size; omega) (.int .i64 (f n))
            have HB7 := Lib.hid B7
            have HB8 := Lib.hid B8
            have hbz := hbq.setCell (p := ⟨w.heap.size, n, none⟩) (Nat.le_refl _) (.int .i64 (f n))
            clear hC hD B7 B8
            go_wp2_with fail
            go_region
            go_wp2_with fail
            go_roundw
            case rel => exact ⟨n + 1, by omega, by go_num, HB7.out.drew, HB8.out.drew, hbz.drew⟩
            case measure => simp [intOf]; omega
        · have hn64 : n = 64 := by omega
          subst hn64
          have B9 := hC.same (f' := Ve.jnTo ls (k + 1)) (fun i hi => by
            rcases HJS.out i with h | h
            · exact h.symm
            · omega)
          have HB9 := Lib.hid B9
          clear hC hD B9
          go_wp2_with fail
          go_roundw
          case rel => exact ⟨k + 1, by omega, by go_num, HB9.out, hbq⟩
          case measure => simp [intOf]; omega
    · have hkl : k = ls.length := by omega
      subst hkl
      have HB := Lib.hid hB
      clear hB
      go_wp2_with (refine wpList_load_row rfl 81 _ rfl w.heap.size rfl 81 _ (0, 0) _ HB.out Try.underlying81 rfl (by rw [Ve.arr_size]; exact info64) ?_)
      refine (of_any _ _).mono ?_
      rintro e w3 ⟨v, rfl, ho, hb3⟩
      have HO := Lib.hid ho
      have hz := hbw.size
      clear ho
      go_wp2
      go_ret
      exact ⟨_, rfl, own_base HO.out hz, below_on hbw hb3⟩

end Go.Proofs.Ytcfkpjbakccgiaa
namespace Go.Proofs.Ytcfkpjbakccgiaa
open Go.RowKit

set_option maxHeartbeats 1600000 in
theorem rtwo_any (A B : Option Addr) (c1 c2 : Nat) (l r : List (Int × Int)) (w : World) (h1 : OneL w A c1 l) (h2 : OneL w B c2 r) :
    Calls Try.prog 59 #[.slice A l.length c1, .slice B r.length c2] w (Gives (Ve.joinL [l, r]) w) := by
  have hb0 := below_new (Below.refl w.heap.size w) (.cells #[.slice A l.length c1, .slice B r.length c2] 23)
  have hB := Blk.new w 23 #[.slice A l.length c1, .slice B r.length c2]
  have hR : Rows (w.alloc (.cells #[.slice A l.length c1, .slice B r.length c2] 23)) (some ⟨w.heap.size, 0, none⟩) [l, r] := fun _ => ⟨w.heap.size, 0, rfl, fun k hk => by
    have hk2 : k = 0 ∨ k = 1 := by simp at hk; omega
    rcases hk2 with rfl | rfl
    · exact ⟨A, c1, hB.cell rfl, h1.later hb0⟩
    · exact ⟨B, c2, hB.cell rfl, h2.later hb0⟩⟩
  have hj := rjoin_any (some ⟨w.heap.size, 0, none⟩) 2 [l, r] (w.alloc (.cells #[.slice A l.length c1, .slice B r.length c2] 23)) (by simp) hR
  have HJ := Lib.hid hj
  clear hj hR hB h1 h2
  go_enter Try.func59, Try.ntmps59
  go_wp2_with fail
  refine HJ.out.mono ?_
  rintro e w1 ⟨v, rfl, ho, hb1⟩
  have HO := Lib.hid ho
  clear ho
  go_wp2
  go_ret
  exact ⟨_, rfl, own_base HO.out (by simp), below_on hb0 hb1⟩

end Go.Proofs.Ytcfkpjbakccgiaa
namespace Go.Proofs.Ytcfkpjbakccgiaa
open Go.RowKit

theorem Gives.one {l : List (Int × Int)} {w w' : World} {e : Ending} (h : Gives l w e w') : ∃ A c, e = .returned (.slice A l.length c) ∧ OneL w' A c l ∧ Below w.heap.size w w' := by
  obtain ⟨v, rfl, ho, hb⟩ := h
  obtain ⟨A, c, rfl, h1⟩ := OneL.of_own ho
  exact ⟨A, c, rfl, h1, hb⟩
theorem infoNt : (Try.prog.info? 38).map (·.size) = some 4 := by kernel_rfl
theorem infoWr : (Try.prog.info? 102).map (fun i => (i.zero, i.size, i.bytes)) = some (some (.agg #[.int .i64 0, .int .i64 0, .int .i64 0, .bool false]), 4, 32) := by kernel_rfl

set_option maxRecDepth 100000 in
set_option maxHeartbeats 3200000 in
theorem ncopy_any (S E B V : Option Addr) (cs ce cb cv : Nat) (n : Note) (w : World) (hls : n.s.length * 16 ≤ 140737488355328) (hle : n.e.length * 16 ≤ 140737488355328) (hlb : n.b.length * 16 ≤ 140737488355328) (hlw : n.ws.length * 32 ≤ 140737488355328)
    (h : NoteAt w S E B V cs ce cb cv n) : Calls Try.prog 22 #[.agg (noteCells S E B V cs ce cb cv n)] w (AnsN n w) := by
  obtain ⟨i0, hI, hz0, hz1, hz2⟩ := info_parts infoWr
  have hW0 : Blk (w.alloc (.cells (noteCells S E B V cs ce cb cv n) 38)) w.heap.size 38 (noteCells S E B V cs ce cb cv n) := Blk.new w _ _
  go_enter Try.func22, Try.ntmps22
  go_wp2_with fail
  obtain ⟨W, hW⟩ : ∃ W, (w.alloc (.cells (noteCells S E B V cs ce cb cv n) 38)).alloc (.cells #[.slice none 0 0, .slice none 0 0, .slice none 0 0, .slice none 0 0] 38) = W := ⟨_, rfl⟩
  have hb0 : Below w.heap.size w W := by rw [← hW]; exact below_new (below_new (Below.refl _ _) _) _
  have hB0 : Blk W w.heap.size 38 (noteCells S E B V cs ce cb cv n) := by rw [← hW]; exact hW0.alloc _
  have hB1 : Blk W (w.heap.size + 1) 38 #[.slice none 0 0, .slice none 0 0, .slice none 0 0, .slice none 0 0] := by
    rw [← hW, show w.heap.size + 1 = (w.alloc (.cells (noteCells S E B V cs ce cb cv n) 38)).heap.size from by simp]
    exact Blk.new _ _ _
  rw [hW]
  have HN := Lib.hid (h.later hb0)
  have c0 : W.cell? ⟨w.heap.size, 0, none⟩ = some (.slice S n.s.length cs) := hB0.cell rfl
  have c1 : W.cell? ⟨w.heap.size, 1, none⟩ = some (.slice E n.e.length ce) := hB0.cell rfl
  have c2 : W.cell? ⟨w.heap.size, 2, none⟩ = some (.slice B n.b.length cb) := hB0.cell rfl
  have c3 : W.cell? ⟨w.heap.size, 3, none⟩ = some (.slice V n.ws.length cv) := hB0.cell rfl
  have hz := hb0.size
  have N0 := Lib.hid (fun wx (hb : Below W.heap.size W wx) => (rcopy_any S cs n.s wx hls (HN.out.hs.later hb).2.2.1 (HN.out.hs.later hb).2.2.2).mono fun _ _ hg => hg.one)
  have N1 := Lib.hid (fun wx (hb : Below W.heap.size W wx) => (rcopy_any E ce n.e wx hle (HN.out.he.later hb).2.2.1 (HN.out.he.later hb).2.2.2).mono fun _ _ hg => hg.one)
  have N2 := Lib.hid (fun wx (hb : Below W.heap.size W wx) => (scopy_any B cb n.b wx hlb (HN.out.hb.later hb).2.2.1 (HN.out.hb.later hb).2.2.2).mono fun _ _ hg => hg.one)
  clear hW hW0 h
  refine wp_region_facts 13 (by kernel_rfl) (by kernel_rfl)
    (fun v => { tmps := #[.agg (noteCells S E B V cs ce cb cv n), .pointer (some ⟨w.heap.size, 0, none⟩), .pointer (some ⟨w.heap.size + 1, 0, none⟩), v 0, v 1, v 2, v 3, v 4, v 5, v 6, v 7, v 8, v 9, v 10, v 11, v 12, undef], defers := [] }) (fun _ => undef)
    (fun i x wx => match i with
      | 0 => x = .pointer (some ⟨w.heap.size, 0, none⟩)
      | 1 => x = .slice S n.s.length cs
      | 2 => ∃ A c, x = .slice A n.s.length c ∧ OneL wx A c n.s
      | 3 => x = .pointer (some ⟨w.heap.size, 1, none⟩)
      | 4 => x = .slice E n.e.length ce
      | 5 => ∃ A c, x = .slice A n.e.length c ∧ OneL wx A c n.e
      | 6 => x = .pointer (some ⟨w.heap.size, 2, none⟩)
      | 7 => x = .slice B n.b.length cb
      | 8 => ∃ A c, x = .slice A n.b.length c ∧ OneL wx A c n.b
      | 9 => ∃ g, x = .slice (some ⟨g, 0, none⟩) 0 0 ∧ Blk wx g 102 #[] ∧ w.heap.size ≤ g
      | 10 => x = .pointer (some ⟨w.heap.size, 3, none⟩)
      | 11 => x = .slice V n.ws.length cv
      | 12 => ∃ A c, x = .slice A n.ws.length c ∧ OneW wx A c n.ws
      | _ => True)
    (fun w1 w2 => Below w1.heap.size w1 w2) (fun h1 h2 => below_on h1 h2) (fun _ => Below.refl _ _) (Below.drew (Below.refl _ _)) ?stab ?step ?done
  case stab =>
    rintro i x w1 w2 h hb
    match i, h with
    | 0, h => exact h
    | 1, h => exact h
    | 2, h => obtain ⟨A, c, h1, h2⟩ := h; exact ⟨A, c, h1, h2.later hb⟩
    | 3, h => exact h
    | 4, h => exact h
    | 5, h => obtain ⟨A, c, h1, h2⟩ := h; exact ⟨A, c, h1, h2.later hb⟩
    | 6, h => exact h
    | 7, h => exact h
    | 8, h => obtain ⟨A, c, h1, h2⟩ := h; exact ⟨A, c, h1, h2.later hb⟩
    | 9, h => obtain ⟨g, h1, h2, h3⟩ := h; exact ⟨g, h1, h2.later hb, h3⟩
    | 10, h => exact h
    | 11, h => exact h
    | 12, h => obtain ⟨A, c, h1, h2⟩ := h; exact ⟨A, c, h1, h2.later hb⟩
    | i + 13, _ => trivial
  case step =>
    intro i hi v w' hb hd
    match i, hi with
    | 0, _ =>
      refine wpOp_one rfl ?_
      clear hd
      go_wp2
      exact ⟨_, by simp [upd]; done, Below.refl _ _, rfl⟩
    | 1, _ =>
      have h0 : v 0 = _ := hd 0 (List.elem_iff.1 (by kernel_rfl))
      refine wpOp_one rfl ?_
      clear hd
      rw [h0]
      have q := cell_later hb c0
      go_wp2
      exact ⟨_, by simp [upd, h0]; done, Below.refl _ _, rfl⟩
    | 2, _ =>
      have h1 : v 1 = _ := hd 1 (List.elem_iff.1 (by kernel_rfl))
      refine wpOp_one rfl ?_
      clear hd
      rw [h1]
      go_wp2_with fail
      refine (N0.out _ hb).mono ?_
      rintro e w'' hg
      obtain ⟨A, c, rfl, ho, b⟩ := hg
      go_wp2
      exact ⟨_, by simp [upd, h1]; done, b, A, c, rfl, ho⟩
    | 3, _ =>
      refine wpOp_one rfl ?_
      clear hd
      go_wp2
      exact ⟨_, by simp [upd]; done, Below.refl _ _, rfl⟩
    | 4, _ =>
      have h3 : v 3 = _ := hd 3 (List.elem_iff.1 (by kernel_rfl))
      refine wpOp_one rfl ?_
      clear hd
      rw [h3]
      have q := cell_later hb c1
      go_wp2
      exact ⟨_, by simp [upd, h3]; done, Below.refl _ _, rfl⟩
    | 5, _ =>
      have h4 : v 4 = _ := hd 4 (List.elem_iff.1 (by kernel_rfl))
      refine wpOp_one rfl ?_
      clear hd
      rw [h4]
      go_wp2_with fail
      refine (N1.out _ hb).mono ?_
      rintro e w'' hg
      obtain ⟨A, c, rfl, ho, b⟩ := hg
      go_wp2
      exact ⟨_, by simp [upd, h4]; done, b, A, c, rfl, ho⟩
    | 6, _ =>
      refine wpOp_one rfl ?_
      clear hd
      go_wp2
      exact ⟨_, by simp [upd]; done, Below.refl _ _, rfl⟩
    | 7, _ =>
      have h6 : v 6 = _ := hd 6 (List.elem_iff.1 (by kernel_rfl))
      refine wpOp_one rfl ?_
      clear hd
      rw [h6]
      have q := cell_later hb c2
      go_wp2
      exact ⟨_, by simp [upd, h6]; done, Below.refl _ _, rfl⟩
    | 8, _ =>
      have h7 : v 7 = _ := hd 7 (List.elem_iff.1 (by kernel_rfl))
      refine wpOp_one rfl ?_
      clear hd
      rw [h7]
      go_wp2_with fail
      refine (N2.out _ hb).mono ?_
      rintro e w'' hg
      obtain ⟨A, c, rfl, ho, b⟩ := hg
      go_wp2
      exact ⟨_, by simp [upd, h7]; done, b, A, c, rfl, ho⟩
    | 9, _ =>
      refine wpOp_one rfl ?_
      clear hd
      have hz := hb.size
      go_wp2
      exact ⟨_, by simp [upd]; done, below_new (Below.refl _ _) _, w'.heap.size, rfl, Blk.new _ _ _, by omega⟩
    | 10, _ =>
      refine wpOp_one rfl ?_
      clear hd
      go_wp2
      exact ⟨_, by simp [upd]; done, Below.refl _ _, rfl⟩
    | 11, _ =>
      have h10 : v 10 = _ := hd 10 (List.elem_iff.1 (by kernel_rfl))
      refine wpOp_one rfl ?_
      clear hd
      rw [h10]
      have q := cell_later hb c3
      go_wp2
      exact ⟨_, by simp [upd, h10]; done, Below.refl _ _, rfl⟩
    | 12, _ =>
      obtain ⟨g, h9, hg, hgb⟩ := hd 9 (List.elem_iff.1 (by kernel_rfl))
      have h11 : v 11 = _ := hd 11 (List.elem_iff.1 (by kernel_rfl))
      refine wpOp_one rfl ?_
      clear hd
      rw [h9, h11]
      have hv := HN.out.hv.later hb
      have HV := Lib.hid hv
      clear hv
      refine wpList_append_fresh _ rfl _ _ 36 rfl w.heap.size g 102 i0 (.agg #[.int .i64 0, .int .i64 0, .int .i64 0, .bool false]) 4 32 Try.underlying36 hI hz0 hz1 hz2 rfl (by decide) rfl hg hgb V n.ws.length cv HV.out.2.2.1 (Nt.wrCells n.ws) rfl (Nt.wrCells_length n.ws) HV.out.2.2.2 (Nt.wrCells_one n.ws) ?c3 ?c4 ?_
      case c3 => have := HV.out.1; have := HV.out.2.1; omega
      case c4 => exact hlw
      intro v' w'' hown b
      obtain ⟨A, c, rfl, ho⟩ := OneW.of_own hown
      clear hown
      go_wp2
      exact ⟨_, by simp [upd, h9, h11, Act.put]; done, b, A, c, rfl, ho⟩
  case done =>
    intro v w' hb hf
    obtain ⟨A2, k2, h2, o2⟩ := hf 2 (by omega)
    obtain ⟨A5, k5, h5, o5⟩ := hf 5 (by omega)
    obtain ⟨A8, k8, h8, o8⟩ := hf 8 (by omega)
    obtain ⟨A12, k12, h12, o12⟩ := hf 12 (by omega)
    have HO := Lib.hid (NoteAt.mk o2 o5 o8 o12)
    have hB := hB1.later hb
    have hbw := below_on hb0 hb
    clear o2 o5 o8 o12 hf
    simp only [List.drop_succ_cons, List.drop_zero]
    rw [h2, h5, h8, h12]
    have d0 := hB.cell (i := 0) rfl
    have d0f := hB.free 0
    have d1f := hB.free 1
    have d2f := hB.free 2
    have d3f := hB.free 3
    have d1 := hB.cell (i := 1) rfl
    have d2 := hB.cell (i := 2) rfl
    have d3 := hB.cell (i := 3) rfl
    go_wp2
    have hB4 : Blk ((((w'.setCell ⟨w.heap.size + 1, 0, none⟩ (.slice A2 n.s.length k2)).setCell ⟨w.heap.size + 1, 1, none⟩ (.slice A5 n.e.length k5)).setCell ⟨w.heap.size + 1, 2, none⟩ (.slice A8 n.b.length k8)).setCell ⟨w.heap.size + 1, 3, none⟩ (.slice A12 n.ws.length k12)) (w.heap.size + 1) 38 (noteCells A2 A5 A8 A12 k2 k5 k8 k12 n) := (((hB.put 0 _).put 1 _).put 2 _).put 3 _
    have hb4 : ∀ x0 x1 x2 x3, Below w.heap.size w ((((w'.setCell ⟨w.heap.size + 1, 0, none⟩ x0).setCell ⟨w.heap.size + 1, 1, none⟩ x1).setCell ⟨w.heap.size + 1, 2, none⟩ x2).setCell ⟨w.heap.size + 1, 3, none⟩ x3) := fun x0 x1 x2 x3 => (((hbw.setCell (p := ⟨w.heap.size + 1, 0, none⟩) (by simp) _).setCell (p := ⟨w.heap.size + 1, 1, none⟩) (by simp) _).setCell (p := ⟨w.heap.size + 1, 2, none⟩) (by simp) _).setCell (p := ⟨w.heap.size + 1, 3, none⟩) (by simp) _
    have hN4 := HO.out.puts hB ⟨rfl, rfl, rfl, rfl⟩ (.slice A2 n.s.length k2) (.slice A5 n.e.length k5) (.slice A8 n.b.length k8) (.slice A12 n.ws.length k12) ⟨rfl, rfl, rfl⟩
    exact bodyPost_ret (v := .agg (noteCells A2 A5 A8 A12 k2 k5 k8 k12 n)) (results_cell_row rfl _ _ (w.heap.size + 1) 38 (noteCells A2 A5 A8 A12 k2 k5 k8 k12 n) (0, 0) _ rfl hB4 Try.underlying38 rfl infoNt) rfl ⟨_, _, _, _, _, _, _, _, rfl, hN4, hb4 _ _ _ _⟩

end Go.Proofs.Ytcfkpjbakccgiaa
