/-
  SpanWalks walked from the contract of span's All: the function that it answers comes by the objects of the list, rising.
-/
import Derived.RangeFuncFrom
import Derived.RangeFuncNested
import Derived.RangeFuncBound
import Derived.RangeFuncCalls
import Derived.RangeFuncLeaves
import Derived.Shelf.Abstract
import Derived.Shelf.RegionOpen
import Derived.OwnWalkIn
import Derived.TacticsInMore
import Derived.LoopNIn
import Derived.LoopIn
import Derived.Deep.RegionWith
import Derived.Test.YtnnmcnbpnfegpaaSpLawTwos
import Derived.Test.YtnnmcnbpnfegpaaSpWalkPlain
import Derived.Test.YtnnmcnbpnfegpaaRounds
import Derived.Test.YtnnmcnbpnfegpaaSpKeep
namespace Go.Proofs.Ytnnmcnbpnfegpaa
open Go.RowKit Go.Shelf Fb
attribute [local go_sem] Oper.semAt_some

/-- What is asked of All. -/
def SpAllSpec : Prop := ∀ (A : Option Addr) (c : Nat) (l : List (Int × Int)) (w0 w : World), OneL w0 A c l → Below w0.heap.size w0 w →
  Calls Try.prog 31 #[.slice A l.length c] w fun e w1 => ∃ gf lb, e = .returned (.func (.func gf) #[] lb) ∧ Below w.heap.size w w1 ∧ (∀ args w, (callFunc gf args).run Try.prog w = .ok (.enter gf args) w) ∧
    SeqStopsK Fence.wide 2 Try.prog gf lb told1 (KeepC w0.heap.size w.heap.size) (· = Sp.obL (Sp.inL l)) (· <+: Sp.obL (Sp.inL l)) 256 w1

theorem wp_only {P : Program} {code : Code} {K : Act → World → Prop} {Q : Exit → Act → World → Prop} {a : Act} {w : World} (h : code.wp P (Exit.then K (fun _ _ _ => False)) a w) : code.wp P (Exit.then K Q) a w :=
  wp_mono h fun e a w hq => by cases e <;> first | exact hq | exact hq.elim

set_option maxRecDepth 100000 in
set_option maxHeartbeats 3200000 in
theorem lawWalks_any (S : SpanSpec) (T : SpAllSpec) (A : Option Addr) (c : Nat) (l : List (Int × Int)) (most : Int) (w : World) (h1 : OneL w A c l) :
    Calls Try.prog 7 #[.slice A l.length c, .int .i64 most] w (Says (.bool true) w) := by
  refine (callsIn_wide (n := 3)).1 ?_
  refine callsIn_of_wp_marks Try.func7 rfl trivial ?_ rfl
  simp only [Try.ntmps7, List.size_toArray, List.length_cons, List.length_nil, Nat.reduceAdd, Nat.reduceSub, Array.replicate_succ, Array.replicate_zero, List.push_toArray, List.append_toArray, List.nil_append, List.cons_append]
  have N0 := Lib.hid (fun wx => salive_any S wx)
  have n1 := fun wx (hx : OneL wx A c l) => set_any A c l wx h1.len hx.stamps
  have n2 := T A c l w
  have n3 := fun wx (hx : OneL wx A c l) => ssize_any A c l wx hx
  have hlen := Sp.obL_len (Sp.inL l)
  have hsz := Sp.sz_le2 (Sp.inL l)
  have hnx := Sp.next_iff (Sp.inL l)
  have hbd := Sp.lastOf_bd (Sp.inL l)
  obtain ⟨f, hf⟩ : ∃ f, Sp.inL l = f := ⟨_, rfl⟩
  rw [hf] at n1 n2 n3 hlen hsz hnx hbd
  obtain ⟨J, hJ⟩ : ∃ J, Sp.obL f = J := ⟨_, rfl⟩
  rw [hJ] at n2 hlen hnx hbd
  have N1 := Lib.hid n1
  have N2 := Lib.hid n2
  have N3 := Lib.hid n3
  have NX := Lib.hid hnx
  have BD := Lib.hid hbd
  have H1 := Lib.hid h1
  have hb0 := below_new (below_new (Below.refl w.heap.size w) (.cells #[.int .i64 most] 3)) (.cells #[.bool false] 4)
  have hB0 := (Blk.new w 3 #[.int .i64 most]).alloc (.cells #[.bool false] 4)
  have hB1 := Blk.new (w.alloc (.cells #[.int .i64 most] 3)) 4 #[.bool false]
  rw [show (w.alloc (.cells #[.int .i64 most] 3)).heap.size = w.heap.size + 1 from by simp] at hB1
  obtain ⟨W, hW⟩ : ∃ W, (w.alloc (.cells #[.int .i64 most] 3)).alloc (.cells #[.bool false] 4) = W := ⟨_, rfl⟩
  rw [hW] at hb0 hB0 hB1
  have HW := Lib.hid hW
  clear n1 n2 n3 h1 hJ hW hf hnx hbd
  gi_wp2_with fail
  rw [HW.out]
  clear HW
  refine ⟨trivial, (callsIn_wide.2 (N0.out _)).mono ?_⟩
  rintro e w1 ⟨rfl, b1⟩
  have bb1 := below_on hb0 b1
  have C0 := hB0.later b1
  have C1 := hB1.later b1
  have L1 := Lib.hid (H1.out.later bb1)
  clear N0 hB0 hB1
  gi_wp2_with fail
  refine ⟨trivial, (callsIn_wide.2 (N1.out _ L1.out)).mono ?_⟩
  rintro e w2 ⟨rfl, b2⟩
  have bb2 := below_on bb1 b2
  have D0 := C0.later b2
  have D1 := C1.later b2
  have hlt1 := D1.lt
  have L2 := Lib.hid (L1.out.later b2)
  have HD0 := Lib.hid D0
  have HD1 := Lib.hid D1
  clear C0 C1 L1 N1
  have E5 := Blk.new w2 38 (Sp.arr fun _ => false)
  rw [← marks_zero] at E5
  gi_wp2_with (refine in_store_row rfl 38 _ _ rfl w2.heap.size _ rfl rfl 38 _ E5 (by rw [Sp.arr_size]; exact info256) (by rw [marks_zero, Sp.arr_size, Sp.arr_size]) (one_marks _) ?_)
  have E6 := (E5.row (Sp.arr f)).alloc (.cells #[.int .i64 (-1)] 3)
  have hzz : ((w2.alloc (.cells Try.zeroCells38 38)).setRow w2.heap.size (Sp.arr f)).heap.size = w2.heap.size + 1 := by simp
  have F5 := E6.alloc (.cells #[.int .i64 0] 3)
  have F6 := (Blk.new ((w2.alloc (.cells Try.zeroCells38 38)).setRow w2.heap.size (Sp.arr f)) 3 #[.int .i64 (-1)]).alloc (.cells #[.int .i64 0] 3)
  have F7 := Blk.new (((w2.alloc (.cells Try.zeroCells38 38)).setRow w2.heap.size (Sp.arr f)).alloc (.cells #[.int .i64 (-1)] 3)) 3 #[.int .i64 0]
  have bb3 := below_new (below_new (below_setRow (below_new (Below.refl w2.heap.size w2) (.cells Try.zeroCells38 38)) (Nat.le_refl _) (Sp.arr f)) (.cells #[.int .i64 (-1)] 3)) (.cells #[.int .i64 0] 3)
  rw [hzz] at F6
  rw [show (((w2.alloc (.cells Try.zeroCells38 38)).setRow w2.heap.size (Sp.arr f)).alloc (.cells #[.int .i64 (-1)] 3)).heap.size = w2.heap.size + 1 + 1 from by simp] at F7
  have z3 : ((((w2.alloc (.cells Try.zeroCells38 38)).setRow w2.heap.size (Sp.arr f)).alloc (.cells #[.int .i64 (-1)] 3)).alloc (.cells #[.int .i64 0] 3)).heap.size = w2.heap.size + 3 := by simp
  obtain ⟨W3, hW3⟩ : ∃ W3, (((w2.alloc (.cells Try.zeroCells38 38)).setRow w2.heap.size (Sp.arr f)).alloc (.cells #[.int .i64 (-1)] 3)).alloc (.cells #[.int .i64 0] 3) = W3 := ⟨_, rfl⟩
  rw [hW3] at F5 F6 F7 bb3 z3 ⊢
  clear hW3 E5 E6 hzz D0 D1
  refine ⟨trivial, (callsIn_wide.2 (N2.out W3 H1.out (below_on bb2 bb3))).mono ?_⟩
  rintro e w4 ⟨gf, lb, rfl, b4, hent, hseq⟩
  have G5 := F5.later b4
  have G6 := F6.later b4
  have G7 := F7.later b4
  have bb4 := below_on bb3 b4
  have z4 := b4.size
  have g6 := G6.cell (i := 0) rfl
  have g6f := G6.free 0
  have g7 := G7.cell (i := 0) rfl
  have g7f := G7.free 0
  have hz2 := bb2.size
  clear F5 F6 F7 G6 G7 N2 b4
  gi_wp2_with fail
  refine wpIn_rangeFunc_ownF rfl (by omega) (gf := gf) (lb := lb) rfl trivial hent hseq KeepC.trans (fun W l' o o' _ h1 h2 _ => KeepC.mark W l' o o' h1 h2) (Below.refl _ _) (fun _ => rfl)
    (fun pre W => ((pre <+: J ∧ W.cell? ⟨w2.heap.size + 1, 0, none⟩ = some (.int .i64 (Sp.lastOf pre)) ∧ W.frozen? ⟨w2.heap.size + 1, 0, none⟩ = false ∧ W.cell? ⟨w2.heap.size + 1 + 1, 0, none⟩ = some (.int .i64 (pre.length : Int)) ∧ W.frozen? ⟨w2.heap.size + 1 + 1, 0, none⟩ = false) ∧ Blk W w2.heap.size 38 (Sp.arr f)) ∧ Below w2.heap.size w2 W)
    (fun c pre W => (c = .ret ∧ (pre <+: J → W.cell? ⟨w.heap.size + 1, 0, none⟩ = some (.bool true))) ∧ Below w.heap.size w W)
    ?hI ?hIx ⟨⟨⟨List.nil_prefix, g6, g6f, g7, g7f⟩, G5⟩, bb4⟩
    (fun x => { tmps := #[.slice A l.length c, .int .i64 most, undef, .pointer (some ⟨w.heap.size, 0, none⟩), .pointer (some ⟨w.heap.size + 1, 0, none⟩), .pointer (some ⟨w2.heap.size, 0, none⟩), .pointer (some ⟨w2.heap.size + 1, 0, none⟩), .pointer (some ⟨w2.heap.size + 1 + 1, 0, none⟩), .int .i64 x, undef, .bool true, .bool false, .slice A l.length c, .agg (Sp.arr f), .slice A l.length c, .func (.func gf) #[] lb, .int .i64 x, undef, undef, undef, undef, undef, undef, undef, undef, undef, undef, undef, undef, undef, undef, undef, undef, undef, undef, undef, undef, undef, undef, undef, undef, undef, undef, undef, undef, undef, undef, undef, undef, undef], defers := [] }) ?assign ?body ?done ?stop
  case hI => exact OwnFrom.and (OwnFrom.and (Own.from (fun s A B row hs hg hr => ⟨hs.1, cell_kept hs.2.1 hg hr, (frozen_kept hs.2.1 hg hr).trans hs.2.2.1, cell_kept hs.2.2.2.1 hg hr, (frozen_kept hs.2.2.2.1 hg hr).trans hs.2.2.2.2⟩) _) (Own.from (blk_own _ _ fun _ => Sp.arr f) _)) (ownFrom_below (Nat.le_refl _) (by omega))
  case hIx => exact fun c' => OwnFrom.and (Own.from (fun s A B row hs hg hr => ⟨hs.1, fun h => cell_kept (hs.2 h) hg hr⟩) _) (ownFrom_below (Nat.le_refl _) (by omega))
  case assign =>
    intro l' x W K hK
    unfold told1
    gi_wp2
    exact hK
  case body =>
    rintro l' pre x W ⟨⟨⟨hp, hl, hlf, hk, hkf⟩, hB⟩, hBw⟩ hlen2
    have R0 := HD0.out.later hBw
    have R1 := HD1.out.later hBw
    have r0 := R0.cell (i := 0) rfl
    have r1 := R1.cell (i := 0) rfl
    have r1f := R1.free 0
    have HR1 := Lib.hid R1
    have hbw := below_on bb2 hBw
    have hpl := hp.length_le
    obtain ⟨bd1, bd2⟩ := BD.out pre hp
    have hin := NX.out pre x hp
    obtain ⟨la, hla⟩ : ∃ la, Sp.lastOf pre = la := ⟨_, rfl⟩
    rw [hla] at hl bd1 bd2 hin
    have HIN := Lib.hid hin
    have HB := Lib.hid hB
    have hno : ∀ v, ¬ (pre ++ [x] <+: J) → KeepsOthers W (W.setCell ⟨w.heap.size + 1, 0, none⟩ v) ∧ (pre ++ [x] <+: J → (W.setCell ⟨w.heap.size + 1, 0, none⟩ v).cell? ⟨w.heap.size + 1, 0, none⟩ = some (.bool true)) ∧ Below w.heap.size w (W.setCell ⟨w.heap.size + 1, 0, none⟩ v) := fun v hne' =>
      ⟨KeepsOthers.setCell _ _ _, fun h => absurd h hne', hbw.setCell (p := ⟨w.heap.size + 1, 0, none⟩) (by simp) _⟩
    have HNO := Lib.hid hno
    clear R0 R1 HD0 HD1 g6 g6f g7 g7f hp hin hno hB hla
    by_cases c1 : x ≤ la
    · have hd : decide (x ≤ la) = true := decide_eq_true c1
      have HQ := Lib.hid (HNO.out (.bool false) (fun h => by have := (HIN.out.1 h).1; omega))
      gi_wp2
      exact ⟨HQ.out.1, ⟨rfl, HQ.out.2.1⟩, HQ.out.2.2⟩
    · have hd : decide (x ≤ la) = false := decide_eq_false c1
      by_cases c2 : 255 < x
      · have hd2 : decide (255 < x) = true := decide_eq_true c2
        have HQ := Lib.hid (HNO.out (.bool false) (fun h => by have := (HIN.out.1 h).2.1; omega))
        gi_wp2
        exact ⟨HQ.out.1, ⟨rfl, HQ.out.2.1⟩, HQ.out.2.2⟩
      · have hd2 : decide (255 < x) = false := decide_eq_false c2
        obtain ⟨k, rfl⟩ : ∃ k : Nat, x = (k : Int) := ⟨x.toNat, by omega⟩
        have hk256 : k < 256 := by omega
        have hm := HB.out.marks_cell k hk256
        have hj0 : (0 : Int) ≤ (k : Int) := by omega
        have hj1 : (k : Int) < 256 := by omega
        cases hfk : f k
        · rw [hfk] at hm
          have HQ := Lib.hid (HNO.out (.bool false) (fun h => by have h2 := (HIN.out.1 h).2.2.1; rw [show ((k : Int)).toNat = k from rfl, hfk] at h2; cases h2))
          clear hfk
          gi_wp2
          exact ⟨HQ.out.1, ⟨rfl, HQ.out.2.1⟩, HQ.out.2.2⟩
        · rw [hfk] at hm
          have HFK := Lib.hid hfk
          clear hfk
          obtain ⟨n0, hn0⟩ : ∃ n0 : Nat, la + 1 = (n0 : Int) := ⟨(la + 1).toNat, by omega⟩
          gi_wp2_with fail
          gi_loopw [9] (fun s9 wq => ∃ n : Nat, s9 = .int .i64 (n : Int) ∧ la < (n : Int) ∧ n ≤ k ∧ (∀ q : Nat, la < (q : Int) → q < n → f q = false) ∧ wq = W) (fun s9 _ => k - (intOf s9).toNat)
          case atStart => exact ⟨n0, by first | rfl | rw [hn0], by omega, by omega, (fun q h1 h2 => by omega), rfl⟩
          case round =>
            obtain ⟨n, rfl, hn1, hn2, hall, rfl⟩ := hrel
            have HALL := Lib.hid hall
            clear hall
            by_cases hlt : n < k
            · have hm2 := HB.out.marks_cell n (by omega)
              have hi0 : (0 : Int) ≤ (n : Int) := by omega
              have hi1 : (n : Int) < 256 := by omega
              have hi2 : (n : Int) < (k : Int) := by omega
              cases hfn : f n
              · rw [hfn] at hm2
                have HFN := Lib.hid hfn
                clear hfn
                gi_wp2
                go_roundw
                case rel =>
                  refine ⟨n + 1, by first | rfl | go_num, by omega, by omega, fun q h1 h2 => ?_, by first | rfl | trivial⟩
                  by_cases e : q = n
                  · rw [e]; exact HFN.out
                  · exact HALL.out q h1 (by omega)
                case measure =>
                  simp [intOf]
                  omega
              · rw [hfn] at hm2
                have HQ := Lib.hid (HNO.out (.bool false) (fun h => by have h2 := (HIN.out.1 h).2.2.2 n hn1 hi2; rw [hfn] at h2; cases h2))
                clear hfn
                gi_wp2
                exact ⟨HQ.out.1, ⟨rfl, HQ.out.2.1⟩, HQ.out.2.2⟩
            · obtain rfl : n = k := by omega
              have hyes := HIN.out.2 ⟨by omega, by omega, HFK.out, fun q h1 h2 => HALL.out q h1 (by omega)⟩
              have HYES := Lib.hid hyes
              clear hyes
              by_cases hmost : (pre.length : Int) + 1 = most
              · have hmb : ((pre.length : Int) + 1 == most) = true := beq_iff_eq.2 hmost
                have hk2 : ∀ u v, (((wr.setCell ⟨w2.heap.size + 1, 0, none⟩ u).setCell ⟨w2.heap.size + 1 + 1, 0, none⟩ v).setCell ⟨w.heap.size + 1, 0, none⟩ (.bool true)).cell? ⟨w.heap.size + 1, 0, none⟩ = some (.bool true) := fun u v => (((HR1.out.far (p := ⟨w2.heap.size + 1, 0, none⟩) (by show w.heap.size + 1 ≠ w2.heap.size + 1; omega) u).far (p := ⟨w2.heap.size + 1 + 1, 0, none⟩) (by show w.heap.size + 1 ≠ w2.heap.size + 1 + 1; omega) v).put 0 (.bool true)).cell rfl
                have HK2 := Lib.hid hk2
                clear hk2
                gi_wp2
                exact ⟨((KeepsOthers.setCell _ _ _).trans (KeepsOthers.setCell _ _ _)).trans (KeepsOthers.setCell _ _ _), ⟨rfl, fun _ => HK2.out _ _⟩, ((hbw.setCell (p := ⟨w2.heap.size + 1, 0, none⟩) (by show w.heap.size ≤ w2.heap.size + 1; omega) _).setCell (p := ⟨w2.heap.size + 1 + 1, 0, none⟩) (by show w.heap.size ≤ w2.heap.size + 1 + 1; omega) _).setCell (p := ⟨w.heap.size + 1, 0, none⟩) (by simp) _⟩
              · have hmb : ((pre.length : Int) + 1 == most) = false := beq_eq_false_iff_ne.2 hmost
                have q1 : ∀ u v, ((wr.setCell ⟨w2.heap.size + 1, 0, none⟩ u).setCell ⟨w2.heap.size + 1 + 1, 0, none⟩ v).cell? ⟨w2.heap.size + 1, 0, none⟩ = some u := fun u v => (World.cell?_of_block (Below.heap_setCell _ ⟨w2.heap.size + 1 + 1, 0, none⟩ v (w2.heap.size + 1) (by show w2.heap.size + 1 ≠ w2.heap.size + 1 + 1; omega))).trans (World.cell?_setCell_same' _ _ _ (by rw [hl]; rfl))
                have q0 : ∀ u, (wr.setCell ⟨w2.heap.size + 1, 0, none⟩ u).cell? ⟨w2.heap.size + 1 + 1, 0, none⟩ = some (.int .i64 (pre.length : Int)) := fun u => (World.cell?_of_block (Below.heap_setCell wr ⟨w2.heap.size + 1, 0, none⟩ u (w2.heap.size + 1 + 1) (by show w2.heap.size + 1 + 1 ≠ w2.heap.size + 1; omega))).trans hk
                have q2 : ∀ u v, ((wr.setCell ⟨w2.heap.size + 1, 0, none⟩ u).setCell ⟨w2.heap.size + 1 + 1, 0, none⟩ v).cell? ⟨w2.heap.size + 1 + 1, 0, none⟩ = some v := fun u v => World.cell?_setCell_same' _ _ _ (by rw [q0 u]; rfl)
                have q3 : ∀ u v, ((wr.setCell ⟨w2.heap.size + 1, 0, none⟩ u).setCell ⟨w2.heap.size + 1 + 1, 0, none⟩ v).frozen? ⟨w2.heap.size + 1, 0, none⟩ = false := fun u v => by rw [World.frozen?_setCell, World.frozen?_setCell]; exact hlf
                have q4 : ∀ u v, ((wr.setCell ⟨w2.heap.size + 1, 0, none⟩ u).setCell ⟨w2.heap.size + 1 + 1, 0, none⟩ v).frozen? ⟨w2.heap.size + 1 + 1, 0, none⟩ = false := fun u v => by rw [World.frozen?_setCell, World.frozen?_setCell]; exact hkf
                have q5 : ∀ u v, Blk ((wr.setCell ⟨w2.heap.size + 1, 0, none⟩ u).setCell ⟨w2.heap.size + 1 + 1, 0, none⟩ v) w2.heap.size 38 (Sp.arr f) := fun u v => (HB.out.far (p := ⟨w2.heap.size + 1, 0, none⟩) (by show w2.heap.size ≠ w2.heap.size + 1; omega) u).far (p := ⟨w2.heap.size + 1 + 1, 0, none⟩) (by show w2.heap.size ≠ w2.heap.size + 1 + 1; omega) v
                have HQQ := Lib.hid (And.intro q1 (And.intro q2 (And.intro q3 (And.intro q4 q5))))
                clear q0 q1 q2 q3 q4 q5 hmost
                gi_wp2
                refine ⟨(KeepsOthers.setCell _ _ _).trans (KeepsOthers.setCell _ _ _), (KeepC.set _ ⟨w2.heap.size + 1, 0, none⟩ _ (by show w.heap.size ≤ w2.heap.size + 1; omega) (by show w2.heap.size + 1 < W3.heap.size; omega)).trans (KeepC.set _ ⟨w2.heap.size + 1 + 1, 0, none⟩ _ (by show w.heap.size ≤ w2.heap.size + 1 + 1; omega) (by show w2.heap.size + 1 + 1 < W3.heap.size; omega)), ⟨⟨HYES.out, ?_, HQQ.out.2.2.1 _ _, ?_, HQQ.out.2.2.2.1 _ _⟩, HQQ.out.2.2.2.2 _ _⟩, (hBw.setCell (p := ⟨w2.heap.size + 1, 0, none⟩) (by simp) _).setCell (p := ⟨w2.heap.size + 1 + 1, 0, none⟩) (by show w2.heap.size ≤ w2.heap.size + 1 + 1; omega) _⟩
                · rw [Sp.lastOf_snoc]
                  exact HQQ.out.1 _ _
                · rw [List.length_append]
                  exact HQQ.out.2.1 _ _
  case done =>
    rintro DD ys W hDD hys ⟨⟨⟨hp, hl, hlf, hk, hkf⟩, hB⟩, hBw⟩ hK
    rw [hys, hlen] at hk
    have R1 := HD1.out.later hBw
    have r1 := R1.cell (i := 0) rfl
    have r1f := R1.free 0
    have hbw := below_on bb2 hBw
    have hz := hBw.size
    have hend : ∀ v, (W.setCell ⟨w.heap.size + 1, 0, none⟩ v).cell? ⟨w.heap.size + 1, 0, none⟩ = some v := fun v => World.cell?_setCell_same' _ _ _ (by rw [r1]; rfl)
    have HE := Lib.hid hend
    have LW := Lib.hid (L2.out.later hBw)
    clear hend g6 g6f g7 g7f hp hys hB hl hlf
    gi_wp2_with fail
    refine wpIn_wide.2 (wp_only ?_)
    have kd : W.drew.cell? ⟨w2.heap.size + 1 + 1, 0, none⟩ = some (.int .i64 (Sp.sz f : Int)) := hk
    have rd : Blk W.drew (w.heap.size + 1) 4 #[.bool false] := R1.drew
    have md := N3.out W.drew (LW.out.later ((Below.refl _ _).drew))
    have MD := Lib.hid md
    have KD := Lib.hid kd
    have RD := Lib.hid rd
    clear md rd kd
    have kdd := KD.out
    go_region_with (go_at_call 16; refine MD.out.mono ?_; rintro e w5 ⟨rfl, b5⟩; have k5 := cell_later b5 KD.out; have r5 := (RD.out.later b5).cell (i := 0) rfl; have r5f := (RD.out.later b5).free 0)
    all_goals
      have hltD : DD < W.heap.size := (Array.getElem?_eq_some_iff.1 hK).1
      have hK5 : w5.heap[DD]? = some (.deferred (some [])) := (b5.block DD hltD).trans hK
      have hb5 := below_on hbw.drew b5
      have hc6 : (w5.setCell ⟨w.heap.size + 1, 0, none⟩ (.bool true)).cell? ⟨w.heap.size + 1, 0, none⟩ = some (.bool true) := World.cell?_setCell_same' _ _ _ (by rw [r5]; rfl)
      have hK' := (KeepsOthers.setCell w5 ⟨w.heap.size + 1, 0, none⟩ (.bool true)).same DD _ hK5 rfl
      have HC6 := Lib.hid hc6
      clear hc6 r5 r5f k5 kdd
      gi_wp2
      refine ⟨by simp, .inl ⟨_, _, rfl, run_takeDeferred hK', ?_⟩⟩
      have hc5 := cell_kept HC6.out (grownBy_putObj' _ DD (.deferred none)) (fun r e => by cases e; exact ⟨_, hK', rfl⟩)
      refine ⟨.bool true, ?_, rfl, (hb5.setCell (p := ⟨w.heap.size + 1, 0, none⟩) (by simp) _).trans (belowK_b (w := w) (Nat.le_refl _) _ DD _ _ (by omega) hK' rfl rfl)⟩
      simp [results, Try.f7, go_sem, hc5]
  case stop =>
    rintro DD c' pre W hDD hpre ⟨⟨rfl, hin⟩, hB⟩ hK
    have hr := hin hpre
    have hz := hB.size
    clear g6 g6f g7 g7f hin
    gi_wp2
    refine ⟨by simp, .inl ⟨_, _, rfl, run_takeDeferred hK, ?_⟩⟩
    have hc5 := cell_kept hr (grownBy_putObj' _ DD (.deferred none)) (fun r e => by cases e; exact ⟨_, hK, rfl⟩)
    refine ⟨.bool true, ?_, rfl, hB.trans (belowK_b (w := w) (Nat.le_refl _) W DD _ _ (by omega) hK rfl rfl)⟩
    simp [results, Try.f7, go_sem, hc5]

end Go.Proofs.Ytnnmcnbpnfegpaa
