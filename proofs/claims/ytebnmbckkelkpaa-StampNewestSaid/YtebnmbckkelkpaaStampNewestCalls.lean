/-
  What stamp.Newest and telltaleref01's Newest answer of any list of stamps that lies in memory: the same; the list stays as it is.
-/
import Derived.Test.YtebnmbckkelkpaaStampCalls
import Derived.Test.YtebnmbckkelkpaaSlices
import Derived.Laws.ResultCell
import Derived.Deep.DeepCutAuto
namespace Go.Proofs.Ytebnmbckkelkpaa
open Go.RowKit

set_option maxHeartbeats 1600000 in
theorem rnewest_some (b off cap : Nat) (x : Int × Int) (l : List (Int × Int)) (hm : l.length + 1 ≤ 9223372036854775807) (w : World)
    (hc : ∀ k, k < l.length + 1 → w.cell? ⟨b, off + k * 2, none⟩ = some (.int .i64 ((x :: l).getD k (0, 0)).1) ∧ w.cell? ⟨b, off + k * 2 + 1, none⟩ = some (.int .i64 ((x :: l).getD k (0, 0)).2)) :
    Calls Try.prog 14 #[.slice (some ⟨b, off, none⟩) (l.length + 1) cap] w fun e w' => e = .returned (.tuple #[.agg #[.int .i64 (St.newestOf x l).1, .int .i64 (St.newestOf x l).2], .bool true]) ∧ Below w.heap.size w w' := by
  have c0 := (hc 0 (by omega)).1
  have c1 := (hc 0 (by omega)).2
  simp at c0 c1
  have hb0 : b < w.heap.size := World.block_lt_of_cell? w _ c0
  have hn0 : ((l.length : Int) + 1 == 0) = false := beq_eq_false_iff_ne.2 (by omega)
  have HC := Lib.hid hc
  clear hc
  go_enter Try.func14, Try.ntmps14
  go_wp2_with fail
  go_loopw [5] (fun s5 wr => ∃ k : Nat, k ≤ l.length ∧ s5 = .int .i64 ((k : Int) + 1) ∧ Blk wr (w.heap.size + 1) 23 #[.int .i64 (St.newestOf x (l.take k)).1, .int .i64 (St.newestOf x (l.take k)).2] ∧
      Blk wr w.heap.size 23 #[.int .i64 0, .int .i64 0] ∧ Below w.heap.size w wr) (fun s5 _ => l.length + 1 - (intOf s5).toNat)
  case atStart =>
    exact ⟨0, Nat.zero_le _, rfl, by simpa [St.newestOf] using Blk.new (w.alloc (.cells #[.int .i64 0, .int .i64 0] 23)) 23 #[.int .i64 x.1, .int .i64 x.2], (Blk.new _ _ _).alloc _, below_new (below_new (Below.refl _ _) _) _⟩
  case round =>
    obtain ⟨k, hk, rfl, hB1, hB0, hbw⟩ := hrel
    have t0 : wr.cell? ⟨w.heap.size + 1, 0, none⟩ = some (.int .i64 (St.newestOf x (l.take k)).1) := hB1.cell rfl
    have t1 : wr.cell? ⟨w.heap.size + 1, 1, none⟩ = some (.int .i64 (St.newestOf x (l.take k)).2) := hB1.cell rfl
    have f0 := hB1.free 0
    have f1 := hB1.free 1
    have r0 : wr.cell? ⟨w.heap.size, 0, none⟩ = some (.int .i64 0) := hB0.cell rfl
    have r1 : wr.cell? ⟨w.heap.size, 1, none⟩ = some (.int .i64 0) := hB0.cell rfl
    have rf0 := hB0.free 0
    have rf1 := hB0.free 1
    have HB1 := Lib.hid hB1
    have HB0 := Lib.hid hB0
    clear hB1 hB0 c0 c1
    by_cases hlt : k < l.length
    · have e0 := (hbw.cell (p := ⟨b, _, none⟩) hb0).trans (HC.out (k + 1) (by omega)).1
      have e1 := (hbw.cell (p := ⟨b, _, none⟩) hb0).trans (HC.out (k + 1) (by omega)).2
      rw [List.getD_cons_succ, List.getD_eq_getElem?_getD, List.getElem?_eq_getElem hlt, Option.getD_some] at e0 e1
      have hs := St.newest_snoc x l k hlt
      have HS := Lib.hid hs
      clear hs
      have hi0 : (0 : Int) ≤ (k : Int) + 1 := by omega
      have hi1 : (k : Int) + 1 < (l.length : Int) + 1 := by omega
      go_wp2_with fail
      go_region_held3 (fun w' => w'.cell? ⟨b, off + (k + 1) * 2, none⟩ = some (.int .i64 l[k].1) ∧ w'.cell? ⟨b, off + (k + 1) * 2 + 1, none⟩ = some (.int .i64 l[k].2) ∧
          w'.cell? ⟨w.heap.size + 1, 0, none⟩ = some (.int .i64 (St.newestOf x (l.take k)).1) ∧ w'.cell? ⟨w.heap.size + 1, 1, none⟩ = some (.int .i64 (St.newestOf x (l.take k)).2) ∧ Below wr.heap.size wr w')
        (first
          | exact ⟨e0, e1, t0, t1, (Below.refl _ _).drew⟩
          | (go_split_ands
             exact ⟨cell_later hb (by assumption), cell_later hb (by assumption), cell_later hb (by assumption), cell_later hb (by assumption), below_on (by assumption) hb⟩))
        (first
          | (go_at_call 8; refine (rcompare_any _ _ _ _ _).mono ?_; rintro e w' ⟨rfl, hb⟩))
      go_split_ands
      have hbx : Below wr.heap.size wr w' := by assumption
      have q1 := HB1.out.later hbx
      have q0 := HB0.out.later hbx
      have g0 := q1.free 0
      have g1 := q1.free 1
      have Q1 := Lib.hid q1
      have Q0 := Lib.hid q0
      clear q1 q0
      have hng := St.cmpS_neg l[k].1 l[k].2 (St.newestOf x (l.take k)).1 (St.newestOf x (l.take k)).2
      by_cases hw : 0 < St.cmpS l[k].1 l[k].2 (St.newestOf x (l.take k)).1 (St.newestOf x (l.take k)).2
      · have hnew : St.newestOf x (l.take (k + 1)) = l[k] := by rw [HS.out]; unfold St.newer; rw [if_pos hw]
        have HN := Lib.hid hnew
        clear hnew
        have hd : decide (St.cmpS (St.newestOf x (l.take k)).1 (St.newestOf x (l.take k)).2 l[k].1 l[k].2 < 0) = true := decide_eq_true (by omega)
        have hd2 : St.cmpS (St.newestOf x (l.take k)).1 (St.newestOf x (l.take k)).2 l[k].1 l[k].2 < 0 := by omega
        clear hng hw
        go_wp2_with fail
        go_roundw
        case rel =>
          refine ⟨k + 1, by omega, by go_num, ?_, ?_, ?_⟩
          · rw [HN.out]
            exact (Q1.out.put 0 _).put 1 _
          · exact (Q0.out.far (by simp) _).far (by simp) _
          · exact ((below_on hbw hbx).setCell (by simp) _).setCell (by simp) _
        case measure => simp [intOf]; omega
      · have hnew : St.newestOf x (l.take (k + 1)) = St.newestOf x (l.take k) := by rw [HS.out]; unfold St.newer; rw [if_neg hw]
        have HN := Lib.hid hnew
        clear hnew
        have hd : decide (St.cmpS (St.newestOf x (l.take k)).1 (St.newestOf x (l.take k)).2 l[k].1 l[k].2 < 0) = false := decide_eq_false (by omega)
        have hd2 : 0 ≤ St.cmpS (St.newestOf x (l.take k)).1 (St.newestOf x (l.take k)).2 l[k].1 l[k].2 := by omega
        clear hng hw
        go_wp2_with fail
        go_roundw
        case rel =>
          refine ⟨k + 1, by omega, by go_num, ?_, Q0.out, below_on hbw hbx⟩
          rw [HN.out]
          exact Q1.out
        case measure => simp [intOf]; omega
    · have hk2 := St.newest_all x l k (by omega)
      have HK := Lib.hid hk2
      clear hk2
      go_wp2
      refine bodyPost_ret (v := .tuple #[.agg #[.int .i64 (St.newestOf x (l.take k)).1, .int .i64 (St.newestOf x (l.take k)).2], .bool true]) (by simp [results, Try.results14, go_sem, r0, r1]) rfl ⟨by rw [HK.out], (hbw.setCell (by simp) _).setCell (by simp) _⟩

set_option maxHeartbeats 1600000 in
theorem newest_some (b off cap : Nat) (x : Int × Int) (l : List (Int × Int)) (hm : l.length + 1 ≤ 9223372036854775807) (hne : cap ≠ 1) (w : World)
    (hc : ∀ k, k < l.length + 1 → w.cell? ⟨b, off + k * 2, none⟩ = some (.int .i64 ((x :: l).getD k (0, 0)).1) ∧ w.cell? ⟨b, off + k * 2 + 1, none⟩ = some (.int .i64 ((x :: l).getD k (0, 0)).2)) :
    Calls Try.prog 13 #[.slice (some ⟨b, off, none⟩) (l.length + 1) cap] w fun e w' => e = .returned (.tuple #[.agg #[.int .i64 (St.newestOf x l).1, .int .i64 (St.newestOf x l).2], .bool true]) ∧ Below w.heap.size w w' := by
  have c0 := (hc 0 (by omega)).1
  have c1 := (hc 0 (by omega)).2
  simp at c0 c1
  have hb0 : b < w.heap.size := World.block_lt_of_cell? w _ c0
  have hn0 : ((l.length : Int) + 1 == 0) = false := beq_eq_false_iff_ne.2 (by omega)
  have HC := Lib.hid hc
  clear hc
  go_enter Try.func13, Try.ntmps13
  go_wp2_with fail
  go_loopw [17] (fun s17 wr => ∃ k : Nat, k ≤ l.length ∧ s17 = .int .i64 (k : Int) ∧ Blk wr (w.heap.size + 1) 23 #[.int .i64 (St.newestOf x (l.take k)).1, .int .i64 (St.newestOf x (l.take k)).2] ∧
      Blk wr w.heap.size 23 #[.int .i64 0, .int .i64 0] ∧ Below w.heap.size w wr) (fun s17 _ => l.length - (intOf s17).toNat)
  case atStart =>
    exact ⟨0, Nat.zero_le _, rfl, by simpa [St.newestOf] using Blk.new (w.alloc (.cells #[.int .i64 0, .int .i64 0] 23)) 23 #[.int .i64 x.1, .int .i64 x.2], (Blk.new _ _ _).alloc _, below_new (below_new (Below.refl _ _) _) _⟩
  case round =>
    obtain ⟨k, hk, rfl, hB1, hB0, hbw⟩ := hrel
    have t0 : wr.cell? ⟨w.heap.size + 1, 0, none⟩ = some (.int .i64 (St.newestOf x (l.take k)).1) := hB1.cell rfl
    have t1 : wr.cell? ⟨w.heap.size + 1, 1, none⟩ = some (.int .i64 (St.newestOf x (l.take k)).2) := hB1.cell rfl
    have r0 : wr.cell? ⟨w.heap.size, 0, none⟩ = some (.int .i64 0) := hB0.cell rfl
    have r1 : wr.cell? ⟨w.heap.size, 1, none⟩ = some (.int .i64 0) := hB0.cell rfl
    have rf0 := hB0.free 0
    have rf1 := hB0.free 1
    have z1 := hB1.lt
    have HB1 := Lib.hid hB1
    have HB0 := Lib.hid hB0
    clear hB1 hB0 c0 c1
    by_cases hlt : k < l.length
    · have e0 := (hbw.cell (p := ⟨b, _, none⟩) hb0).trans (HC.out (k + 1) (by omega)).1
      have e1 := (hbw.cell (p := ⟨b, _, none⟩) hb0).trans (HC.out (k + 1) (by omega)).2
      rw [List.getD_cons_succ, List.getD_eq_getElem?_getD, List.getElem?_eq_getElem hlt, Option.getD_some] at e0 e1
      rw [show off + (k + 1) * 2 = off + 2 + k * 2 from by omega] at e0 e1
      have z2 : b < wr.heap.size := by omega
      have hs := St.newest_snoc x l k hlt
      have HS := Lib.hid hs
      clear hs
      have hi1 : (k : Int) < (l.length : Int) := by omega
      go_wp2_with fail
      refine (compare_any _ _ _ _ _).mono ?_
      rintro e w' ⟨rfl, hb⟩
      have q1 := (HB1.out.alloc (.cells #[.int .i64 l[k].1, .int .i64 l[k].2] 23)).later hb
      have q0 := (HB0.out.alloc (.cells #[.int .i64 l[k].1, .int .i64 l[k].2] 23)).later hb
      have q2 := (Blk.new wr 23 #[.int .i64 l[k].1, .int .i64 l[k].2]).later hb
      have hbx := below_on (below_new (below_on (Below.refl w.heap.size w) hbw) _) hb
      have g0 := q1.free 0
      have g1 := q1.free 1
      have u0 : w'.cell? ⟨wr.heap.size, 0, none⟩ = some (.int .i64 l[k].1) := q2.cell rfl
      have u1 : w'.cell? ⟨wr.heap.size, 1, none⟩ = some (.int .i64 l[k].2) := q2.cell rfl
      have v0 : w'.cell? ⟨w.heap.size + 1, 0, none⟩ = some (.int .i64 (St.newestOf x (l.take k)).1) := q1.cell rfl
      have v1 : w'.cell? ⟨w.heap.size + 1, 1, none⟩ = some (.int .i64 (St.newestOf x (l.take k)).2) := q1.cell rfl
      have Q1 := Lib.hid q1
      have Q0 := Lib.hid q0
      clear q1 q0 q2
      by_cases hw : 0 < St.cmpS l[k].1 l[k].2 (St.newestOf x (l.take k)).1 (St.newestOf x (l.take k)).2
      · have hnew : St.newestOf x (l.take (k + 1)) = l[k] := by rw [HS.out]; unfold St.newer; rw [if_pos hw]
        have HN := Lib.hid hnew
        clear hnew
        have hd : decide (0 < St.cmpS l[k].1 l[k].2 (St.newestOf x (l.take k)).1 (St.newestOf x (l.take k)).2) = true := decide_eq_true hw
        go_wp2_with fail
        go_roundw
        case rel =>
          refine ⟨k + 1, by omega, by go_num, ?_, ?_, ?_⟩
          · rw [HN.out]
            exact (Q1.out.put 0 _).put 1 _
          · exact (Q0.out.far (by simp) _).far (by simp) _
          · exact (hbx.setCell (by simp) _).setCell (by simp) _
        case measure => simp [intOf]; omega
      · have hnew : St.newestOf x (l.take (k + 1)) = St.newestOf x (l.take k) := by rw [HS.out]; unfold St.newer; rw [if_neg hw]
        have HN := Lib.hid hnew
        clear hnew
        have hd : decide (0 < St.cmpS l[k].1 l[k].2 (St.newestOf x (l.take k)).1 (St.newestOf x (l.take k)).2) = false := decide_eq_false hw
        go_wp2_with fail
        go_roundw
        case rel =>
          refine ⟨k + 1, by omega, by go_num, ?_, Q0.out, hbx⟩
          rw [HN.out]
          exact Q1.out
        case measure => simp [intOf]; omega
    · have hk2 := St.newest_all x l k (by omega)
      have HK := Lib.hid hk2
      clear hk2
      go_wp2
      refine bodyPost_ret (v := .tuple #[.agg #[.int .i64 (St.newestOf x (l.take k)).1, .int .i64 (St.newestOf x (l.take k)).2], .bool true]) (by simp [results, Try.results13, go_sem, r0, r1]) rfl ⟨by rw [HK.out], (hbw.setCell (by simp) _).setCell (by simp) _⟩

theorem newest_none (A : Option Addr) (cap : Nat) (w : World) :
    Calls Try.prog 13 #[.slice A 0 cap] w fun e w' => e = .returned (.tuple #[.agg #[.int .i64 0, .int .i64 0], .bool false]) ∧ Below w.heap.size w w' := by
  go_enter Try.func13, Try.ntmps13
  go_wp2
  refine bodyPost_ret (v := .tuple #[.agg #[.int .i64 0, .int .i64 0], .bool false]) (by simp [results, Try.results13, go_sem]) rfl ⟨rfl, ?_⟩
  repeat (first | exact Below.refl _ _ | (apply Below.drew) | (apply below_new) | (refine Below.setCell ?_ (by simp) _))

theorem rnewest_none (A : Option Addr) (cap : Nat) (w : World) :
    Calls Try.prog 14 #[.slice A 0 cap] w fun e w' => e = .returned (.tuple #[.agg #[.int .i64 0, .int .i64 0], .bool false]) ∧ Below w.heap.size w w' := by
  go_enter Try.func14, Try.ntmps14
  go_wp2
  refine bodyPost_ret (v := .tuple #[.agg #[.int .i64 0, .int .i64 0], .bool false]) (by simp [results, Try.results14, go_sem]) rfl ⟨rfl, ?_⟩
  repeat (first | exact Below.refl _ _ | (apply Below.drew) | (apply below_new) | (refine Below.setCell ?_ (by simp) _))

theorem newest_one (b off : Nat) (x : Int × Int) (w : World) (c0 : w.cell? ⟨b, off, none⟩ = some (.int .i64 x.1)) (c1 : w.cell? ⟨b, off + 1, none⟩ = some (.int .i64 x.2)) :
    Calls Try.prog 13 #[.slice (some ⟨b, off, none⟩) 1 1] w fun e w' => e = .returned (.tuple #[.agg #[.int .i64 x.1, .int .i64 x.2], .bool true]) ∧ Below w.heap.size w w' := by
  have hb0 : b < w.heap.size := World.block_lt_of_cell? w _ c0
  go_enter Try.func13, Try.ntmps13
  go_wp2_with fail
  refine wp_loop_rounds 1 ?_
  rw [rounds_succ]
  go_wp2
  refine bodyPost_ret (v := .tuple #[.agg #[.int .i64 x.1, .int .i64 x.2], .bool true]) (by simp [results, Try.results13, go_sem]) rfl ⟨rfl, ?_⟩
  repeat (first | exact Below.refl _ _ | (apply Below.drew) | (apply below_new) | (refine Below.setCell ?_ (by simp) _))

theorem newest_any (A : Option Addr) (cap : Nat) (l : List (Int × Int)) (w : World) (hl : l.length ≤ 9223372036854775807) (hcap : l.length ≤ cap) (h : Stamps w A l) :
    Calls Try.prog 13 #[.slice A l.length cap] w fun e w' => e = .returned (.tuple #[.agg #[.int .i64 (St.nwS l).1, .int .i64 (St.nwS l).2], .bool (St.nwB l)]) ∧ Below w.heap.size w w' := by
  cases l with
  | nil => exact newest_none A cap w
  | cons x r =>
    obtain ⟨b, off, rfl, hc⟩ := h (by simp)
    by_cases h1 : cap = 1
    · subst h1
      have hr : r = [] := by simpa using hcap
      subst hr
      have := hc 0 (by simp)
      exact newest_one b off x w (by simpa using this.1) (by simpa using this.2)
    · exact newest_some b off cap x r (by simpa using hl) h1 w (fun k hk => hc k (by simpa using hk))

theorem rnewest_any (A : Option Addr) (cap : Nat) (l : List (Int × Int)) (w : World) (hl : l.length ≤ 9223372036854775807) (h : Stamps w A l) :
    Calls Try.prog 14 #[.slice A l.length cap] w fun e w' => e = .returned (.tuple #[.agg #[.int .i64 (St.nwS l).1, .int .i64 (St.nwS l).2], .bool (St.nwB l)]) ∧ Below w.heap.size w w' := by
  cases l with
  | nil => exact rnewest_none A cap w
  | cons x r =>
    obtain ⟨b, off, rfl, hc⟩ := h (by simp)
    exact rnewest_some b off cap x r (by simpa using hl) w (fun k hk => hc k (by simpa using hk))

end Go.Proofs.Ytebnmbckkelkpaa
