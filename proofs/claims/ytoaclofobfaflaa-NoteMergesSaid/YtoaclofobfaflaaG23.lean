/-
  What slices.symMergeCmpFunc does where one of the two runs has one element.
  What slices.symMergeCmpFunc does where the second of the two runs has one element.
  What slices.symMergeCmpFunc does with two longer runs, the first one longer than the second.
  What slices.symMergeCmpFunc does with two longer runs, the first one no longer than the second.
-/
import Derived.Test.YtoaclofobfaflaaG22
import Derived.Lib.Walk
namespace Go.Proofs.Ytoaclofobfaflaa
open Go.RowKit Fb

set_option maxRecDepth 100000 in
set_option maxHeartbeats 25600000 in
theorem symOne_any (wb : World) (b off cap : Nat) (T : List Tw) (w : World) (a m e : Nat) (hR : RowIs wb b off T w) (_hcap : T.length ≤ cap) (hmax : T.length ≤ 4611686018427387903) (hm : m = a + 1) (hme : m < e) (he : e ≤ T.length) (hT : So.Two a m e T) :
    Calls Try.prog 102 #[.slice (some ⟨b, off, none⟩) T.length cap, .int .i64 a, .int .i64 m, .int .i64 e, .func (.func 86) #[] #[]] w fun en w' => en = .returned (.tuple #[]) ∧ ∃ T', RowIs wb b off T' w' ∧ So.Seg a e T T' ∧ So.Srt T' a e := by
  have HR := Lib.hid hR
  have HT := Lib.hid hT
  have q1 : (m : Int) - (a : Int) = 1 := by omega
  have ha1 : a + 1 ≤ m := by omega
  have ha2 : m ≤ a + 1 := by omega
  have HM := Lib.hid hm
  clear hR hT hm
  go_enter Try.func102, Try.ntmps102
  go_wp2_with fail
  go_loopw [10, 11, 12] (fun s10 s11 _ wr => ∃ i j : Nat, s10 = .int .i64 (i : Int) ∧ s11 = .int .i64 (j : Int) ∧ m ≤ i ∧ i ≤ j ∧ j ≤ e ∧ RowIs wb b off T wr ∧ (∀ q, m ≤ q → q < i → So.TL (So.g T q) (So.g T a)) ∧ (∀ q, j ≤ q → q < e → So.TL (So.g T a) (So.g T q))) (fun s10 s11 _ _ => (intOf s11).toNat - (intOf s10).toNat)
  case atStart => exact ⟨m, e, rfl, rfl, Nat.le_refl _, by omega, Nat.le_refl _, HR.out, fun q h1 h2 => by omega, fun q h1 h2 => by omega⟩
  case round =>
    obtain ⟨i, j, rfl, rfl, hmi, hij, hje, hrow, hlo, hhi⟩ := hrel
    have HLO := Lib.hid hlo
    have HHI := Lib.hid hhi
    have HROW := Lib.hid hrow
    clear hlo hhi
    by_cases hlt : i < j
    · have hz : (i : Int) < (j : Int) := by omega
      obtain ⟨h, hh⟩ : ∃ h, (i + j) / 2 = h := ⟨_, rfl⟩
      have hih : i ≤ h := by omega
      have hhj : h < j := by omega
      have z1 : ((i : Int) + (j : Int)) / 2 = (h : Int) := by omega
      have z2 : (0 : Int) ≤ (i : Int) + (j : Int) := by omega
      have z3 : (i : Int) + (j : Int) ≤ 9223372036854775807 := by omega
      have n0 : (0 : Int) ≤ (h : Int) := by omega
      have n1 : (h : Int) < (T.length : Int) := by omega
      have n2 : (0 : Int) ≤ (a : Int) := by omega
      have n3 : (a : Int) < (T.length : Int) := by omega
      clear hh
      obtain ⟨⟨e0, e1, e2, e3⟩, -⟩ := hrow.cells (i := h) (by omega)
      obtain ⟨⟨d0, d1, d2, d3⟩, -⟩ := hrow.cells (i := a) (by omega)
      obtain ⟨x, hx⟩ : ∃ x, (So.g T (h)).1 = x := ⟨_, rfl⟩
      obtain ⟨y, hy⟩ : ∃ y, (So.g T (a)).1 = y := ⟨_, rfl⟩
      rw [hx] at e0 e1 e2 e3
      rw [hy] at d0 d1 d2 d3
      obtain ⟨r, hr⟩ : ∃ r, So.cf x y = r := ⟨_, rfl⟩
      obtain ⟨x1, x2, x3, x4⟩ := x
      obtain ⟨y1, y2, y3, y4⟩ := y
      have k0 := fun dd os => cell_regrown e0 dd os
      have k1 := fun dd os => cell_regrown e1 dd os
      have k2 := fun dd os => cell_regrown e2 dd os
      have k3 := fun dd os => cell_regrown e3 dd os
      have m0 := fun dd os => cell_regrown d0 dd os
      have m1 := fun dd os => cell_regrown d1 dd os
      have m2 := fun dd os => cell_regrown d2 dd os
      have m3 := fun dd os => cell_regrown d3 dd os
      have cl : ∀ dd os, Calls Try.prog 86 #[.agg #[.int .i64 x1, .int .i64 x2, .int .i64 x3, .bool x4], .agg #[.int .i64 y1, .int .i64 y2, .int .i64 y3, .bool y4]] (Sort.grow (redrawn wr dd) os) fun e w'' => e = .returned (.int .i64 r) ∧ ∃ p : Regrown, w'' = Sort.grow (redrawn wr p.d) p.os := fun dd os => Calls.regrown_of (by have q := newest1_any (x1, x2, x3, x4) (y1, y2, y3, y4) (Sort.grow (redrawn wr dd) os); rw [hr] at q; exact q)
      have CL := Lib.hid cl
      have HCF := Lib.hid (show So.cf (So.g T (h)).1 (So.g T (a)).1 = r from by rw [hx, hy]; exact hr)
      clear cl hr hx hy e0 e1 e2 e3 d0 d1 d2 d3
      clear hrow
      by_cases hneg : r < 0
      · have hd : decide (r < 0) = true := decide_eq_true hneg
        go_wp2_with fail
        refine wp_region_quiet_below (by kernel_rfl) (by kernel_rfl) ?_
        repeat (first | go_big_quiet_step (exact CL.out _ _) | quiet_step (exact CL.out _ _))
        refine wpQuiet_nil ?_
        intro _ hw'
        obtain ⟨⟨dq, osq⟩, hw''⟩ := hw'
        subst hw''
        have hbq := below_regrown wr dq osq
        clear k0 k1 k2 k3 m0 m1 m2 m3
        have HR3 := Lib.hid (HROW.out.later hbq)
        have ht : So.TL (So.g T h) (So.g T a) := HT.out.yes (p := a) (q := h) (Nat.le_refl _) (by rw [HCF.out]; exact hneg)
        have HQ := Lib.hid (show ∀ q, m ≤ q → q < h + 1 → So.TL (So.g T q) (So.g T a) from fun q h1 h2 => by
          by_cases e1 : q = h
          · rw [e1]; exact ht
          · exact (HT.out.snd q h h1 (by omega) (by omega)).trans ht)
        clear ht hbq
        go_wp2_with fail
        go_roundw
        case rel => exact ⟨h + 1, j, by go_num, rfl, by omega, by omega, hje, HR3.out, HQ.out, HHI.out⟩
        case measure => simp [intOf]; omega
      · have hd : decide (r < 0) = false := decide_eq_false hneg
        go_wp2_with fail
        refine wp_region_quiet_below (by kernel_rfl) (by kernel_rfl) ?_
        repeat (first | go_big_quiet_step (exact CL.out _ _) | quiet_step (exact CL.out _ _))
        refine wpQuiet_nil ?_
        intro _ hw'
        obtain ⟨⟨dq, osq⟩, hw''⟩ := hw'
        subst hw''
        have hbq := below_regrown wr dq osq
        clear k0 k1 k2 k3 m0 m1 m2 m3
        have HR3 := Lib.hid (HROW.out.later hbq)
        have ht : So.TL (So.g T a) (So.g T h) := HT.out.no (p := a) (q := h) (Nat.le_refl _) (by omega) (by omega) (by omega) (by rw [HCF.out]; omega)
        have HQ := Lib.hid (show ∀ q, h ≤ q → q < e → So.TL (So.g T a) (So.g T q) from fun q h1 h2 => by
          by_cases e1 : q = h
          · rw [e1]; exact ht
          · exact So.TL.trans ht (HT.out.snd h q (by omega) (by omega) h2))
        clear ht hbq
        go_wp2_with fail
        go_roundw
        case rel => exact ⟨i, h, rfl, rfl, hmi, by omega, by omega, HR3.out, HLO.out, HQ.out⟩
        case measure => simp [intOf]; omega
    · have hij2 : i = j := by omega
      subst hij2
      have hz : ¬ (i : Int) < (i : Int) := by omega
      have z1 : (i : Int) - 1 = ((i - 1 : Nat) : Int) := by omega
      clear hrow
      go_wp2_with fail
      go_loopw [13] (fun s13 wr => ∃ (k : Nat) (Tk : List Tw), s13 = .int .i64 (k : Int) ∧ a ≤ k ∧ k ≤ i - 1 ∧ RowIs wb b off Tk wr ∧ So.ShL a k T Tk) (fun s13 _ => i - (intOf s13).toNat)
      case atStart => exact ⟨a, T, rfl, Nat.le_refl _, by omega, HROW.out, So.ShL.start a T⟩
      case round =>
        obtain ⟨k, Tk, rfl, hak, hki, hrow, hsh⟩ := hrel
        have hlen := hsh.len
        by_cases hlt2 : k < i - 1
        · have hz2 : (k : Int) < ((i - 1 : Nat) : Int) := by omega
          have n0 : (0 : Int) ≤ (k : Int) := by omega
          have n1 : (k : Int) < (T.length : Int) := by omega
          have n2 : (0 : Int) ≤ (k : Int) + 1 := by omega
          have n3 : (k : Int) + 1 < (T.length : Int) := by omega
          have t1 : ((k : Int) + 1).toNat = k + 1 := by omega
          have HSH := Lib.hid (hsh.step hak (by omega))
          clear hsh
          obtain ⟨⟨e0, e1, e2, e3⟩, f0, f1, f2, f3⟩ := hrow.cells (i := k) (by omega)
          obtain ⟨⟨d0, d1, d2, d3⟩, r0, r1, r2, r3⟩ := hrow.cells (i := k + 1) (by omega)
          obtain ⟨x, hx⟩ : ∃ x, (So.g Tk (k)).1 = x := ⟨_, rfl⟩
          obtain ⟨y, hy⟩ : ∃ y, (So.g Tk (k + 1)).1 = y := ⟨_, rfl⟩
          rw [hx] at e0 e1 e2 e3
          rw [hy] at d0 d1 d2 d3
          have hsw := (hrow.swap (i := k) (j := k + 1) (by omega) (by omega) hy hx).drew
          obtain ⟨⟨o0, o1, o2, o3⟩, -⟩ := (hrow.put (i := k) (by omega) (y, 0)).cells (i := k + 1) (by rw [List.length_set]; omega)
          generalize So.g (Tk.set (k) (y, 0)) (k + 1) = z at o0 o1 o2 o3
          obtain ⟨x1, x2, x3, x4⟩ := x
          obtain ⟨y1, y2, y3, y4⟩ := y
          have HSW := Lib.hid hsw
          have mixed : Try.prog.follows .mixedOrders = true := by kernel_rfl
          clear hsw hx hy
          clear hrow
          go_wp2_with fail
          go_big_region_o
          all_goals go_wp2_with fail
          go_roundw
          case rel => exact ⟨k + 1, _, by go_num, by omega, by omega, HSW.out, HSH.out⟩
          case measure => simp [intOf]; omega
        · have hki2 : k = i - 1 := by omega
          have hz2 : ¬ (k : Int) < ((i - 1 : Nat) : Int) := by omega
          have HROW2 := Lib.hid hrow
          have HF := Lib.hid (show So.Seg a e T Tk ∧ So.Srt Tk a e from by
            rw [hki2] at hsh
            exact ⟨hsh.seg (by omega) (by omega), So.ShL.sorted (by rw [← HM.out]; exact HT.out) hsh (by omega) hje (fun q h1 h2 => HLO.out q (by omega) h2) (fun q h1 h2 => HHI.out q h1 h2)⟩)
          clear hrow hsh
          go_wp2
          refine bodyPost_ret (results_none rfl _ _ _) rfl ?_
          exact ⟨rfl, Tk, HROW2.out, HF.out.1, HF.out.2⟩

end Go.Proofs.Ytoaclofobfaflaa
namespace Go.Proofs.Ytoaclofobfaflaa
open Go.RowKit Fb

set_option maxRecDepth 100000 in
set_option maxHeartbeats 25600000 in
theorem symOneR_any (wb : World) (b off cap : Nat) (T : List Tw) (w : World) (a m e : Nat) (hR : RowIs wb b off T w) (_hcap : T.length ≤ cap) (hmax : T.length ≤ 4611686018427387903) (hme : e = m + 1) (hm : a + 1 < m) (he : e ≤ T.length) (hT : So.Two a m e T) :
    Calls Try.prog 102 #[.slice (some ⟨b, off, none⟩) T.length cap, .int .i64 a, .int .i64 m, .int .i64 e, .func (.func 86) #[] #[]] w fun en w' => en = .returned (.tuple #[]) ∧ ∃ T', RowIs wb b off T' w' ∧ So.Seg a e T T' ∧ So.Srt T' a e := by
  have HR := Lib.hid hR
  have HT := Lib.hid hT
  have q0 : ((m : Int) - (a : Int) == 1) = false := beq_eq_false_iff_ne.2 (by omega)
  have q1 : (e : Int) - (m : Int) = 1 := by omega
  have ha1 : m + 1 ≤ e := by omega
  have ha2 : e ≤ m + 1 := by omega
  have HM := Lib.hid hme
  clear hR hT hme
  go_enter Try.func102, Try.ntmps102
  go_wp2_with fail
  go_loopw [14, 15, 16] (fun s14 s15 _ wr => ∃ i j : Nat, s14 = .int .i64 (i : Int) ∧ s15 = .int .i64 (j : Int) ∧ a ≤ i ∧ i ≤ j ∧ j ≤ m ∧ RowIs wb b off T wr ∧ (∀ q, a ≤ q → q < i → So.TL (So.g T q) (So.g T m)) ∧ (∀ q, j ≤ q → q < m → So.TL (So.g T m) (So.g T q))) (fun s14 s15 _ _ => (intOf s15).toNat - (intOf s14).toNat)
  case atStart => exact ⟨a, m, rfl, rfl, Nat.le_refl _, by omega, Nat.le_refl _, HR.out, fun q h1 h2 => by omega, fun q h1 h2 => by omega⟩
  case round =>
    obtain ⟨i, j, rfl, rfl, hmi, hij, hje, hrow, hlo, hhi⟩ := hrel
    have HLO := Lib.hid hlo
    have HHI := Lib.hid hhi
    have HROW := Lib.hid hrow
    clear hlo hhi
    by_cases hlt : i < j
    · have hz : (i : Int) < (j : Int) := by omega
      obtain ⟨h, hh⟩ : ∃ h, (i + j) / 2 = h := ⟨_, rfl⟩
      have hih : i ≤ h := by omega
      have hhj : h < j := by omega
      have z1 : ((i : Int) + (j : Int)) / 2 = (h : Int) := by omega
      have z2 : (0 : Int) ≤ (i : Int) + (j : Int) := by omega
      have z3 : (i : Int) + (j : Int) ≤ 9223372036854775807 := by omega
      have n0 : (0 : Int) ≤ (h : Int) := by omega
      have n1 : (h : Int) < (T.length : Int) := by omega
      have n2 : (0 : Int) ≤ (m : Int) := by omega
      have n3 : (m : Int) < (T.length : Int) := by omega
      clear hh
      obtain ⟨⟨e0, e1, e2, e3⟩, -⟩ := hrow.cells (i := m) (by omega)
      obtain ⟨⟨d0, d1, d2, d3⟩, -⟩ := hrow.cells (i := h) (by omega)
      obtain ⟨x, hx⟩ : ∃ x, (So.g T (m)).1 = x := ⟨_, rfl⟩
      obtain ⟨y, hy⟩ : ∃ y, (So.g T (h)).1 = y := ⟨_, rfl⟩
      rw [hx] at e0 e1 e2 e3
      rw [hy] at d0 d1 d2 d3
      obtain ⟨r, hr⟩ : ∃ r, So.cf x y = r := ⟨_, rfl⟩
      obtain ⟨x1, x2, x3, x4⟩ := x
      obtain ⟨y1, y2, y3, y4⟩ := y
      have k0 := fun dd os => cell_regrown e0 dd os
      have k1 := fun dd os => cell_regrown e1 dd os
      have k2 := fun dd os => cell_regrown e2 dd os
      have k3 := fun dd os => cell_regrown e3 dd os
      have m0 := fun dd os => cell_regrown d0 dd os
      have m1 := fun dd os => cell_regrown d1 dd os
      have m2 := fun dd os => cell_regrown d2 dd os
      have m3 := fun dd os => cell_regrown d3 dd os
      have cl : ∀ dd os, Calls Try.prog 86 #[.agg #[.int .i64 x1, .int .i64 x2, .int .i64 x3, .bool x4], .agg #[.int .i64 y1, .int .i64 y2, .int .i64 y3, .bool y4]] (Sort.grow (redrawn wr dd) os) fun e w'' => e = .returned (.int .i64 r) ∧ ∃ p : Regrown, w'' = Sort.grow (redrawn wr p.d) p.os := fun dd os => Calls.regrown_of (by have q := newest1_any (x1, x2, x3, x4) (y1, y2, y3, y4) (Sort.grow (redrawn wr dd) os); rw [hr] at q; exact q)
      have CL := Lib.hid cl
      have HCF := Lib.hid (show So.cf (So.g T (m)).1 (So.g T (h)).1 = r from by rw [hx, hy]; exact hr)
      clear cl hr hx hy e0 e1 e2 e3 d0 d1 d2 d3
      clear hrow
      by_cases hneg : r < 0
      · have hd : decide (r < 0) = true := decide_eq_true hneg
        go_wp2_with fail
        refine wp_region_quiet_below (by kernel_rfl) (by kernel_rfl) ?_
        repeat (first | go_big_quiet_step (exact CL.out _ _) | quiet_step (exact CL.out _ _))
        refine wpQuiet_nil ?_
        intro _ hw'
        obtain ⟨⟨dq, osq⟩, hw''⟩ := hw'
        subst hw''
        have hbq := below_regrown wr dq osq
        clear k0 k1 k2 k3 m0 m1 m2 m3
        have HR3 := Lib.hid (HROW.out.later hbq)
        have ht : So.TL (So.g T m) (So.g T h) := HT.out.yes (p := h) (q := m) (by omega) (by rw [HCF.out]; exact hneg)
        have HQ := Lib.hid (show ∀ q, h ≤ q → q < m → So.TL (So.g T m) (So.g T q) from fun q h1 h2 => by
          by_cases e1 : q = h
          · rw [e1]; exact ht
          · exact So.TL.trans ht (HT.out.fst h q (by omega) (by omega) h2))
        clear ht hbq
        go_wp2_with fail
        go_roundw
        case rel => exact ⟨i, h, rfl, rfl, hmi, by omega, by omega, HR3.out, HLO.out, HQ.out⟩
        case measure => simp [intOf]; omega
      · have hd : decide (r < 0) = false := decide_eq_false hneg
        go_wp2_with fail
        refine wp_region_quiet_below (by kernel_rfl) (by kernel_rfl) ?_
        repeat (first | go_big_quiet_step (exact CL.out _ _) | quiet_step (exact CL.out _ _))
        refine wpQuiet_nil ?_
        intro _ hw'
        obtain ⟨⟨dq, osq⟩, hw''⟩ := hw'
        subst hw''
        have hbq := below_regrown wr dq osq
        clear k0 k1 k2 k3 m0 m1 m2 m3
        have HR3 := Lib.hid (HROW.out.later hbq)
        have ht : So.TL (So.g T h) (So.g T m) := HT.out.no (p := h) (q := m) (by omega) (by omega) (by omega) (by omega) (by rw [HCF.out]; omega)
        have HQ := Lib.hid (show ∀ q, a ≤ q → q < h + 1 → So.TL (So.g T q) (So.g T m) from fun q h1 h2 => by
          by_cases e1 : q = h
          · rw [e1]; exact ht
          · exact (HT.out.fst q h h1 (by omega) (by omega)).trans ht)
        clear ht hbq
        go_wp2_with fail
        go_roundw
        case rel => exact ⟨h + 1, j, by go_num, rfl, by omega, by omega, hje, HR3.out, HQ.out, HHI.out⟩
        case measure => simp [intOf]; omega
    · have hij2 : i = j := by omega
      subst hij2
      have hz : ¬ (i : Int) < (i : Int) := by omega
      clear hrow
      go_wp2_with fail
      go_loopw [17] (fun s17 wr => ∃ (k : Nat) (Tk : List Tw), s17 = .int .i64 (k : Int) ∧ i ≤ k ∧ k ≤ m ∧ RowIs wb b off Tk wr ∧ So.ShR m k T Tk) (fun s17 _ => (intOf s17).toNat)
      case atStart => exact ⟨m, T, rfl, by omega, Nat.le_refl _, HROW.out, So.ShR.start m T⟩
      case round =>
        obtain ⟨k, Tk, rfl, hak, hki, hrow, hsh⟩ := hrel
        have hlen := hsh.len
        by_cases hlt2 : i < k
        · obtain ⟨kk, rfl⟩ : ∃ kk, k = kk + 1 := ⟨k - 1, by omega⟩
          have hz2 : (i : Int) < (kk : Int) + 1 := by omega
          have n0 : (0 : Int) ≤ (kk : Int) := by omega
          have n1 : (kk : Int) < (T.length : Int) := by omega
          have n2 : (0 : Int) ≤ (kk : Int) + 1 := by omega
          have n3 : (kk : Int) + 1 < (T.length : Int) := by omega
          have t1 : ((kk : Int) + 1).toNat = kk + 1 := by omega
          have HSH := Lib.hid (hsh.step (by omega) (by omega))
          clear hsh
          obtain ⟨⟨e0, e1, e2, e3⟩, f0, f1, f2, f3⟩ := hrow.cells (i := kk + 1) (by omega)
          obtain ⟨⟨d0, d1, d2, d3⟩, r0, r1, r2, r3⟩ := hrow.cells (i := kk) (by omega)
          obtain ⟨x, hx⟩ : ∃ x, (So.g Tk (kk + 1)).1 = x := ⟨_, rfl⟩
          obtain ⟨y, hy⟩ : ∃ y, (So.g Tk (kk)).1 = y := ⟨_, rfl⟩
          rw [hx] at e0 e1 e2 e3
          rw [hy] at d0 d1 d2 d3
          have hsw := (hrow.swap (i := kk + 1) (j := kk) (by omega) (by omega) hy hx).drew
          obtain ⟨⟨o0, o1, o2, o3⟩, -⟩ := (hrow.put (i := kk + 1) (by omega) (y, 0)).cells (i := kk) (by rw [List.length_set]; omega)
          generalize So.g (Tk.set (kk + 1) (y, 0)) (kk) = z at o0 o1 o2 o3
          obtain ⟨x1, x2, x3, x4⟩ := x
          obtain ⟨y1, y2, y3, y4⟩ := y
          have HSW := Lib.hid hsw
          have mixed : Try.prog.follows .mixedOrders = true := by kernel_rfl
          clear hsw hx hy
          clear hrow
          go_wp2_with fail
          go_big_region_o
          all_goals go_wp2_with fail
          go_roundw
          case rel => exact ⟨kk, _, by go_num, by omega, by omega, HSW.out, HSH.out⟩
          case measure => simp [intOf]
        · have hki2 : k = i := by omega
          have hz2 : ¬ (i : Int) < (k : Int) := by omega
          have HROW2 := Lib.hid hrow
          have HF := Lib.hid (show So.Seg a e T Tk ∧ So.Srt Tk a e from by
            rw [hki2] at hsh
            rw [HM.out]
            exact ⟨hsh.seg (by omega) (by omega), So.ShR.sorted (by rw [← HM.out]; exact HT.out) hsh (by omega) hje (fun q h1 h2 => HLO.out q h1 h2) (fun q h1 h2 => HHI.out q h1 h2)⟩)
          clear hrow hsh hki2
          go_wp2
          refine bodyPost_ret (results_none rfl _ _ _) rfl ?_
          exact ⟨rfl, Tk, HROW2.out, HF.out.1, HF.out.2⟩

end Go.Proofs.Ytoaclofobfaflaa
namespace Go.Proofs.Ytoaclofobfaflaa
open Go.RowKit Fb

/-- What the merge does with shorter runs. -/
def SymLess (wb : World) (b off cap n : Nat) : Prop := ∀ (T : List Tw) (w : World) (a m e : Nat), e - a < n → RowIs wb b off T w → T.length ≤ cap → T.length ≤ 2305843009213693951 → a < m → m < e → e ≤ T.length → So.Two a m e T →
    Calls Try.prog 102 #[.slice (some ⟨b, off, none⟩) T.length cap, .int .i64 a, .int .i64 m, .int .i64 e, .func (.func 86) #[] #[]] w fun en w' => en = .returned (.tuple #[]) ∧ ∃ T', RowIs wb b off T' w' ∧ So.Seg a e T T' ∧ So.Srt T' a e

set_option maxRecDepth 100000 in
set_option maxHeartbeats 102400000 in
theorem symLongA_any (wb : World) (b off cap : Nat) (T : List Tw) (w : World) (a m e : Nat) (IH : SymLess wb b off cap (e - a)) (hR : RowIs wb b off T w) (hcap : T.length ≤ cap) (hmax : T.length ≤ 2305843009213693951) (ham : a + 1 < m) (hme : m + 1 < e) (he : e ≤ T.length) (hT : So.Two a m e T) (hab : (a + e) / 2 < m) :
    Calls Try.prog 102 #[.slice (some ⟨b, off, none⟩) T.length cap, .int .i64 a, .int .i64 m, .int .i64 e, .func (.func 86) #[] #[]] w fun en w' => en = .returned (.tuple #[]) ∧ ∃ T', RowIs wb b off T' w' ∧ So.Seg a e T T' ∧ So.Srt T' a e := by
  have HR := Lib.hid hR
  have HT := Lib.hid hT
  have HIH := Lib.hid IH
  have q0 : ((m : Int) - (a : Int) == 1) = false := beq_eq_false_iff_ne.2 (by omega)
  have q1 : ((e : Int) - (m : Int) == 1) = false := beq_eq_false_iff_ne.2 (by omega)
  have hlh := So.lohi (show a ≤ m by omega) (show m ≤ e by omega)
  have HSTART := Lib.hid (So.Sea.start (T := T) (show a ≤ m by omega) (show m ≤ e by omega))
  obtain ⟨md, hmd⟩ : ∃ md, (a + e) / 2 = md := ⟨_, rfl⟩
  have z1 : ((a : Int) + (e : Int)) / 2 = (md : Int) := by omega
  have z2 : (0 : Int) ≤ (a : Int) + (e : Int) := by omega
  have z3 : (a : Int) + (e : Int) ≤ 9223372036854775807 := by omega
  have hmd1 : a + 1 ≤ md := by omega
  have hmd2 : md + 1 ≤ e := by omega
  have hab' : md < m := by omega
  have HMD := Lib.hid hmd
  have hlo : So.lo a m e = md + m - e := by unfold So.lo; rw [if_pos (by omega)]; omega
  have hhi : So.hi a m e = md := by unfold So.hi; rw [if_pos (by omega)]; omega
  obtain ⟨st0, hst0⟩ : ∃ s, md + m - e = s := ⟨_, rfl⟩
  have z4 : (md : Int) + (m : Int) - (e : Int) = (st0 : Int) := by omega
  have dgt : decide ((md : Int) < (m : Int)) = true := decide_eq_true (by omega)
  have dgt2 : (md : Int) < (m : Int) := by omega
  have HLO := Lib.hid (hlo.trans hst0)
  have HHI := Lib.hid hhi
  have hst1 : So.lo a m e = st0 := HLO.out
  clear hst0
  clear hR hT IH hab hmd hlo hhi hlh hst1
  go_enter Try.func102, Try.ntmps102
  go_wp2_with fail
  go_loopw [20, 21, 23] (fun s20 s21 _ wr => ∃ st r : Nat, s20 = .int .i64 (st : Int) ∧ s21 = .int .i64 (r : Int) ∧ RowIs wb b off T wr ∧ So.Sea a m e st r T) (fun s20 s21 _ _ => (intOf s21).toNat - (intOf s20).toNat)
  case atStart => exact ⟨st0, md, rfl, rfl, HR.out, by have := HSTART.out; rw [HLO.out, HHI.out] at this; exact this⟩
  case round =>
    obtain ⟨st, r9, rfl, rfl, hrow, hsea⟩ := hrel
    have hle := hsea.le
    have HSEA := Lib.hid hsea
    have HROW := Lib.hid hrow
    by_cases hlt : st < r9
    · have hz : (st : Int) < (r9 : Int) := by omega
      obtain ⟨c, hc⟩ : ∃ c, (st + r9) / 2 = c := ⟨_, rfl⟩
      have hc1 : st ≤ c := by omega
      have hc2 : c < r9 := by omega
      have hmid := hsea.mid (by omega) (by omega) hc1 hc2
      rw [HMD.out] at hmid
      obtain ⟨dd, hdd⟩ : ∃ dd, md + m - 1 - c = dd := ⟨_, rfl⟩
      rw [hdd] at hmid
      obtain ⟨m1, m2, m3, m4, m5⟩ := hmid
      have y1 : ((st : Int) + (r9 : Int)) / 2 = (c : Int) := by omega
      have y2 : (0 : Int) ≤ (st : Int) + (r9 : Int) := by omega
      have y3 : (st : Int) + (r9 : Int) ≤ 9223372036854775807 := by have := hsea.hi_; rw [HHI.out] at this; omega
      have y4 : (md : Int) + (m : Int) - 1 - (c : Int) = (dd : Int) := by omega
      have n0 : (0 : Int) ≤ (c : Int) := by omega
      have n1 : (c : Int) < (T.length : Int) := by omega
      have n2 : (0 : Int) ≤ (dd : Int) := by omega
      have n3 : (dd : Int) < (T.length : Int) := by omega
      have HDD := Lib.hid (show (a + e) / 2 + m - 1 - c = dd from by rw [HMD.out]; exact hdd)
      clear hc hdd hsea
      obtain ⟨⟨e0, e1, e2, e3⟩, -⟩ := hrow.cells (i := dd) (by omega)
      obtain ⟨⟨d0, d1, d2, d3⟩, -⟩ := hrow.cells (i := c) (by omega)
      obtain ⟨x, hx⟩ : ∃ x, (So.g T (dd)).1 = x := ⟨_, rfl⟩
      obtain ⟨y, hy⟩ : ∃ y, (So.g T (c)).1 = y := ⟨_, rfl⟩
      rw [hx] at e0 e1 e2 e3
      rw [hy] at d0 d1 d2 d3
      obtain ⟨r, hr⟩ : ∃ r, So.cf x y = r := ⟨_, rfl⟩
      obtain ⟨x1, x2, x3, x4⟩ := x
      obtain ⟨y1, y2, y3, y4⟩ := y
      have k0 := fun dd os => cell_regrown e0 dd os
      have k1 := fun dd os => cell_regrown e1 dd os
      have k2 := fun dd os => cell_regrown e2 dd os
      have k3 := fun dd os => cell_regrown e3 dd os
      have m0 := fun dd os => cell_regrown d0 dd os
      have m1 := fun dd os => cell_regrown d1 dd os
      have m2 := fun dd os => cell_regrown d2 dd os
      have m3 := fun dd os => cell_regrown d3 dd os
      have cl : ∀ dd os, Calls Try.prog 86 #[.agg #[.int .i64 x1, .int .i64 x2, .int .i64 x3, .bool x4], .agg #[.int .i64 y1, .int .i64 y2, .int .i64 y3, .bool y4]] (Sort.grow (redrawn wr dd) os) fun e w'' => e = .returned (.int .i64 r) ∧ ∃ p : Regrown, w'' = Sort.grow (redrawn wr p.d) p.os := fun dd os => Calls.regrown_of (by have q := newest1_any (x1, x2, x3, x4) (y1, y2, y3, y4) (Sort.grow (redrawn wr dd) os); rw [hr] at q; exact q)
      have CL := Lib.hid cl
      have HCF := Lib.hid (show So.cf (So.g T (dd)).1 (So.g T (c)).1 = r from by rw [hx, hy]; exact hr)
      clear cl hr hx hy e0 e1 e2 e3 d0 d1 d2 d3
      clear hrow
      by_cases hneg : r < 0
      · have hd : decide (r < 0) = true := decide_eq_true hneg
        go_wp2_with fail
        refine wp_region_quiet_below (by kernel_rfl) (by kernel_rfl) ?_
        repeat (first | go_big_quiet_step (exact CL.out _ _) | quiet_step (exact CL.out _ _))
        refine wpQuiet_nil ?_
        intro _ hw'
        obtain ⟨⟨dq, osq⟩, hw''⟩ := hw'
        subst hw''
        have hbq := below_regrown wr dq osq
        clear k0 k1 k2 k3 m0 m1 m2 m3
        have HR3 := Lib.hid (HROW.out.later hbq)
        have HQ := Lib.hid (HSEA.out.left (c := c) HT.out (by omega) (by omega) hc1 hc2 (by rw [HDD.out]; exact HT.out.yes (p := c) (q := dd) m1 (by rw [HCF.out]; exact hneg)))
        clear hbq
        go_wp2_with fail
        go_roundw
        case rel => exact ⟨st, c, rfl, rfl, HR3.out, HQ.out⟩
        case measure => simp [intOf]; omega
      · have hd : decide (r < 0) = false := decide_eq_false hneg
        go_wp2_with fail
        refine wp_region_quiet_below (by kernel_rfl) (by kernel_rfl) ?_
        repeat (first | go_big_quiet_step (exact CL.out _ _) | quiet_step (exact CL.out _ _))
        refine wpQuiet_nil ?_
        intro _ hw'
        obtain ⟨⟨dq, osq⟩, hw''⟩ := hw'
        subst hw''
        have hbq := below_regrown wr dq osq
        clear k0 k1 k2 k3 m0 m1 m2 m3
        have HR3 := Lib.hid (HROW.out.later hbq)
        have HQ := Lib.hid (HSEA.out.right (c := c) HT.out (by omega) (by omega) hc1 hc2 (by rw [HDD.out]; exact HT.out.no (p := c) (q := dd) m1 m2 m4 m5 (by rw [HCF.out]; omega)))
        clear hbq
        go_wp2_with fail
        go_roundw
        case rel => exact ⟨c + 1, r9, by go_num, rfl, HR3.out, HQ.out⟩
        case measure => simp [intOf]; omega
    · have hij2 : st = r9 := by omega
      subst hij2
      have hz : ¬ (st : Int) < (st : Int) := by omega
      have hcut := hsea.cut HT.out (by omega) (by omega)
      have HCUT := Lib.hid hcut
      have k1 := hcut.fa
      have k2 := hcut.sm
      have k3 := hcut.smid
      have k4 := hcut.me
      have k5 := hcut.eb
      rw [HMD.out] at k3 k4 k5
      obtain ⟨e2, he2⟩ : ∃ e2, md + m - st = e2 := ⟨_, rfl⟩
      have k6 : e2 + st = md + m := by omega
      have k6a : e2 + st ≤ md + m := by omega
      have k6b : md + m ≤ e2 + st := by omega
      have y4 : (md : Int) + (m : Int) - (st : Int) = (e2 : Int) := by omega
      have HHV := Lib.hid (fun T1 (h : So.Rot st m e2 T T1) => by
        have := HCUT.out.halves (T1 := T1) HT.out (by rw [HMD.out, he2]; exact h)
        exact this)
      have HE2 := Lib.hid (show (a + e) / 2 + m - st = e2 from by rw [HMD.out]; exact he2)
      clear hsea hcut hrow he2 k6 hlt
      by_cases p1 : st < m
      · by_cases p2 : m < e2
        · by_cases p3 : a < st
          · by_cases p4 : e2 < e
            · skip
              have c1 : decide ((st : Int) < (m : Int)) = true := decide_eq_true (by omega)
              have c1b : (st : Int) < (m : Int) := by omega
              have c2 : decide ((m : Int) < (e2 : Int)) = true := decide_eq_true (by omega)
              have c2b : (m : Int) < (e2 : Int) := by omega
              have c3 : decide ((a : Int) < (st : Int)) = true := decide_eq_true (by omega)
              have c3b : (a : Int) < (st : Int) := by omega
              have c4 : decide ((st : Int) < (md : Int)) = true := decide_eq_true (by omega)
              have c4b : (st : Int) < (md : Int) := by omega
              have c5 : decide ((md : Int) < (e2 : Int)) = true := decide_eq_true (by omega)
              have c5b : (md : Int) < (e2 : Int) := by omega
              have c6 : decide ((e2 : Int) < (e : Int)) = true := decide_eq_true (by omega)
              have c6b : (e2 : Int) < (e : Int) := by omega
              have N1 := rotate_any (.func (.func 86) #[] #[]) wb b off cap T wr st m e2 HROW.out hcap (by omega) (by omega) (by omega) (by omega)
              have NN1 := Lib.hid N1
              clear N1
              go_wp2_with fail
              refine NN1.out.mono ?_
              rintro en w1 ⟨rfl, T1, hr1, hrot⟩
              have HV := Lib.hid (HHV.out T1 hrot)
              have HS1 := Lib.hid ((hrot.seg (by omega) (by omega)).mono (show a ≤ st by omega) (show e2 ≤ e by omega))
              have hl1 := HS1.out.len
              have HR1 := Lib.hid hr1
              clear hr1 hrot
              have N2 := HIH.out T1 w1 a st md (by omega) HR1.out (by omega) (by omega) (by omega) (by omega) (by omega) (by have := HV.out.one; rw [HMD.out] at this; exact this)
              rw [hl1] at N2
              have NN2 := Lib.hid N2
              clear N2
              go_wp2_with fail
              refine NN2.out.mono ?_
              rintro en w2 ⟨rfl, T2, hr2, hs2, hsr2⟩
              have hl2 := hs2.len.trans hl1
              have HS2 := Lib.hid hs2
              have HSR2 := Lib.hid hsr2
              have HR2 := Lib.hid hr2
              clear hr2 hs2 hsr2
              have N3 := HIH.out T2 w2 md e2 e (by omega) HR2.out (by omega) (by omega) (by omega) (by omega) (by omega) (So.Two.far (by have := HV.out.two; rw [HE2.out, HMD.out] at this; exact this) HS2.out (.inr (Nat.le_refl _)) (by omega) (by omega))
              rw [hl2] at N3
              have NN3 := Lib.hid N3
              clear N3
              go_wp2_with fail
              refine NN3.out.mono ?_
              rintro en w3 ⟨rfl, T3, hr3, hs3, hsr3⟩
              have HS3 := Lib.hid hs3
              have HSR3 := Lib.hid hsr3
              have HR3 := Lib.hid hr3
              clear hr3 hs3 hsr3
              have HFIN := Lib.hid (show So.Srt T3 a e from HV.out.done (by rw [HMD.out]; exact HS2.out) (by rw [HMD.out]; exact HSR2.out) (by rw [HMD.out]; exact HS3.out) (by rw [HMD.out]; exact HSR3.out))
              have HSG := Lib.hid ((HS1.out.trans (HS2.out.mono (Nat.le_refl _) (by omega))).trans (HS3.out.mono (by omega) (Nat.le_refl _)))
              go_wp2
              go_end0
              exact ⟨rfl, T3, HR3.out, HSG.out, HFIN.out⟩
            · skip
              have c1 : decide ((st : Int) < (m : Int)) = true := decide_eq_true (by omega)
              have c1b : (st : Int) < (m : Int) := by omega
              have c2 : decide ((m : Int) < (e2 : Int)) = true := decide_eq_true (by omega)
              have c2b : (m : Int) < (e2 : Int) := by omega
              have c3 : decide ((a : Int) < (st : Int)) = true := decide_eq_true (by omega)
              have c3b : (a : Int) < (st : Int) := by omega
              have c4 : decide ((st : Int) < (md : Int)) = true := decide_eq_true (by omega)
              have c4b : (st : Int) < (md : Int) := by omega
              have c5 : decide ((md : Int) < (e2 : Int)) = true := decide_eq_true (by omega)
              have c5b : (md : Int) < (e2 : Int) := by omega
              have c6 : decide ((e2 : Int) < (e : Int)) = false := decide_eq_false (by omega)
              have c6b : ¬ (e2 : Int) < (e : Int) := by omega
              have N1 := rotate_any (.func (.func 86) #[] #[]) wb b off cap T wr st m e2 HROW.out hcap (by omega) (by omega) (by omega) (by omega)
              have NN1 := Lib.hid N1
              clear N1
              go_wp2_with fail
              refine NN1.out.mono ?_
              rintro en w1 ⟨rfl, T1, hr1, hrot⟩
              have HV := Lib.hid (HHV.out T1 hrot)
              have HS1 := Lib.hid ((hrot.seg (by omega) (by omega)).mono (show a ≤ st by omega) (show e2 ≤ e by omega))
              have hl1 := HS1.out.len
              have HR1 := Lib.hid hr1
              clear hr1 hrot
              have N2 := HIH.out T1 w1 a st md (by omega) HR1.out (by omega) (by omega) (by omega) (by omega) (by omega) (by have := HV.out.one; rw [HMD.out] at this; exact this)
              rw [hl1] at N2
              have NN2 := Lib.hid N2
              clear N2
              go_wp2_with fail
              refine NN2.out.mono ?_
              rintro en w2 ⟨rfl, T2, hr2, hs2, hsr2⟩
              have hl2 := hs2.len.trans hl1
              have HS2 := Lib.hid hs2
              have HSR2 := Lib.hid hsr2
              have HR2 := Lib.hid hr2
              clear hr2 hs2 hsr2
              have HS3 := Lib.hid (So.Seg.refl md e T2)
              have HSR3 := Lib.hid (show So.Srt T2 md e from (So.Two.far (by have := HV.out.two; rw [HE2.out, HMD.out] at this; exact this) HS2.out (.inr (Nat.le_refl _)) (by omega) (by omega)).fst_only (by omega))
              have HR3 := HR2
              have HFIN := Lib.hid (show So.Srt T2 a e from HV.out.done (by rw [HMD.out]; exact HS2.out) (by rw [HMD.out]; exact HSR2.out) (by rw [HMD.out]; exact HS3.out) (by rw [HMD.out]; exact HSR3.out))
              have HSG := Lib.hid ((HS1.out.trans (HS2.out.mono (Nat.le_refl _) (by omega))).trans (HS3.out.mono (by omega) (Nat.le_refl _)))
              go_wp2
              go_end0
              exact ⟨rfl, T2, HR3.out, HSG.out, HFIN.out⟩
          · by_cases p4 : e2 < e
            · skip
              have c1 : decide ((st : Int) < (m : Int)) = true := decide_eq_true (by omega)
              have c1b : (st : Int) < (m : Int) := by omega
              have c2 : decide ((m : Int) < (e2 : Int)) = true := decide_eq_true (by omega)
              have c2b : (m : Int) < (e2 : Int) := by omega
              have c3 : decide ((a : Int) < (st : Int)) = false := decide_eq_false (by omega)
              have c3b : ¬ (a : Int) < (st : Int) := by omega
              have c5 : decide ((md : Int) < (e2 : Int)) = true := decide_eq_true (by omega)
              have c5b : (md : Int) < (e2 : Int) := by omega
              have c6 : decide ((e2 : Int) < (e : Int)) = true := decide_eq_true (by omega)
              have c6b : (e2 : Int) < (e : Int) := by omega
              have N1 := rotate_any (.func (.func 86) #[] #[]) wb b off cap T wr st m e2 HROW.out hcap (by omega) (by omega) (by omega) (by omega)
              have NN1 := Lib.hid N1
              clear N1
              go_wp2_with fail
              refine NN1.out.mono ?_
              rintro en w1 ⟨rfl, T1, hr1, hrot⟩
              have HV := Lib.hid (HHV.out T1 hrot)
              have HS1 := Lib.hid ((hrot.seg (by omega) (by omega)).mono (show a ≤ st by omega) (show e2 ≤ e by omega))
              have hl1 := HS1.out.len
              have HR1 := Lib.hid hr1
              clear hr1 hrot
              have HS2 := Lib.hid (So.Seg.refl a md T1)
              have HSR2 := Lib.hid (show So.Srt T1 a md from by have := HV.out.one; rw [HMD.out] at this; exact this.fst_only (by omega))
              have HR2 := HR1
              have hl2 := hl1
              have N3 := HIH.out T1 w1 md e2 e (by omega) HR2.out (by omega) (by omega) (by omega) (by omega) (by omega) (So.Two.far (by have := HV.out.two; rw [HE2.out, HMD.out] at this; exact this) HS2.out (.inr (Nat.le_refl _)) (by omega) (by omega))
              rw [hl2] at N3
              have NN3 := Lib.hid N3
              clear N3
              go_wp2_with fail
              refine NN3.out.mono ?_
              rintro en w3 ⟨rfl, T3, hr3, hs3, hsr3⟩
              have HS3 := Lib.hid hs3
              have HSR3 := Lib.hid hsr3
              have HR3 := Lib.hid hr3
              clear hr3 hs3 hsr3
              have HFIN := Lib.hid (show So.Srt T3 a e from HV.out.done (by rw [HMD.out]; exact HS2.out) (by rw [HMD.out]; exact HSR2.out) (by rw [HMD.out]; exact HS3.out) (by rw [HMD.out]; exact HSR3.out))
              have HSG := Lib.hid ((HS1.out.trans (HS2.out.mono (Nat.le_refl _) (by omega))).trans (HS3.out.mono (by omega) (Nat.le_refl _)))
              go_wp2
              go_end0
              exact ⟨rfl, T3, HR3.out, HSG.out, HFIN.out⟩
            · skip
              have c1 : decide ((st : Int) < (m : Int)) = true := decide_eq_true (by omega)
              have c1b : (st : Int) < (m : Int) := by omega
              have c2 : decide ((m : Int) < (e2 : Int)) = true := decide_eq_true (by omega)
              have c2b : (m : Int) < (e2 : Int) := by omega
              have c3 : decide ((a : Int) < (st : Int)) = false := decide_eq_false (by omega)
              have c3b : ¬ (a : Int) < (st : Int) := by omega
              have c5 : decide ((md : Int) < (e2 : Int)) = true := decide_eq_true (by omega)
              have c5b : (md : Int) < (e2 : Int) := by omega
              have c6 : decide ((e2 : Int) < (e : Int)) = false := decide_eq_false (by omega)
              have c6b : ¬ (e2 : Int) < (e : Int) := by omega
              have N1 := rotate_any (.func (.func 86) #[] #[]) wb b off cap T wr st m e2 HROW.out hcap (by omega) (by omega) (by omega) (by omega)
              have NN1 := Lib.hid N1
              clear N1
              go_wp2_with fail
              refine NN1.out.mono ?_
              rintro en w1 ⟨rfl, T1, hr1, hrot⟩
              have HV := Lib.hid (HHV.out T1 hrot)
              have HS1 := Lib.hid ((hrot.seg (by omega) (by omega)).mono (show a ≤ st by omega) (show e2 ≤ e by omega))
              have hl1 := HS1.out.len
              have HR1 := Lib.hid hr1
              clear hr1 hrot
              have HS2 := Lib.hid (So.Seg.refl a md T1)
              have HSR2 := Lib.hid (show So.Srt T1 a md from by have := HV.out.one; rw [HMD.out] at this; exact this.fst_only (by omega))
              have HR2 := HR1
              have hl2 := hl1
              have HS3 := Lib.hid (So.Seg.refl md e T1)
              have HSR3 := Lib.hid (show So.Srt T1 md e from (So.Two.far (by have := HV.out.two; rw [HE2.out, HMD.out] at this; exact this) HS2.out (.inr (Nat.le_refl _)) (by omega) (by omega)).fst_only (by omega))
              have HR3 := HR2
              have HFIN := Lib.hid (show So.Srt T1 a e from HV.out.done (by rw [HMD.out]; exact HS2.out) (by rw [HMD.out]; exact HSR2.out) (by rw [HMD.out]; exact HS3.out) (by rw [HMD.out]; exact HSR3.out))
              have HSG := Lib.hid ((HS1.out.trans (HS2.out.mono (Nat.le_refl _) (by omega))).trans (HS3.out.mono (by omega) (Nat.le_refl _)))
              go_wp2
              go_end0
              exact ⟨rfl, T1, HR3.out, HSG.out, HFIN.out⟩
        · skip
          have c1 : decide ((st : Int) < (m : Int)) = true := decide_eq_true (by omega)
          have c1b : (st : Int) < (m : Int) := by omega
          have c2 : decide ((m : Int) < (e2 : Int)) = false := decide_eq_false (by omega)
          have c2b : ¬ (m : Int) < (e2 : Int) := by omega
          have c3 : decide ((a : Int) < (st : Int)) = true := decide_eq_true (by omega)
          have c3b : (a : Int) < (st : Int) := by omega
          have c4 : decide ((st : Int) < (md : Int)) = false := decide_eq_false (by omega)
          have c4b : ¬ (st : Int) < (md : Int) := by omega
          have c5 : decide ((md : Int) < (e2 : Int)) = true := decide_eq_true (by omega)
          have c5b : (md : Int) < (e2 : Int) := by omega
          have c6 : decide ((e2 : Int) < (e : Int)) = true := decide_eq_true (by omega)
          have c6b : (e2 : Int) < (e : Int) := by omega
          have HV := Lib.hid (HHV.out T (So.Rot.none st m e2 T (by omega) (by omega) (by omega)))
          have HS1 := Lib.hid (So.Seg.refl a e T)
          have HR1 := Lib.hid HROW.out
          have HS2 := Lib.hid (So.Seg.refl a md T)
          have HSR2 := Lib.hid (show So.Srt T a md from by have := HV.out.one; rw [HMD.out] at this; exact this.fst_only (by omega))
          have HR2 := HR1
          have N3 := HIH.out T wr md e2 e (by omega) HR2.out (by omega) (by omega) (by omega) (by omega) (by omega) (So.Two.far (by have := HV.out.two; rw [HE2.out, HMD.out] at this; exact this) HS2.out (.inr (Nat.le_refl _)) (by omega) (by omega))
          have NN3 := Lib.hid N3
          clear N3
          go_wp2_with fail
          refine NN3.out.mono ?_
          rintro en w3 ⟨rfl, T3, hr3, hs3, hsr3⟩
          have HS3 := Lib.hid hs3
          have HSR3 := Lib.hid hsr3
          have HR3 := Lib.hid hr3
          clear hr3 hs3 hsr3
          have HFIN := Lib.hid (show So.Srt T3 a e from HV.out.done (by rw [HMD.out]; exact HS2.out) (by rw [HMD.out]; exact HSR2.out) (by rw [HMD.out]; exact HS3.out) (by rw [HMD.out]; exact HSR3.out))
          have HSG := Lib.hid ((HS1.out.trans (HS2.out.mono (Nat.le_refl _) (by omega))).trans (HS3.out.mono (by omega) (Nat.le_refl _)))
          go_wp2
          go_end0
          exact ⟨rfl, T3, HR3.out, HSG.out, HFIN.out⟩
      · omega

end Go.Proofs.Ytoaclofobfaflaa
namespace Go.Proofs.Ytoaclofobfaflaa
open Go.RowKit Fb

set_option maxRecDepth 100000 in
set_option maxHeartbeats 102400000 in
theorem symLongB_any (wb : World) (b off cap : Nat) (T : List Tw) (w : World) (a m e : Nat) (IH : SymLess wb b off cap (e - a)) (hR : RowIs wb b off T w) (hcap : T.length ≤ cap) (hmax : T.length ≤ 2305843009213693951) (ham : a + 1 < m) (hme : m + 1 < e) (he : e ≤ T.length) (hT : So.Two a m e T) (hab : m ≤ (a + e) / 2) :
    Calls Try.prog 102 #[.slice (some ⟨b, off, none⟩) T.length cap, .int .i64 a, .int .i64 m, .int .i64 e, .func (.func 86) #[] #[]] w fun en w' => en = .returned (.tuple #[]) ∧ ∃ T', RowIs wb b off T' w' ∧ So.Seg a e T T' ∧ So.Srt T' a e := by
  have HR := Lib.hid hR
  have HT := Lib.hid hT
  have HIH := Lib.hid IH
  have q0 : ((m : Int) - (a : Int) == 1) = false := beq_eq_false_iff_ne.2 (by omega)
  have q1 : ((e : Int) - (m : Int) == 1) = false := beq_eq_false_iff_ne.2 (by omega)
  have hlh := So.lohi (show a ≤ m by omega) (show m ≤ e by omega)
  have HSTART := Lib.hid (So.Sea.start (T := T) (show a ≤ m by omega) (show m ≤ e by omega))
  obtain ⟨md, hmd⟩ : ∃ md, (a + e) / 2 = md := ⟨_, rfl⟩
  have z1 : ((a : Int) + (e : Int)) / 2 = (md : Int) := by omega
  have z2 : (0 : Int) ≤ (a : Int) + (e : Int) := by omega
  have z3 : (a : Int) + (e : Int) ≤ 9223372036854775807 := by omega
  have hmd1 : a + 1 ≤ md := by omega
  have hmd2 : md + 1 ≤ e := by omega
  have hab' : m ≤ md := by omega
  have HMD := Lib.hid hmd
  have hlo : So.lo a m e = a := by unfold So.lo; rw [if_neg (by omega)]
  have hhi : So.hi a m e = m := by unfold So.hi; rw [if_neg (by omega)]
  have dgt : decide ((md : Int) < (m : Int)) = false := decide_eq_false (by omega)
  have dgt2 : ¬ (md : Int) < (m : Int) := by omega
  have HLO := Lib.hid hlo
  have HHI := Lib.hid hhi
  clear hR hT IH hab hmd hlo hhi hlh
  go_enter Try.func102, Try.ntmps102
  go_wp2_with fail
  go_loopw [20, 21, 23] (fun s20 s21 _ wr => ∃ st r : Nat, s20 = .int .i64 (st : Int) ∧ s21 = .int .i64 (r : Int) ∧ RowIs wb b off T wr ∧ So.Sea a m e st r T) (fun s20 s21 _ _ => (intOf s21).toNat - (intOf s20).toNat)
  case atStart => exact ⟨a, m, rfl, rfl, HR.out, by have := HSTART.out; rw [HLO.out, HHI.out] at this; exact this⟩
  case round =>
    obtain ⟨st, r9, rfl, rfl, hrow, hsea⟩ := hrel
    have hle := hsea.le
    have HSEA := Lib.hid hsea
    have HROW := Lib.hid hrow
    by_cases hlt : st < r9
    · have hz : (st : Int) < (r9 : Int) := by omega
      obtain ⟨c, hc⟩ : ∃ c, (st + r9) / 2 = c := ⟨_, rfl⟩
      have hc1 : st ≤ c := by omega
      have hc2 : c < r9 := by omega
      have hmid := hsea.mid (by omega) (by omega) hc1 hc2
      rw [HMD.out] at hmid
      obtain ⟨dd, hdd⟩ : ∃ dd, md + m - 1 - c = dd := ⟨_, rfl⟩
      rw [hdd] at hmid
      obtain ⟨m1, m2, m3, m4, m5⟩ := hmid
      have y1 : ((st : Int) + (r9 : Int)) / 2 = (c : Int) := by omega
      have y2 : (0 : Int) ≤ (st : Int) + (r9 : Int) := by omega
      have y3 : (st : Int) + (r9 : Int) ≤ 9223372036854775807 := by have := hsea.hi_; rw [HHI.out] at this; omega
      have y4 : (md : Int) + (m : Int) - 1 - (c : Int) = (dd : Int) := by omega
      have n0 : (0 : Int) ≤ (c : Int) := by omega
      have n1 : (c : Int) < (T.length : Int) := by omega
      have n2 : (0 : Int) ≤ (dd : Int) := by omega
      have n3 : (dd : Int) < (T.length : Int) := by omega
      have HDD := Lib.hid (show (a + e) / 2 + m - 1 - c = dd from by rw [HMD.out]; exact hdd)
      clear hc hdd hsea
      obtain ⟨⟨e0, e1, e2, e3⟩, -⟩ := hrow.cells (i := dd) (by omega)
      obtain ⟨⟨d0, d1, d2, d3⟩, -⟩ := hrow.cells (i := c) (by omega)
      obtain ⟨x, hx⟩ : ∃ x, (So.g T (dd)).1 = x := ⟨_, rfl⟩
      obtain ⟨y, hy⟩ : ∃ y, (So.g T (c)).1 = y := ⟨_, rfl⟩
      rw [hx] at e0 e1 e2 e3
      rw [hy] at d0 d1 d2 d3
      obtain ⟨r, hr⟩ : ∃ r, So.cf x y = r := ⟨_, rfl⟩
      obtain ⟨x1, x2, x3, x4⟩ := x
      obtain ⟨y1, y2, y3, y4⟩ := y
      have k0 := fun dd os => cell_regrown e0 dd os
      have k1 := fun dd os => cell_regrown e1 dd os
      have k2 := fun dd os => cell_regrown e2 dd os
      have k3 := fun dd os => cell_regrown e3 dd os
      have m0 := fun dd os => cell_regrown d0 dd os
      have m1 := fun dd os => cell_regrown d1 dd os
      have m2 := fun dd os => cell_regrown d2 dd os
      have m3 := fun dd os => cell_regrown d3 dd os
      have cl : ∀ dd os, Calls Try.prog 86 #[.agg #[.int .i64 x1, .int .i64 x2, .int .i64 x3, .bool x4], .agg #[.int .i64 y1, .int .i64 y2, .int .i64 y3, .bool y4]] (Sort.grow (redrawn wr dd) os) fun e w'' => e = .returned (.int .i64 r) ∧ ∃ p : Regrown, w'' = Sort.grow (redrawn wr p.d) p.os := fun dd os => Calls.regrown_of (by have q := newest1_any (x1, x2, x3, x4) (y1, y2, y3, y4) (Sort.grow (redrawn wr dd) os); rw [hr] at q; exact q)
      have CL := Lib.hid cl
      have HCF := Lib.hid (show So.cf (So.g T (dd)).1 (So.g T (c)).1 = r from by rw [hx, hy]; exact hr)
      clear cl hr hx hy e0 e1 e2 e3 d0 d1 d2 d3
      clear hrow
      by_cases hneg : r < 0
      · have hd : decide (r < 0) = true := decide_eq_true hneg
        go_wp2_with fail
        refine wp_region_quiet_below (by kernel_rfl) (by kernel_rfl) ?_
        repeat (first | go_big_quiet_step (exact CL.out _ _) | quiet_step (exact CL.out _ _))
        refine wpQuiet_nil ?_
        intro _ hw'
        obtain ⟨⟨dq, osq⟩, hw''⟩ := hw'
        subst hw''
        have hbq := below_regrown wr dq osq
        clear k0 k1 k2 k3 m0 m1 m2 m3
        have HR3 := Lib.hid (HROW.out.later hbq)
        have HQ := Lib.hid (HSEA.out.left (c := c) HT.out (by omega) (by omega) hc1 hc2 (by rw [HDD.out]; exact HT.out.yes (p := c) (q := dd) m1 (by rw [HCF.out]; exact hneg)))
        clear hbq
        go_wp2_with fail
        go_roundw
        case rel => exact ⟨st, c, rfl, rfl, HR3.out, HQ.out⟩
        case measure => simp [intOf]; omega
      · have hd : decide (r < 0) = false := decide_eq_false hneg
        go_wp2_with fail
        refine wp_region_quiet_below (by kernel_rfl) (by kernel_rfl) ?_
        repeat (first | go_big_quiet_step (exact CL.out _ _) | quiet_step (exact CL.out _ _))
        refine wpQuiet_nil ?_
        intro _ hw'
        obtain ⟨⟨dq, osq⟩, hw''⟩ := hw'
        subst hw''
        have hbq := below_regrown wr dq osq
        clear k0 k1 k2 k3 m0 m1 m2 m3
        have HR3 := Lib.hid (HROW.out.later hbq)
        have HQ := Lib.hid (HSEA.out.right (c := c) HT.out (by omega) (by omega) hc1 hc2 (by rw [HDD.out]; exact HT.out.no (p := c) (q := dd) m1 m2 m4 m5 (by rw [HCF.out]; omega)))
        clear hbq
        go_wp2_with fail
        go_roundw
        case rel => exact ⟨c + 1, r9, by go_num, rfl, HR3.out, HQ.out⟩
        case measure => simp [intOf]; omega
    · have hij2 : st = r9 := by omega
      subst hij2
      have hz : ¬ (st : Int) < (st : Int) := by omega
      have hcut := hsea.cut HT.out (by omega) (by omega)
      have HCUT := Lib.hid hcut
      have k1 := hcut.fa
      have k2 := hcut.sm
      have k3 := hcut.smid
      have k4 := hcut.me
      have k5 := hcut.eb
      rw [HMD.out] at k3 k4 k5
      obtain ⟨e2, he2⟩ : ∃ e2, md + m - st = e2 := ⟨_, rfl⟩
      have k6 : e2 + st = md + m := by omega
      have k6a : e2 + st ≤ md + m := by omega
      have k6b : md + m ≤ e2 + st := by omega
      have y4 : (md : Int) + (m : Int) - (st : Int) = (e2 : Int) := by omega
      have HHV := Lib.hid (fun T1 (h : So.Rot st m e2 T T1) => by
        have := HCUT.out.halves (T1 := T1) HT.out (by rw [HMD.out, he2]; exact h)
        exact this)
      have HE2 := Lib.hid (show (a + e) / 2 + m - st = e2 from by rw [HMD.out]; exact he2)
      clear hsea hcut hrow he2 k6 hlt
      by_cases p1 : st < m
      · by_cases p2 : m < e2
        · by_cases p3 : a < st
          · by_cases p4 : e2 < e
            · skip
              have c1 : decide ((st : Int) < (m : Int)) = true := decide_eq_true (by omega)
              have c1b : (st : Int) < (m : Int) := by omega
              have c2 : decide ((m : Int) < (e2 : Int)) = true := decide_eq_true (by omega)
              have c2b : (m : Int) < (e2 : Int) := by omega
              have c3 : decide ((a : Int) < (st : Int)) = true := decide_eq_true (by omega)
              have c3b : (a : Int) < (st : Int) := by omega
              have c4 : decide ((st : Int) < (md : Int)) = true := decide_eq_true (by omega)
              have c4b : (st : Int) < (md : Int) := by omega
              have c5 : decide ((md : Int) < (e2 : Int)) = true := decide_eq_true (by omega)
              have c5b : (md : Int) < (e2 : Int) := by omega
              have c6 : decide ((e2 : Int) < (e : Int)) = true := decide_eq_true (by omega)
              have c6b : (e2 : Int) < (e : Int) := by omega
              have N1 := rotate_any (.func (.func 86) #[] #[]) wb b off cap T wr st m e2 HROW.out hcap (by omega) (by omega) (by omega) (by omega)
              have NN1 := Lib.hid N1
              clear N1
              go_wp2_with fail
              refine NN1.out.mono ?_
              rintro en w1 ⟨rfl, T1, hr1, hrot⟩
              have HV := Lib.hid (HHV.out T1 hrot)
              have HS1 := Lib.hid ((hrot.seg (by omega) (by omega)).mono (show a ≤ st by omega) (show e2 ≤ e by omega))
              have hl1 := HS1.out.len
              have HR1 := Lib.hid hr1
              clear hr1 hrot
              have N2 := HIH.out T1 w1 a st md (by omega) HR1.out (by omega) (by omega) (by omega) (by omega) (by omega) (by have := HV.out.one; rw [HMD.out] at this; exact this)
              rw [hl1] at N2
              have NN2 := Lib.hid N2
              clear N2
              go_wp2_with fail
              refine NN2.out.mono ?_
              rintro en w2 ⟨rfl, T2, hr2, hs2, hsr2⟩
              have hl2 := hs2.len.trans hl1
              have HS2 := Lib.hid hs2
              have HSR2 := Lib.hid hsr2
              have HR2 := Lib.hid hr2
              clear hr2 hs2 hsr2
              have N3 := HIH.out T2 w2 md e2 e (by omega) HR2.out (by omega) (by omega) (by omega) (by omega) (by omega) (So.Two.far (by have := HV.out.two; rw [HE2.out, HMD.out] at this; exact this) HS2.out (.inr (Nat.le_refl _)) (by omega) (by omega))
              rw [hl2] at N3
              have NN3 := Lib.hid N3
              clear N3
              go_wp2_with fail
              refine NN3.out.mono ?_
              rintro en w3 ⟨rfl, T3, hr3, hs3, hsr3⟩
              have HS3 := Lib.hid hs3
              have HSR3 := Lib.hid hsr3
              have HR3 := Lib.hid hr3
              clear hr3 hs3 hsr3
              have HFIN := Lib.hid (show So.Srt T3 a e from HV.out.done (by rw [HMD.out]; exact HS2.out) (by rw [HMD.out]; exact HSR2.out) (by rw [HMD.out]; exact HS3.out) (by rw [HMD.out]; exact HSR3.out))
              have HSG := Lib.hid ((HS1.out.trans (HS2.out.mono (Nat.le_refl _) (by omega))).trans (HS3.out.mono (by omega) (Nat.le_refl _)))
              go_wp2
              go_end0
              exact ⟨rfl, T3, HR3.out, HSG.out, HFIN.out⟩
            · skip
              have c1 : decide ((st : Int) < (m : Int)) = true := decide_eq_true (by omega)
              have c1b : (st : Int) < (m : Int) := by omega
              have c2 : decide ((m : Int) < (e2 : Int)) = true := decide_eq_true (by omega)
              have c2b : (m : Int) < (e2 : Int) := by omega
              have c3 : decide ((a : Int) < (st : Int)) = true := decide_eq_true (by omega)
              have c3b : (a : Int) < (st : Int) := by omega
              have c4 : decide ((st : Int) < (md : Int)) = true := decide_eq_true (by omega)
              have c4b : (st : Int) < (md : Int) := by omega
              have c5 : decide ((md : Int) < (e2 : Int)) = true := decide_eq_true (by omega)
              have c5b : (md : Int) < (e2 : Int) := by omega
              have c6 : decide ((e2 : Int) < (e : Int)) = false := decide_eq_false (by omega)
              have c6b : ¬ (e2 : Int) < (e : Int) := by omega
              have N1 := rotate_any (.func (.func 86) #[] #[]) wb b off cap T wr st m e2 HROW.out hcap (by omega) (by omega) (by omega) (by omega)
              have NN1 := Lib.hid N1
              clear N1
              go_wp2_with fail
              refine NN1.out.mono ?_
              rintro en w1 ⟨rfl, T1, hr1, hrot⟩
              have HV := Lib.hid (HHV.out T1 hrot)
              have HS1 := Lib.hid ((hrot.seg (by omega) (by omega)).mono (show a ≤ st by omega) (show e2 ≤ e by omega))
              have hl1 := HS1.out.len
              have HR1 := Lib.hid hr1
              clear hr1 hrot
              have N2 := HIH.out T1 w1 a st md (by omega) HR1.out (by omega) (by omega) (by omega) (by omega) (by omega) (by have := HV.out.one; rw [HMD.out] at this; exact this)
              rw [hl1] at N2
              have NN2 := Lib.hid N2
              clear N2
              go_wp2_with fail
              refine NN2.out.mono ?_
              rintro en w2 ⟨rfl, T2, hr2, hs2, hsr2⟩
              have hl2 := hs2.len.trans hl1
              have HS2 := Lib.hid hs2
              have HSR2 := Lib.hid hsr2
              have HR2 := Lib.hid hr2
              clear hr2 hs2 hsr2
              have HS3 := Lib.hid (So.Seg.refl md e T2)
              have HSR3 := Lib.hid (show So.Srt T2 md e from (So.Two.far (by have := HV.out.two; rw [HE2.out, HMD.out] at this; exact this) HS2.out (.inr (Nat.le_refl _)) (by omega) (by omega)).fst_only (by omega))
              have HR3 := HR2
              have HFIN := Lib.hid (show So.Srt T2 a e from HV.out.done (by rw [HMD.out]; exact HS2.out) (by rw [HMD.out]; exact HSR2.out) (by rw [HMD.out]; exact HS3.out) (by rw [HMD.out]; exact HSR3.out))
              have HSG := Lib.hid ((HS1.out.trans (HS2.out.mono (Nat.le_refl _) (by omega))).trans (HS3.out.mono (by omega) (Nat.le_refl _)))
              go_wp2
              go_end0
              exact ⟨rfl, T2, HR3.out, HSG.out, HFIN.out⟩
          · by_cases p4 : e2 < e
            · skip
              have c1 : decide ((st : Int) < (m : Int)) = true := decide_eq_true (by omega)
              have c1b : (st : Int) < (m : Int) := by omega
              have c2 : decide ((m : Int) < (e2 : Int)) = true := decide_eq_true (by omega)
              have c2b : (m : Int) < (e2 : Int) := by omega
              have c3 : decide ((a : Int) < (st : Int)) = false := decide_eq_false (by omega)
              have c3b : ¬ (a : Int) < (st : Int) := by omega
              have c5 : decide ((md : Int) < (e2 : Int)) = true := decide_eq_true (by omega)
              have c5b : (md : Int) < (e2 : Int) := by omega
              have c6 : decide ((e2 : Int) < (e : Int)) = true := decide_eq_true (by omega)
              have c6b : (e2 : Int) < (e : Int) := by omega
              have N1 := rotate_any (.func (.func 86) #[] #[]) wb b off cap T wr st m e2 HROW.out hcap (by omega) (by omega) (by omega) (by omega)
              have NN1 := Lib.hid N1
              clear N1
              go_wp2_with fail
              refine NN1.out.mono ?_
              rintro en w1 ⟨rfl, T1, hr1, hrot⟩
              have HV := Lib.hid (HHV.out T1 hrot)
              have HS1 := Lib.hid ((hrot.seg (by omega) (by omega)).mono (show a ≤ st by omega) (show e2 ≤ e by omega))
              have hl1 := HS1.out.len
              have HR1 := Lib.hid hr1
              clear hr1 hrot
              have HS2 := Lib.hid (So.Seg.refl a md T1)
              have HSR2 := Lib.hid (show So.Srt T1 a md from by have := HV.out.one; rw [HMD.out] at this; exact this.fst_only (by omega))
              have HR2 := HR1
              have hl2 := hl1
              have N3 := HIH.out T1 w1 md e2 e (by omega) HR2.out (by omega) (by omega) (by omega) (by omega) (by omega) (So.Two.far (by have := HV.out.two; rw [HE2.out, HMD.out] at this; exact this) HS2.out (.inr (Nat.le_refl _)) (by omega) (by omega))
              rw [hl2] at N3
              have NN3 := Lib.hid N3
              clear N3
              go_wp2_with fail
              refine NN3.out.mono ?_
              rintro en w3 ⟨rfl, T3, hr3, hs3, hsr3⟩
              have HS3 := Lib.hid hs3
              have HSR3 := Lib.hid hsr3
              have HR3 := Lib.hid hr3
              clear hr3 hs3 hsr3
              have HFIN := Lib.hid (show So.Srt T3 a e from HV.out.done (by rw [HMD.out]; exact HS2.out) (by rw [HMD.out]; exact HSR2.out) (by rw [HMD.out]; exact HS3.out) (by rw [HMD.out]; exact HSR3.out))
              have HSG := Lib.hid ((HS1.out.trans (HS2.out.mono (Nat.le_refl _) (by omega))).trans (HS3.out.mono (by omega) (Nat.le_refl _)))
              go_wp2
              go_end0
              exact ⟨rfl, T3, HR3.out, HSG.out, HFIN.out⟩
            · skip
              have c1 : decide ((st : Int) < (m : Int)) = true := decide_eq_true (by omega)
              have c1b : (st : Int) < (m : Int) := by omega
              have c2 : decide ((m : Int) < (e2 : Int)) = true := decide_eq_true (by omega)
              have c2b : (m : Int) < (e2 : Int) := by omega
              have c3 : decide ((a : Int) < (st : Int)) = false := decide_eq_false (by omega)
              have c3b : ¬ (a : Int) < (st : Int) := by omega
              have c5 : decide ((md : Int) < (e2 : Int)) = true := decide_eq_true (by omega)
              have c5b : (md : Int) < (e2 : Int) := by omega
              have c6 : decide ((e2 : Int) < (e : Int)) = false := decide_eq_false (by omega)
              have c6b : ¬ (e2 : Int) < (e : Int) := by omega
              have N1 := rotate_any (.func (.func 86) #[] #[]) wb b off cap T wr st m e2 HROW.out hcap (by omega) (by omega) (by omega) (by omega)
              have NN1 := Lib.hid N1
              clear N1
              go_wp2_with fail
              refine NN1.out.mono ?_
              rintro en w1 ⟨rfl, T1, hr1, hrot⟩
              have HV := Lib.hid (HHV.out T1 hrot)
              have HS1 := Lib.hid ((hrot.seg (by omega) (by omega)).mono (show a ≤ st by omega) (show e2 ≤ e by omega))
              have hl1 := HS1.out.len
              have HR1 := Lib.hid hr1
              clear hr1 hrot
              have HS2 := Lib.hid (So.Seg.refl a md T1)
              have HSR2 := Lib.hid (show So.Srt T1 a md from by have := HV.out.one; rw [HMD.out] at this; exact this.fst_only (by omega))
              have HR2 := HR1
              have hl2 := hl1
              have HS3 := Lib.hid (So.Seg.refl md e T1)
              have HSR3 := Lib.hid (show So.Srt T1 md e from (So.Two.far (by have := HV.out.two; rw [HE2.out, HMD.out] at this; exact this) HS2.out (.inr (Nat.le_refl _)) (by omega) (by omega)).fst_only (by omega))
              have HR3 := HR2
              have HFIN := Lib.hid (show So.Srt T1 a e from HV.out.done (by rw [HMD.out]; exact HS2.out) (by rw [HMD.out]; exact HSR2.out) (by rw [HMD.out]; exact HS3.out) (by rw [HMD.out]; exact HSR3.out))
              have HSG := Lib.hid ((HS1.out.trans (HS2.out.mono (Nat.le_refl _) (by omega))).trans (HS3.out.mono (by omega) (Nat.le_refl _)))
              go_wp2
              go_end0
              exact ⟨rfl, T1, HR3.out, HSG.out, HFIN.out⟩
        · skip
          have c1 : decide ((st : Int) < (m : Int)) = true := decide_eq_true (by omega)
          have c1b : (st : Int) < (m : Int) := by omega
          have c2 : decide ((m : Int) < (e2 : Int)) = false := decide_eq_false (by omega)
          have c2b : ¬ (m : Int) < (e2 : Int) := by omega
          have c3 : decide ((a : Int) < (st : Int)) = true := decide_eq_true (by omega)
          have c3b : (a : Int) < (st : Int) := by omega
          have c4 : decide ((st : Int) < (md : Int)) = false := decide_eq_false (by omega)
          have c4b : ¬ (st : Int) < (md : Int) := by omega
          have c5 : decide ((md : Int) < (e2 : Int)) = true := decide_eq_true (by omega)
          have c5b : (md : Int) < (e2 : Int) := by omega
          have c6 : decide ((e2 : Int) < (e : Int)) = true := decide_eq_true (by omega)
          have c6b : (e2 : Int) < (e : Int) := by omega
          have HV := Lib.hid (HHV.out T (So.Rot.none st m e2 T (by omega) (by omega) (by omega)))
          have HS1 := Lib.hid (So.Seg.refl a e T)
          have HR1 := Lib.hid HROW.out
          have HS2 := Lib.hid (So.Seg.refl a md T)
          have HSR2 := Lib.hid (show So.Srt T a md from by have := HV.out.one; rw [HMD.out] at this; exact this.fst_only (by omega))
          have HR2 := HR1
          have N3 := HIH.out T wr md e2 e (by omega) HR2.out (by omega) (by omega) (by omega) (by omega) (by omega) (So.Two.far (by have := HV.out.two; rw [HE2.out, HMD.out] at this; exact this) HS2.out (.inr (Nat.le_refl _)) (by omega) (by omega))
          have NN3 := Lib.hid N3
          clear N3
          go_wp2_with fail
          refine NN3.out.mono ?_
          rintro en w3 ⟨rfl, T3, hr3, hs3, hsr3⟩
          have HS3 := Lib.hid hs3
          have HSR3 := Lib.hid hsr3
          have HR3 := Lib.hid hr3
          clear hr3 hs3 hsr3
          have HFIN := Lib.hid (show So.Srt T3 a e from HV.out.done (by rw [HMD.out]; exact HS2.out) (by rw [HMD.out]; exact HSR2.out) (by rw [HMD.out]; exact HS3.out) (by rw [HMD.out]; exact HSR3.out))
          have HSG := Lib.hid ((HS1.out.trans (HS2.out.mono (Nat.le_refl _) (by omega))).trans (HS3.out.mono (by omega) (Nat.le_refl _)))
          go_wp2
          go_end0
          exact ⟨rfl, T3, HR3.out, HSG.out, HFIN.out⟩
      · by_cases p3 : st < md
        · skip
          have c1 : decide ((st : Int) < (m : Int)) = false := decide_eq_false (by omega)
          have c1b : ¬ (st : Int) < (m : Int) := by omega
          have c3 : decide ((a : Int) < (st : Int)) = true := decide_eq_true (by omega)
          have c3b : (a : Int) < (st : Int) := by omega
          have c4 : decide ((st : Int) < (md : Int)) = true := decide_eq_true (by omega)
          have c4b : (st : Int) < (md : Int) := by omega
          have c5 : decide ((md : Int) < (e2 : Int)) = false := decide_eq_false (by omega)
          have c5b : ¬ (md : Int) < (e2 : Int) := by omega
          have HV := Lib.hid (HHV.out T (So.Rot.none st m e2 T (by omega) (by omega) (by omega)))
          have HS1 := Lib.hid (So.Seg.refl a e T)
          have HR1 := Lib.hid HROW.out
          have N2 := HIH.out T wr a st md (by omega) HR1.out (by omega) (by omega) (by omega) (by omega) (by omega) (by have := HV.out.one; rw [HMD.out] at this; exact this)
          have NN2 := Lib.hid N2
          clear N2
          go_wp2_with fail
          refine NN2.out.mono ?_
          rintro en w2 ⟨rfl, T2, hr2, hs2, hsr2⟩
          have hl2 := hs2.len
          have HS2 := Lib.hid hs2
          have HSR2 := Lib.hid hsr2
          have HR2 := Lib.hid hr2
          clear hr2 hs2 hsr2
          have HS3 := Lib.hid (So.Seg.refl md e T2)
          have HSR3 := Lib.hid (show So.Srt T2 md e from (So.Two.far (by have := HV.out.two; rw [HE2.out, HMD.out] at this; exact this) HS2.out (.inr (Nat.le_refl _)) (by omega) (by omega)).fst_only (by omega))
          have HR3 := HR2
          have HFIN := Lib.hid (show So.Srt T2 a e from HV.out.done (by rw [HMD.out]; exact HS2.out) (by rw [HMD.out]; exact HSR2.out) (by rw [HMD.out]; exact HS3.out) (by rw [HMD.out]; exact HSR3.out))
          have HSG := Lib.hid ((HS1.out.trans (HS2.out.mono (Nat.le_refl _) (by omega))).trans (HS3.out.mono (by omega) (Nat.le_refl _)))
          go_wp2
          go_end0
          exact ⟨rfl, T2, HR3.out, HSG.out, HFIN.out⟩
        · skip
          have c1 : decide ((st : Int) < (m : Int)) = false := decide_eq_false (by omega)
          have c1b : ¬ (st : Int) < (m : Int) := by omega
          have c3 : decide ((a : Int) < (st : Int)) = true := decide_eq_true (by omega)
          have c3b : (a : Int) < (st : Int) := by omega
          have c4 : decide ((st : Int) < (md : Int)) = false := decide_eq_false (by omega)
          have c4b : ¬ (st : Int) < (md : Int) := by omega
          have c5 : decide ((md : Int) < (e2 : Int)) = false := decide_eq_false (by omega)
          have c5b : ¬ (md : Int) < (e2 : Int) := by omega
          have HV := Lib.hid (HHV.out T (So.Rot.none st m e2 T (by omega) (by omega) (by omega)))
          have HS1 := Lib.hid (So.Seg.refl a e T)
          have HR1 := Lib.hid HROW.out
          have HS2 := Lib.hid (So.Seg.refl a md T)
          have HSR2 := Lib.hid (show So.Srt T a md from by have := HV.out.one; rw [HMD.out] at this; exact this.fst_only (by omega))
          have HR2 := HR1
          have HS3 := Lib.hid (So.Seg.refl md e T)
          have HSR3 := Lib.hid (show So.Srt T md e from (So.Two.far (by have := HV.out.two; rw [HE2.out, HMD.out] at this; exact this) HS2.out (.inr (Nat.le_refl _)) (by omega) (by omega)).fst_only (by omega))
          have HR3 := HR2
          have HFIN := Lib.hid (show So.Srt T a e from HV.out.done (by rw [HMD.out]; exact HS2.out) (by rw [HMD.out]; exact HSR2.out) (by rw [HMD.out]; exact HS3.out) (by rw [HMD.out]; exact HSR3.out))
          have HSG := Lib.hid ((HS1.out.trans (HS2.out.mono (Nat.le_refl _) (by omega))).trans (HS3.out.mono (by omega) (Nat.le_refl _)))
          go_wp2
          go_end0
          exact ⟨rfl, T, HR3.out, HSG.out, HFIN.out⟩

end Go.Proofs.Ytoaclofobfaflaa
