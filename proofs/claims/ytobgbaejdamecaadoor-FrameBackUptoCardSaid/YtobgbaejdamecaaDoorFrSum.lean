/-
  What frame's sumOf and Sum answer.
-/
import Derived.Test.YtobgbaejdamecaaDoorFrMath
import Derived.Test.YtobgbaejdamecaaDoorFrSumRef
import Derived.Test.YtobgbaejdamecaaDoorPkDevConcat
namespace Go.Proofs.YtobgbaejdamecaaDoor
open Go.RowKit

theorem Fr.ones_xor (r : Nat) (h : r < 4294967296) : 4294967295 ^^^ r = 4294967295 - r := by
  have h1 := congrArg BitVec.toNat (BitVec.allOnes_xor (x := BitVec.ofNat 32 r))
  rw [BitVec.toNat_xor, BitVec.toNat_not, BitVec.toNat_allOnes, BitVec.toNat_ofNat, Nat.mod_eq_of_lt (by exact h)] at h1
  exact h1
theorem Fr.turn (r : Nat) (h : r < 4294967296) : bits BinOp.xor IntKind.u32 IntKind.u32.max (r : Int) = 4294967295 - (r : Int) := by
  have h1 := u32_xor_nat 4294967295 r (by omega) h
  rw [Fr.ones_xor r h] at h1
  have h2 : IntKind.u32.max = ((4294967295 : Nat) : Int) := by decide
  rw [h2, h1]
  omega

set_option maxRecDepth 100000 in
set_option maxHeartbeats 6400000 in
theorem fsum_any (g m : Nat) (hmx : m ≤ 1000) (cs : List (Option Addr × Nat)) (ls : List (List Int)) (w : World) (hm : ls.length = m) (hcs : cs.length = ls.length) (hB : Blk w g 22 (sliCells cs ls).toArray) (h1 : ∀ k, k < ls.length → OneB w (cs.getD k (none, 0)).1 (cs.getD k (none, 0)).2 (ls.getD k [])) (hH : Halves w) :
    Calls Tryd.prog 23 #[.slice (some ⟨g, 0, none⟩) m m] w (Says (.int .u32 ((Fr.sum ls.flatten : Nat) : Int)) w) := by
  have hcell : ∀ k, k < m → w.cell? ⟨g, k, none⟩ = some (.slice (cs.getD k (none, 0)).1 (ls.getD k []).length (cs.getD k (none, 0)).2) := fun k hk => hB.cell (by
    have := sliCells_get cs ls k (by omega) (by omega)
    simpa using this)
  have hby : ∀ x ∈ ls.flatten, isB x := fun x hx => by
    obtain ⟨l, hl, hx⟩ := List.mem_flatten.1 hx
    obtain ⟨k, hk, rfl⟩ := List.mem_iff_getElem.1 hl
    refine (h1 k hk).byte x ?_
    rwa [List.getD_eq_getElem?_getD, List.getElem?_eq_getElem hk]
  have hby2 : ∀ k, Fr.run 4294967295 (ls.take k).flatten < 4294967296 := fun k => Fr.run_lt _ _ (by omega) (fun x hx => by
    obtain ⟨l, hl, hx⟩ := List.mem_flatten.1 hx
    exact hby x (List.mem_flatten.2 ⟨l, List.mem_of_mem_take hl, hx⟩))
  have HC := Lib.hid hcell; have H1 := Lib.hid h1; have HM := Lib.hid hm; have HH := Lib.hid hH; have HF := Lib.hid (fun k => flat_take ls k); have HB2 := Lib.hid hby2
  clear hB h1 hcell hm hcs hH hby hby2
  go_enter Tryd.func23, Tryd.ntmps23
  go_wp2_with fail
  go_loopw [3, 5, 7, 10] (fun s3 _ _ s10 wr => ∃ k : Nat, k ≤ m ∧ s10 = .int .i64 (k : Int) ∧ s3 = .int .u32 ((Fr.run 4294967295 (ls.take k).flatten : Nat) : Int) ∧ Below w.heap.size w wr) (fun _ _ _ s10 _ => m - (intOf s10).toNat)
  case atStart => exact ⟨0, by omega, rfl, rfl, Below.refl _ _⟩
  case round =>
    obtain ⟨k, hk, rfl, rfl, hbw⟩ := hrel
    have hr := HB2.out k
    by_cases hkm : k < m
    · have hd : decide ((k : Int) < (m : Int)) = true := decide_eq_true (by omega)
      have c0 := cell_later hbw (HC.out k hkm)
      have hO := (H1.out k (by rw [HM.out]; exact hkm)).later hbw
      have e1 := HF.out k (by rw [HM.out]; exact hkm)
      obtain ⟨A, hA⟩ : ∃ A, (cs.getD k (none, 0)).1 = A := ⟨_, rfl⟩
      obtain ⟨c, hc⟩ : ∃ c, (cs.getD k (none, 0)).2 = c := ⟨_, rfl⟩
      obtain ⟨l, hl⟩ : ∃ l, ls.getD k [] = l := ⟨_, rfl⟩
      rw [hA, hc, hl] at c0 hO
      rw [hl] at e1
      have hnx : Fr.run 4294967295 (ls.take (k + 1)).flatten = Fr.run (Fr.run 4294967295 (ls.take k).flatten) l := by rw [e1, Fr.run_append]
      obtain ⟨r0, hr0⟩ : ∃ r0, Fr.run 4294967295 (ls.take k).flatten = r0 := ⟨_, rfl⟩
      rw [hr0] at hnx hr ⊢
      have hll := hO.len
      have HNX := Lib.hid hnx; have HO := Lib.hid hO; have HBW := Lib.hid hbw
      clear hA hc hl e1 hr0 hnx hO hbw
      go_wp2_with fail
      go_loopw [3, 7, 16] (fun s3 _ s16 wq => ∃ j : Nat, j ≤ l.length ∧ s16 = .int .i64 (j : Int) ∧ s3 = .int .u32 ((Fr.run r0 (l.take j) : Nat) : Int) ∧ Below w.heap.size w wq ∧ OneB wq A c l) (fun _ _ s16 _ => l.length - (intOf s16).toNat)
      case atStart => exact ⟨0, by omega, rfl, rfl, HBW.out, HO.out⟩
      case round =>
        obtain ⟨j, hj, rfl, rfl, hbq, hOq⟩ := hrel
        have hq := Fr.run_lt (l.take j) r0 hr (fun x hx => HO.out.byte x (List.mem_of_mem_take hx))
        by_cases hjl : j < l.length
        · have hd2 : decide ((j : Int) < (l.length : Int)) = true := decide_eq_true (by omega)
          have hOq2 := hOq
          obtain ⟨b, off, rfl, hcl⟩ := hOq.at (by intro e; rw [e] at hjl; simp at hjl)
          have d0 := hcl j hjl
          have hcap := hOq.cap
          have hle := hOq.le
          unfold maxLen at hcap
          have hbx : isB (l.getD j 0) := by
            rw [List.getD_eq_getElem?_getD, List.getElem?_eq_getElem hjl]
            exact hOq.byte _ (List.getElem_mem hjl)
          have hn1 := Fr.run_take r0 l j hjl
          obtain ⟨r, hre⟩ : ∃ r, Fr.run r0 (l.take j) = r := ⟨_, rfl⟩
          obtain ⟨x, hxe⟩ : ∃ x, l.getD j 0 = x := ⟨_, rfl⟩
          rw [hre] at hq hn1 ⊢
          rw [hxe] at d0 hbx hn1
          rw [Fr.byte8_four] at hn1
          have hbx' := hbx
          unfold isB at hbx'
          have hx := u32_xor_nat r x.toNat hq (by omega)
          rw [show ((x.toNat : Nat) : Int) = x from by omega] at hx
          have hv := Fr.xor_lt hq (show x.toNat < 4294967296 by omega)
          obtain ⟨v, hve⟩ : ∃ v, r ^^^ x.toNat = v := ⟨_, rfl⟩
          rw [hve] at hx hv hn1
          have hv4 := Fr.four_lt hv
          have N1 := Lib.hid (fun wx hh => fshift_any v hv wx hh)
          have N2 := Lib.hid (fun wx hh => fshift_any (Fr.four v) hv4 wx hh)
          have HN1 := Lib.hid hn1; have HOQ := Lib.hid hOq2; have HBQ := Lib.hid hbq
          clear hre hxe hve hcl hn1 hbx hOq hOq2 hbq HO HBW HC H1 HF
          go_wp2_with fail
          refine (N1.out _ (HH.out.later HBQ.out)).mono ?_
          rintro e w1 ⟨rfl, b1⟩
          go_wp2_with fail
          refine (N2.out _ ((HH.out.later HBQ.out).later b1)).mono ?_
          rintro e w2 ⟨rfl, b2⟩
          go_wp2_with fail
          go_roundw
          case rel => exact ⟨j + 1, by omega, by first | rfl | (congr 1; omega), by rw [HN1.out], below_on HBQ.out (below_on b1 b2), HOQ.out.later (below_on b1 b2)⟩
          case measure => simp [intOf]; omega
        · obtain rfl : j = l.length := by omega
          have hd2 : decide ((l.length : Int) < (l.length : Int)) = false := decide_eq_false (by omega)
          rw [List.take_of_length_le (Nat.le_refl _)] at hq ⊢
          rw [← HNX.out] at hq ⊢
          obtain ⟨q, hqe⟩ : ∃ q, Fr.run 4294967295 (ls.take (k + 1)).flatten = q := ⟨_, rfl⟩
          rw [hqe] at hq ⊢
          have HQ := Lib.hid hqe; have HBQ := Lib.hid hbq
          clear hqe hbq hOq HNX HO HBW
          go_wp2_with fail
          go_roundw
          case rel => exact ⟨k + 1, by omega, by first | rfl | (congr 1; omega), by rw [HQ.out], HBQ.out⟩
          case measure => simp [intOf]; omega
    · obtain rfl : k = m := by omega
      have hd : decide ((k : Int) < (k : Int)) = false := decide_eq_false (by omega)
      rw [List.take_of_length_le (by rw [HM.out]; exact Nat.le_refl _)] at hr ⊢
      have hsum : ((Fr.sum ls.flatten : Nat) : Int) = 4294967295 - ((Fr.run 4294967295 ls.flatten : Nat) : Int) := by
        unfold Fr.sum
        omega
      obtain ⟨r, hre⟩ : ∃ r, Fr.run 4294967295 ls.flatten = r := ⟨_, rfl⟩
      rw [hre] at hr hsum ⊢
      have HSUM := Lib.hid hsum; have HT := Lib.hid (Fr.turn r hr)
      clear hre hsum
      go_wp2
      go_ret
      exact ⟨by rw [HSUM.out, ← HT.out]; rfl, hbw⟩

theorem dsum_any (A : Option Addr) (c : Nat) (l : List Int) (w : World) (h : OneB w A c l) (hH : Halves w) :
    Calls Tryd.prog 11 #[.slice A l.length c] w (Says (.int .u32 ((Fr.sum l : Nat) : Int)) w) := by
  have b0 := below_new (Below.refl w.heap.size w) (.cells #[.slice A l.length c] 22)
  have N1 := fsum_any w.heap.size 1 (by omega) [(A, c)] [l] (w.alloc (.cells #[.slice A l.length c] 22)) rfl rfl (Blk.new w _ _) (fun k hk => by
    have hk0 : k = 0 := by simpa using hk
    subst hk0
    exact h.later b0) (hH.later b0)
  rw [show [l].flatten = l from by simp] at N1
  have N2 := Lib.hid N1; have B0 := Lib.hid b0
  clear N1 b0 h hH
  go_enter Tryd.func11, Tryd.ntmps11
  go_wp2_with fail
  refine N2.out.mono ?_
  rintro e w1 ⟨rfl, b1⟩
  go_wp2
  go_ret
  exact ⟨rfl, below_on B0.out b1⟩
end Go.Proofs.YtobgbaejdamecaaDoor
