/-
  telltaleref07's Sum: eight shifts a byte.
  What is asked of each of pack's functions (its contract), as one structure. With it: the fixed fact 'alive'.
  What slices.Grow answers of no slice at bytes, slices.Concat of lists of bytes, bytes.Clone.
  What frame's sumOf and Sum answer.
-/
import Derived.Test.YtkhggofcbdcliaaDoorG09
import Derived.Test.YtkhggofcbdcliaaDoorG03
import Derived.Lib.AppendZerosOnto
import Derived.Lib.Walk
import Derived.Test.YtkhggofcbdcliaaDoorG10
namespace Go.Proofs.YtkhggofcbdcliaaDoor
open Go.RowKit

theorem Fr.run_take (c : Nat) (l : List Int) (k : Nat) (hk : k < l.length) : Fr.run c (l.take (k + 1)) = Fr.byte8 (Fr.run c (l.take k)) (l.getD k 0) := by
  rw [List.take_succ_eq_append_getElem hk, Fr.run_append, List.getD_eq_getElem?_getD, List.getElem?_eq_getElem hk]
  rfl
theorem Fr.steps_succ (n c : Nat) : Fr.steps (n + 1) c = Fr.step (Fr.steps n c) := by
  rw [Fr.steps_add n 1]
  rfl

set_option maxHeartbeats 3200000 in
theorem rsum_any (A : Option Addr) (c : Nat) (l : List Int) (w : World) (h : OneB w A c l) :
    Calls Tryd.prog 52 #[.slice A l.length c] w (Says (.int .u32 ((Fr.sum l : Nat) : Int)) w) := by
  have hll := h.len
  have H := Lib.hid h
  clear h
  go_enter Tryd.func52, Tryd.ntmps52
  go_wp2_with fail
  go_loopw [3, 4, 5] (fun s3 s4 s5 wr => ∃ k : Nat, k ≤ l.length ∧ s4 = .int .i64 (k : Int) ∧ s3 = .int .u32 ((Fr.run 4294967295 (l.take k) : Nat) : Int) ∧ wr = w) (fun _ s4 _ _ => l.length - (intOf s4).toNat)
  case atStart => exact ⟨0, by omega, rfl, rfl, rfl⟩
  case round =>
    obtain ⟨k, hk, rfl, rfl, hwr⟩ := hrel
    have hwr := hwr.symm
    subst hwr
    have hr := Fr.run_lt (l.take k) 4294967295 (by omega) (fun x hx => H.out.byte x (List.mem_of_mem_take hx))
    by_cases hkm : k < l.length
    · have hd : decide ((k : Int) < (l.length : Int)) = true := decide_eq_true (by omega)
      obtain ⟨g, off, rfl, hc⟩ := H.out.at (by intro e; rw [e] at hkm; simp at hkm)
      have c0 := hc k hkm
      have hcap := H.out.cap
      have hle := H.out.le
      unfold maxLen at hcap
      have hbx : isB (l.getD k 0) := by
        rw [List.getD_eq_getElem?_getD, List.getElem?_eq_getElem hkm]
        exact H.out.byte _ (List.getElem_mem hkm)
      have hnx := Fr.run_take 4294967295 l k hkm
      obtain ⟨r, hre⟩ : ∃ r, Fr.run 4294967295 (l.take k) = r := ⟨_, rfl⟩
      obtain ⟨x, hxe⟩ : ∃ x, l.getD k 0 = x := ⟨_, rfl⟩
      rw [hre] at hr hnx ⊢
      rw [hxe] at c0 hbx hnx
      have hbx' := hbx
      unfold isB at hbx'
      have hx := u32_xor_nat r x.toNat hr (by omega)
      rw [show ((x.toNat : Nat) : Int) = x from by omega] at hx
      have hq := Fr.xor_lt hr (show x.toNat < 4294967296 by omega)
      unfold Fr.byte8 at hnx
      obtain ⟨q, hqe⟩ : ∃ q, r ^^^ x.toNat = q := ⟨_, rfl⟩
      rw [hqe] at hx hq hnx
      have HN := Lib.hid hnx
      clear hre hxe hqe hc hnx hbx
      go_wp2_with fail
      go_loopw [3, 5] (fun s3 s5 wr => ∃ j : Nat, j ≤ 8 ∧ s5 = .int .i64 (j : Int) ∧ s3 = .int .u32 ((Fr.steps j q : Nat) : Int) ∧ wr = w) (fun _ s5 _ => 8 - (intOf s5).toNat)
      case atStart => exact ⟨0, by omega, rfl, rfl, rfl⟩
      case round =>
        obtain ⟨j, hj, rfl, rfl, hwr⟩ := hrel
        have hwr := hwr.symm
        subst hwr
        have hs := Fr.steps_lt j q hq
        by_cases hj8 : j < 8
        · have hd8 : decide ((j : Int) < 8) = true := decide_eq_true (by omega)
          have hst := Fr.steps_succ j q
          obtain ⟨y, hye⟩ : ∃ y, Fr.steps j q = y := ⟨_, rfl⟩
          rw [hye] at hs hst ⊢
          unfold Fr.step Fr.low at hst
          have hxp := u32_xor_nat (y / 2) 3988292384 (by omega) (by omega)
          rcases Nat.mod_two_eq_zero_or_one y with hp | hp
          · have hpd : ((y : Int) % 2 == 1) = false := beq_eq_false_iff_ne.2 (by omega)
            rw [hp] at hst
            simp only [Nat.zero_ne_one, if_false, Nat.xor_zero] at hst
            have HS := Lib.hid hst
            clear hst hye hxp hp
            go_wp2_with fail
            go_roundw
            case rel => exact ⟨j + 1, by omega, by first | rfl | (congr 1; omega), by rw [HS.out]; first | rfl | (congr 1; omega), by first | rfl | trivial⟩
            case measure => simp [intOf]; omega
          · have hpd : ((y : Int) % 2 == 1) = true := beq_iff_eq.2 (by omega)
            rw [hp] at hst
            simp only [if_true] at hst
            unfold Fr.poly at hst
            rw [← hst] at hxp
            have HX := Lib.hid hxp
            clear hst hye hxp hp
            go_wp2_with fail
            go_roundw
            case rel => exact ⟨j + 1, by omega, by first | rfl | (congr 1; omega), by rw [← HX.out]; first | rfl | (congr 1; omega), by first | rfl | trivial⟩
            case measure => simp [intOf]; omega
        · obtain rfl : j = 8 := by omega
          have hd8 : decide (((8 : Nat) : Int) < 8) = false := by decide
          obtain ⟨y, hye⟩ : ∃ y, Fr.steps 8 q = y := ⟨_, rfl⟩
          have HN2 := Lib.hid (HN.out.trans hye)
          rw [hye]
          clear hye
          go_wp2_with fail
          go_roundw
          case rel => exact ⟨k + 1, by omega, by first | rfl | (congr 1; omega), by rw [HN2.out], by first | rfl | trivial⟩
          case measure => simp [intOf]; omega
    · obtain rfl : k = l.length := by omega
      have hd : decide ((l.length : Int) < (l.length : Int)) = false := decide_eq_false (by omega)
      rw [List.take_length] at hr ⊢
      have hsum : ((Fr.sum l : Nat) : Int) = 4294967295 - ((Fr.run 4294967295 l : Nat) : Int) := by
        unfold Fr.sum
        omega
      obtain ⟨r, hre⟩ : ∃ r, Fr.run 4294967295 l = r := ⟨_, rfl⟩
      rw [hre] at hr hsum ⊢
      have HSUM := Lib.hid hsum
      clear hre hsum
      go_wp2
      go_ret
      exact ⟨by rw [HSUM.out]; rfl, Below.refl _ _⟩
end Go.Proofs.YtkhggofcbdcliaaDoor
namespace Go.Proofs.YtkhggofcbdcliaaDoor
open Go.RowKit

namespace Pk
/-- How many bytes a number's are. -/
def lenOf (n : Int) : Int := if n < 0 then 0 else ((bytesOf n.toNat).length : Int)
/-- A number's bytes behind others, the error's number. -/
def appn (l : List Int) (n : Int) : List Int × Int := if n < 0 then ([], 1) else (l ++ bytesOf n.toNat, 0)
end Pk

/-- A list of bytes is answered; what was there before is as it was. -/
def AnsB (l : List Int) (w : World) (en : Ending) (w' : World) : Prop := ∃ A c, en = .returned (.slice A l.length c) ∧ OneB w' A c l ∧ Below w.heap.size w w'
/-- A list of bytes and a number. -/
def AnsB2 (l : List Int) (e : Int) (w : World) (en : Ending) (w' : World) : Prop := ∃ A c, en = .returned (.tuple #[.slice A l.length c, .int .i64 e]) ∧ OneB w' A c l ∧ Below w.heap.size w w'
/-- A list of bytes in memory of the call's own, and two numbers. -/
def GivesB3 (l : List Int) (k e : Int) (w : World) (en : Ending) (w' : World) : Prop := ∃ v, en = .returned (.tuple #[v, .int .i64 k, .int .i64 e]) ∧ w'.ownsRow w.heap.size 5 1 v l.length (bCells l) ∧ Below w.heap.size w w'

theorem palive_of : Pk.appn [7] 300 = ([7, 172, 2], 0) := by decide

end Go.Proofs.YtkhggofcbdcliaaDoor
namespace Go.Proofs.YtkhggofcbdcliaaDoor
open Go.RowKit

set_option maxHeartbeats 3200000 in
set_option maxRecDepth 100000 in
theorem growB_any (n : Nat) (w : World) (hn : n ≤ 140737488355328) :
    Calls Tryd.prog 59 #[.slice none 0 0, .int .i64 n] w fun e w' => ∃ v, e = .returned v ∧ w'.ownsRow w.heap.size 5 1 v 0 [] ∧ Below w.heap.size w w' := by
  by_cases h0 : n = 0
  · subst h0
    go_enter Tryd.func59, Tryd.ntmps59
    go_wp2
    go_ret
    exact ⟨_, rfl, ⟨rfl, .inl ⟨rfl, rfl⟩⟩, Below.refl _ _⟩
  · obtain ⟨i0, hI, hz0, hz1, hz2⟩ := info_parts infoBy
    have hn1 : ¬ ((n : Int) < 0) := by omega
    have hn2 : (0 : Int) < (n : Int) := by omega
    have hold : (Builtin.firstCells i0.size 0 (.slice none 0 0)).run Tryd.prog w.drew = .ok ([] : List Value).toArray w.drew := run_firstCells_none w.drew i0.size 0 0 0
    obtain ⟨G, hG⟩ : ∃ G, grownCap w n 0 5 = G := ⟨_, rfl⟩
    have hGn : n ≤ G := by rw [← hG]; exact grownCap_ge w _ _ _
    have hG63 : G ≤ maxLen := by rw [← hG]; exact grownCap_le_maxLen w n 0 5 (by unfold maxLen; omega)
    obtain ⟨Z, hZ⟩ : ∃ Z, ([] : List Value).toArray ++ Builtin.zeroCells (Value.cells (.int .u8 0)) n ++ Builtin.zeroCells (Value.cells (.int .u8 0)) (G - n) = Z := ⟨_, rfl⟩
    have hZs : Z.size = G * 1 := by
      rw [← hZ, Array.size_append, Array.size_append, size_zeroCells, size_zeroCells]
      show 0 + n * 1 + (G - n) * 1 = G * 1
      omega
    have hrz : ∀ ty, (Builtin.append_ #[25, 3] ty #[.slice none 0 0, .int .i64 (n : Int)]).run Tryd.prog w = .ok (.slice (some ⟨w.heap.size, 0, none⟩) n G) (w.drew.alloc (.cells Z 5)) := fun ty => by
      have h := Lib.run_append_grow_zeros w 25 3 ty 5 i0 (.int .u8 0) .i64 .i64 Tryd.underlying25 Tryd.underlying3 hI hz0 none 0 0 [] hold n (by omega) (by rw [hz1]; omega) (by omega) (by omega) (by rw [hz2]; omega) (growslice_fits (by omega) (by rw [hz2]; omega))
      rw [Nat.zero_add, hG, hZ] at h
      exact h
    have hB := Blk.new w.drew 5 Z
    have HB := Lib.hid (show Blk (w.drew.alloc (.cells Z 5)) w.heap.size 5 Z from hB)
    have hG1 : G ≤ 9223372036854775807 := by unfold maxLen at hG63; exact hG63
    have HZS := Lib.hid hZs
    have HGM := Lib.hid hG63
    have hbz := (Below.drew (Below.refl w.heap.size w)).alloc (Nat.le_refl _) (.cells Z 5)
    clear hold hG hZ hB hZs hG63
    go_enter Tryd.func59, Tryd.ntmps59
    go_wp2_with (at_builtin; refine Lib.wpList_append_run _ rfl _ _ _ _ rfl _ _ rfl rfl _ _ (hrz _) ?_)
    all_goals (go_ret; exact ⟨_, rfl, ⟨rfl, .inr ⟨w.heap.size, G, Z, rfl, Nat.le_refl _, HB.out, Nat.zero_le _, HGM.out, HZS.out, rfl⟩⟩, hbz⟩)

/-- Lists of bytes, one a slice, in a block. -/
def sliCells : List (Option Addr × Nat) → List (List Int) → List Value
  | x :: cs, l :: ls => .slice x.1 l.length x.2 :: sliCells cs ls
  | _, _ => []
theorem sliCells_get : ∀ (cs : List (Option Addr × Nat)) (ls : List (List Int)) (k : Nat), k < cs.length → k < ls.length → (sliCells cs ls)[k]? = some (.slice (cs.getD k (none, 0)).1 (ls.getD k []).length (cs.getD k (none, 0)).2)
  | [], _, k, h, _ => by simp at h
  | c :: cs, [], k, _, h => by simp at h
  | c :: cs, l :: ls, 0, _, _ => by simp [sliCells]
  | c :: cs, l :: ls, k + 1, h, h' => by
    have := sliCells_get cs ls k (by simpa using h) (by simpa using h')
    simpa [sliCells] using this
theorem flat_take (ls : List (List Int)) (k : Nat) (hk : k < ls.length) : (ls.take (k + 1)).flatten = (ls.take k).flatten ++ ls.getD k [] := by
  rw [List.take_succ_eq_append_getElem hk, List.flatten_append, List.getD_eq_getElem?_getD, List.getElem?_eq_getElem hk]
  simp
theorem flat_take_le (ls : List (List Int)) (k : Nat) : (ls.take k).flatten.length ≤ ls.flatten.length := by
  conv => rhs; rw [← List.take_append_drop k ls, List.flatten_append, List.length_append]
  omega

set_option maxHeartbeats 6400000 in
set_option maxRecDepth 100000 in
theorem concatB_any (g m : Nat) (hmx : m ≤ 9223372036854775806) (cs : List (Option Addr × Nat)) (ls : List (List Int)) (w : World) (hm : ls.length = m) (hcs : cs.length = ls.length) (hB : Blk w g 25 (sliCells cs ls).toArray) (h1 : ∀ k, k < ls.length → OneB w (cs.getD k (none, 0)).1 (cs.getD k (none, 0)).2 (ls.getD k [])) (hsz : ls.flatten.length ≤ 140737488355328) :
    Calls Tryd.prog 46 #[.slice (some ⟨g, 0, none⟩) m m] w (GivesB ls.flatten w) := by
  obtain ⟨i0, hI, hz0, hz1, hz2⟩ := info_parts infoBy
  have hcell : ∀ k, k < m → w.cell? ⟨g, k, none⟩ = some (.slice (cs.getD k (none, 0)).1 (ls.getD k []).length (cs.getD k (none, 0)).2) := fun k hk => hB.cell (by
    have := sliCells_get cs ls k (by omega) (by omega)
    simpa using this)
  have HC := Lib.hid hcell
  have H1 := Lib.hid h1
  have N0 := Lib.hid (fun n hn => growB_any n w hn)
  have HM := Lib.hid hm
  have HF := Lib.hid (fun k => flat_take ls k)
  have HL := Lib.hid (fun k => flat_take_le ls k)
  clear hB h1 hcell hm
  go_enter Tryd.func46, Tryd.ntmps46
  go_wp2_with fail
  go_loopw [3, 5, 11] (fun s3 s5 s11 wr => ∃ k : Nat, k ≤ m ∧ s11 = .int .i64 (k : Int) ∧ s3 = .int .i64 (((ls.take k).flatten.length : Nat) : Int) ∧ wr = w) (fun _ _ s11 _ => m - (intOf s11).toNat)
  case atStart => exact ⟨0, by omega, rfl, rfl, rfl⟩
  case round =>
    obtain ⟨k, hk, rfl, rfl, hwr⟩ := hrel
    have hwr := hwr.symm
    subst hwr
    by_cases hkm : k < m
    · have hd : decide ((k : Int) < (m : Int)) = true := decide_eq_true (by omega)
      have c0 := HC.out k hkm
      have e1 := HF.out k (by rw [HM.out]; exact hkm)
      have e2 := HL.out (k + 1)
      rw [e1, List.length_append] at e2
      have E1 := Lib.hid e1
      have e3 := HL.out k
      obtain ⟨a, ha⟩ : ∃ a, (ls.take k).flatten.length = a := ⟨_, rfl⟩
      obtain ⟨b, hb⟩ : ∃ b, (ls.getD k []).length = b := ⟨_, rfl⟩
      have hab : (ls.take (k + 1)).flatten.length = a + b := by rw [E1.out, List.length_append, ha, hb]
      rw [ha, hb] at e2
      rw [hb] at c0
      rw [ha]
      have hnn : decide ((a : Int) + (b : Int) < 0) = false := decide_eq_false (by omega)
      have HAB := Lib.hid hab
      clear e1 e3 ha hb hab HC HF HL
      go_wp2_with fail
      go_roundw
      case rel => exact ⟨k + 1, by omega, by first | rfl | (congr 1; omega), by rw [HAB.out]; first | rfl | (congr 1; omega), by first | rfl | trivial⟩
      case measure => simp [intOf]; omega
    · obtain rfl : k = m := by omega
      have hd : decide ((k : Int) < (k : Int)) = false := decide_eq_false (by omega)
      have hall : (ls.take k).flatten = ls.flatten := by rw [List.take_of_length_le (by rw [HM.out]; omega)]
      rw [hall]
      have HS := Lib.hid (fun k => (Nat.le_trans (flat_take_le ls k) hsz))
      obtain ⟨t, ht⟩ : ∃ t, ls.flatten.length = t := ⟨_, rfl⟩
      rw [ht] at hsz ⊢
      clear hall hd
      go_wp2_with fail
      refine (N0.out t hsz).mono ?_
      rintro e w1 ⟨v, rfl, ho, b1⟩
      have HO := Lib.hid ho
      clear ho
      go_wp2_with fail
      go_loopw [6, 8, 27] (fun s6 s8 s27 wr => ∃ j : Nat, j ≤ k ∧ s27 = .int .i64 (j : Int) ∧ wr.ownsRow w.heap.size 5 1 s6 (ls.take j).flatten.length (bCells (ls.take j).flatten) ∧ Below w.heap.size w wr) (fun _ _ s27 _ => k - (intOf s27).toNat)
      case atStart => exact ⟨0, by omega, rfl, HO.out, b1⟩
      case round =>
        obtain ⟨j, hj, rfl, hown, hbw⟩ := hrel
        by_cases hjm : j < k
        · have hd : decide ((j : Int) < (k : Int)) = true := decide_eq_true (by omega)
          have c0 := cell_later hbw (HC.out j hjm)
          have e1 := HF.out j (by rw [HM.out]; exact hjm)
          have e2 := HS.out (j + 1)
          rw [e1, List.length_append] at e2
          have E1 := Lib.hid e1
          have hO := (H1.out j (by rw [HM.out]; exact hjm)).later hbw
          obtain ⟨A, hA⟩ : ∃ A, (cs.getD j (none, 0)).1 = A := ⟨_, rfl⟩
          obtain ⟨c, hc⟩ : ∃ c, (cs.getD j (none, 0)).2 = c := ⟨_, rfl⟩
          obtain ⟨l, hl⟩ : ∃ l, ls.getD j [] = l := ⟨_, rfl⟩
          obtain ⟨p, hp⟩ : ∃ p, (ls.take j).flatten = p := ⟨_, rfl⟩
          rw [hA, hc, hl] at c0 hO
          rw [hl, hp] at e2
          rw [hp] at hown
          have hpl : (ls.take (j + 1)).flatten = p ++ l := by rw [E1.out, hp, hl]
          have HPL := Lib.hid hpl
          have hsz1 := hbw.size
          have HO2 := Lib.hid hO
          clear e1 hpl hA hc hl hp E1 hO HO HC H1 HF HL HS N0
          go_wp2_with (at_builtin; refine wpList_append_lies _ rfl _ _ 25 rfl w.heap.size 5 i0 (.int .u8 0) 1 1 Tryd.underlying25 hI hz0 hz1 hz2 rfl (by decide) _ p.length (bCells p) rfl hown A l.length c HO2.out.noA (bCells l) rfl (by rw [bCells_length, Nat.mul_one]) HO2.out.lies (bCells_one l) ?c3 ?c4 ?c5 ?_)
          case c3 => unfold maxLen; omega
          case c4 => omega
          case c5 => exact hsz1
          intro v2 w2 ho2 hg2 _
          have b2 := hbw.grown hg2 hsz1 (fun k' hk' => own_ge hown _ hk')
          rw [← bCells_append, ← List.length_append] at ho2
          have HO3 := Lib.hid ho2
          clear ho2 hg2 hown c0
          go_wp2_with fail
          go_roundw
          case rel => exact ⟨j + 1, by omega, by first | rfl | (congr 1; omega), by rw [HPL.out]; exact HO3.out, b2⟩
          case measure => simp [intOf]; omega
        · obtain rfl : j = k := by omega
          have hd : decide ((j : Int) < (j : Int)) = false := decide_eq_false (by omega)
          have hall : (ls.take j).flatten = ls.flatten := by rw [List.take_of_length_le (by rw [HM.out]; omega)]
          rw [hall] at hown
          have HW := Lib.hid hown
          clear hall hd hown
          go_wp2
          go_ret
          exact ⟨_, rfl, HW.out, hbw⟩

end Go.Proofs.YtkhggofcbdcliaaDoor
namespace Go.Proofs.YtkhggofcbdcliaaDoor
open Go.RowKit

theorem Fr.ones_xor (r : Nat) (h : r < 4294967296) : 4294967295 ^^^ r = 4294967295 - r := by
  have h1 := congrArg BitVec.toNat (BitVec.allOnes_xor (x := BitVec.ofNat 32 r))
  rw [BitVec.toNat_xor, BitVec.toNat_not, BitVec.toNat_allOnes, BitVec.toNat_ofNat, Nat.mod_eq_of_lt (by exact h)] at h1
  exact h1
theorem Fr.turn (r : Nat) (h : r < 4294967296) : bits BinOp.xor IntKind.u32 IntKind.u32.max (r : Int) = 4294967295 - (r : Int) := by
  have h1 := u32_xor_nat 4294967295 r (by omega) h
  rw [Fr.ones_xor r h] at h1
  have h2 : IntKind.u32.max = ((4294967295 : Nat) : Int) := by decide
  rw [h2, h1]
  omega

set_option maxRecDepth 100000 in
set_option maxHeartbeats 6400000 in
theorem fsum_any (g m : Nat) (hmx : m ≤ 1000) (cs : List (Option Addr × Nat)) (ls : List (List Int)) (w : World) (hm : ls.length = m) (hcs : cs.length = ls.length) (hB : Blk w g 25 (sliCells cs ls).toArray) (h1 : ∀ k, k < ls.length → OneB w (cs.getD k (none, 0)).1 (cs.getD k (none, 0)).2 (ls.getD k [])) (hH : Halves w) :
    Calls Tryd.prog 47 #[.slice (some ⟨g, 0, none⟩) m m] w (Says (.int .u32 ((Fr.sum ls.flatten : Nat) : Int)) w) := by
  have hcell : ∀ k, k < m → w.cell? ⟨g, k, none⟩ = some (.slice (cs.getD k (none, 0)).1 (ls.getD k []).length (cs.getD k (none, 0)).2) := fun k hk => hB.cell (by
    have := sliCells_get cs ls k (by omega) (by omega)
    simpa using this)
  have hby : ∀ x ∈ ls.flatten, isB x := fun x hx => by
    obtain ⟨l, hl, hx⟩ := List.mem_flatten.1 hx
    obtain ⟨k, hk, rfl⟩ := List.mem_iff_getElem.1 hl
    refine (h1 k hk).byte x ?_
    rwa [List.getD_eq_getElem?_getD, List.getElem?_eq_getElem hk]
  have hby2 : ∀ k, Fr.run 4294967295 (ls.take k).flatten < 4294967296 := fun k => Fr.run_lt _ _ (by omega) (fun x hx => by
    obtain ⟨l, hl, hx⟩ := List.mem_flatten.1 hx
    exact hby x (List.mem_flatten.2 ⟨l, List.mem_of_mem_take hl, hx⟩))
  have HC := Lib.hid hcell; have H1 := Lib.hid h1; have HM := Lib.hid hm; have HH := Lib.hid hH; have HF := Lib.hid (fun k => flat_take ls k); have HB2 := Lib.hid hby2
  clear hB h1 hcell hm hcs hH hby hby2
  go_enter Tryd.func47, Tryd.ntmps47
  go_wp2_with fail
  go_loopw [3, 5, 7, 10] (fun s3 _ _ s10 wr => ∃ k : Nat, k ≤ m ∧ s10 = .int .i64 (k : Int) ∧ s3 = .int .u32 ((Fr.run 4294967295 (ls.take k).flatten : Nat) : Int) ∧ Below w.heap.size w wr) (fun _ _ _ s10 _ => m - (intOf s10).toNat)
  case atStart => exact ⟨0, by omega, rfl, rfl, Below.refl _ _⟩
  case round =>
    obtain ⟨k, hk, rfl, rfl, hbw⟩ := hrel
    have hr := HB2.out k
    by_cases hkm : k < m
    · have hd : decide ((k : Int) < (m : Int)) = true := decide_eq_true (by omega)
      have c0 := cell_later hbw (HC.out k hkm)
      have hO := (H1.out k (by rw [HM.out]; exact hkm)).later hbw
      have e1 := HF.out k (by rw [HM.out]; exact hkm)
      obtain ⟨A, hA⟩ : ∃ A, (cs.getD k (none, 0)).1 = A := ⟨_, rfl⟩
      obtain ⟨c, hc⟩ : ∃ c, (cs.getD k (none, 0)).2 = c := ⟨_, rfl⟩
      obtain ⟨l, hl⟩ : ∃ l, ls.getD k [] = l := ⟨_, rfl⟩
      rw [hA, hc, hl] at c0 hO
      rw [hl] at e1
      have hnx : Fr.run 4294967295 (ls.take (k + 1)).flatten = Fr.run (Fr.run 4294967295 (ls.take k).flatten) l := by rw [e1, Fr.run_append]
      obtain ⟨r0, hr0⟩ : ∃ r0, Fr.run 4294967295 (ls.take k).flatten = r0 := ⟨_, rfl⟩
      rw [hr0] at hnx hr ⊢
      have hll := hO.len
      have HNX := Lib.hid hnx; have HO := Lib.hid hO; have HBW := Lib.hid hbw
      clear hA hc hl e1 hr0 hnx hO hbw
      go_wp2_with fail
      go_loopw [3, 7, 16] (fun s3 _ s16 wq => ∃ j : Nat, j ≤ l.length ∧ s16 = .int .i64 (j : Int) ∧ s3 = .int .u32 ((Fr.run r0 (l.take j) : Nat) : Int) ∧ Below w.heap.size w wq ∧ OneB wq A c l) (fun _ _ s16 _ => l.length - (intOf s16).toNat)
      case atStart => exact ⟨0, by omega, rfl, rfl, HBW.out, HO.out⟩
      case round =>
        obtain ⟨j, hj, rfl, rfl, hbq, hOq⟩ := hrel
        have hq := Fr.run_lt (l.take j) r0 hr (fun x hx => HO.out.byte x (List.mem_of_mem_take hx))
        by_cases hjl : j < l.length
        · have hd2 : decide ((j : Int) < (l.length : Int)) = true := decide_eq_true (by omega)
          have hOq2 := hOq
          obtain ⟨b, off, rfl, hcl⟩ := hOq.at (by intro e; rw [e] at hjl; simp at hjl)
          have d0 := hcl j hjl
          have hcap := hOq.cap
          have hle := hOq.le
          unfold maxLen at hcap
          have hbx : isB (l.getD j 0) := by
            rw [List.getD_eq_getElem?_getD, List.getElem?_eq_getElem hjl]
            exact hOq.byte _ (List.getElem_mem hjl)
          have hn1 := Fr.run_take r0 l j hjl
          obtain ⟨r, hre⟩ : ∃ r, Fr.run r0 (l.take j) = r := ⟨_, rfl⟩
          obtain ⟨x, hxe⟩ : ∃ x, l.getD j 0 = x := ⟨_, rfl⟩
          rw [hre] at hq hn1 ⊢
          rw [hxe] at d0 hbx hn1
          rw [Fr.byte8_four] at hn1
          have hbx' := hbx
          unfold isB at hbx'
          have hx := u32_xor_nat r x.toNat hq (by omega)
          rw [show ((x.toNat : Nat) : Int) = x from by omega] at hx
          have hv := Fr.xor_lt hq (show x.toNat < 4294967296 by omega)
          obtain ⟨v, hve⟩ : ∃ v, r ^^^ x.toNat = v := ⟨_, rfl⟩
          rw [hve] at hx hv hn1
          have hv4 := Fr.four_lt hv
          have N1 := Lib.hid (fun wx hh => fshift_any v hv wx hh)
          have N2 := Lib.hid (fun wx hh => fshift_any (Fr.four v) hv4 wx hh)
          have HN1 := Lib.hid hn1; have HOQ := Lib.hid hOq2; have HBQ := Lib.hid hbq
          clear hre hxe hve hcl hn1 hbx hOq hOq2 hbq HO HBW HC H1 HF
          go_wp2_with fail
          refine (N1.out _ (HH.out.later HBQ.out)).mono ?_
          rintro e w1 ⟨rfl, b1⟩
          go_wp2_with fail
          refine (N2.out _ ((HH.out.later HBQ.out).later b1)).mono ?_
          rintro e w2 ⟨rfl, b2⟩
          go_wp2_with fail
          go_roundw
          case rel => exact ⟨j + 1, by omega, by first | rfl | (congr 1; omega), by rw [HN1.out], below_on HBQ.out (below_on b1 b2), HOQ.out.later (below_on b1 b2)⟩
          case measure => simp [intOf]; omega
        · obtain rfl : j = l.length := by omega
          have hd2 : decide ((l.length : Int) < (l.length : Int)) = false := decide_eq_false (by omega)
          rw [List.take_of_length_le (Nat.le_refl _)] at hq ⊢
          rw [← HNX.out] at hq ⊢
          obtain ⟨q, hqe⟩ : ∃ q, Fr.run 4294967295 (ls.take (k + 1)).flatten = q := ⟨_, rfl⟩
          rw [hqe] at hq ⊢
          have HQ := Lib.hid hqe; have HBQ := Lib.hid hbq
          clear hqe hbq hOq HNX HO HBW
          go_wp2_with fail
          go_roundw
          case rel => exact ⟨k + 1, by omega, by first | rfl | (congr 1; omega), by rw [HQ.out], HBQ.out⟩
          case measure => simp [intOf]; omega
    · obtain rfl : k = m := by omega
      have hd : decide ((k : Int) < (k : Int)) = false := decide_eq_false (by omega)
      rw [List.take_of_length_le (by rw [HM.out]; exact Nat.le_refl _)] at hr ⊢
      have hsum : ((Fr.sum ls.flatten : Nat) : Int) = 4294967295 - ((Fr.run 4294967295 ls.flatten : Nat) : Int) := by
        unfold Fr.sum
        omega
      obtain ⟨r, hre⟩ : ∃ r, Fr.run 4294967295 ls.flatten = r := ⟨_, rfl⟩
      rw [hre] at hr hsum ⊢
      have HSUM := Lib.hid hsum; have HT := Lib.hid (Fr.turn r hr)
      clear hre hsum
      go_wp2
      go_ret
      exact ⟨by rw [HSUM.out, ← HT.out]; rfl, hbw⟩

end Go.Proofs.YtkhggofcbdcliaaDoor
