/-
  What slices.Grow answers of no slice at bytes, slices.Concat of lists of bytes, bytes.Clone.
-/
import Derived.Test.YtobgbaejdamecaaDoorPkSpec
import Derived.Lib.AppendZerosOnto
import Derived.Lib.Walk
namespace Go.Proofs.YtobgbaejdamecaaDoor
open Go.RowKit

set_option maxHeartbeats 3200000 in
set_option maxRecDepth 100000 in
theorem growB_any (n : Nat) (w : World) (hn : n ≤ 140737488355328) :
    Calls Tryd.prog 31 #[.slice none 0 0, .int .i64 n] w fun e w' => ∃ v, e = .returned v ∧ w'.ownsRow w.heap.size 5 1 v 0 [] ∧ Below w.heap.size w w' := by
  by_cases h0 : n = 0
  · subst h0
    go_enter Tryd.func31, Tryd.ntmps31
    go_wp2
    go_ret
    exact ⟨_, rfl, ⟨rfl, .inl ⟨rfl, rfl⟩⟩, Below.refl _ _⟩
  · obtain ⟨i0, hI, hz0, hz1, hz2⟩ := info_parts infoBy
    have hn1 : ¬ ((n : Int) < 0) := by omega
    have hn2 : (0 : Int) < (n : Int) := by omega
    have hold : (Builtin.firstCells i0.size 0 (.slice none 0 0)).run Tryd.prog w.drew = .ok ([] : List Value).toArray w.drew := run_firstCells_none w.drew i0.size 0 0 0
    obtain ⟨G, hG⟩ : ∃ G, grownCap w n 0 5 = G := ⟨_, rfl⟩
    have hGn : n ≤ G := by rw [← hG]; exact grownCap_ge w _ _ _
    have hG63 : G ≤ maxLen := by rw [← hG]; exact grownCap_le_maxLen w n 0 5 (by unfold maxLen; omega)
    obtain ⟨Z, hZ⟩ : ∃ Z, ([] : List Value).toArray ++ Builtin.zeroCells (Value.cells (.int .u8 0)) n ++ Builtin.zeroCells (Value.cells (.int .u8 0)) (G - n) = Z := ⟨_, rfl⟩
    have hZs : Z.size = G * 1 := by
      rw [← hZ, Array.size_append, Array.size_append, size_zeroCells, size_zeroCells]
      show 0 + n * 1 + (G - n) * 1 = G * 1
      omega
    have hrz : ∀ ty, (Builtin.append_ #[22, 3] ty #[.slice none 0 0, .int .i64 (n : Int)]).run Tryd.prog w = .ok (.slice (some ⟨w.heap.size, 0, none⟩) n G) (w.drew.alloc (.cells Z 5)) := fun ty => by
      have h := Lib.run_append_grow_zeros w 22 3 ty 5 i0 (.int .u8 0) .i64 .i64 Tryd.underlying22 Tryd.underlying3 hI hz0 none 0 0 [] hold n (by omega) (by rw [hz1]; omega) (by omega) (by omega) (by rw [hz2]; omega) (growslice_fits (by omega) (by rw [hz2]; omega))
      rw [Nat.zero_add, hG, hZ] at h
      exact h
    have hB := Blk.new w.drew 5 Z
    have HB := Lib.hid (show Blk (w.drew.alloc (.cells Z 5)) w.heap.size 5 Z from hB)
    have hG1 : G ≤ 9223372036854775807 := by unfold maxLen at hG63; exact hG63
    have HZS := Lib.hid hZs
    have HGM := Lib.hid hG63
    have hbz := (Below.drew (Below.refl w.heap.size w)).alloc (Nat.le_refl _) (.cells Z 5)
    clear hold hG hZ hB hZs hG63
    go_enter Tryd.func31, Tryd.ntmps31
    go_wp2_with (at_builtin; refine Lib.wpList_append_run _ rfl _ _ _ _ rfl _ _ rfl rfl _ _ (hrz _) ?_)
    all_goals (go_ret; exact ⟨_, rfl, ⟨rfl, .inr ⟨w.heap.size, G, Z, rfl, Nat.le_refl _, HB.out, Nat.zero_le _, HGM.out, HZS.out, rfl⟩⟩, hbz⟩)

/-- Lists of bytes, one a slice, in a block. -/
def sliCells : List (Option Addr × Nat) → List (List Int) → List Value
  | x :: cs, l :: ls => .slice x.1 l.length x.2 :: sliCells cs ls
  | _, _ => []
theorem sliCells_get : ∀ (cs : List (Option Addr × Nat)) (ls : List (List Int)) (k : Nat), k < cs.length → k < ls.length → (sliCells cs ls)[k]? = some (.slice (cs.getD k (none, 0)).1 (ls.getD k []).length (cs.getD k (none, 0)).2)
  | [], _, k, h, _ => by simp at h
  | c :: cs, [], k, _, h => by simp at h
  | c :: cs, l :: ls, 0, _, _ => by simp [sliCells]
  | c :: cs, l :: ls, k + 1, h, h' => by
    have := sliCells_get cs ls k (by simpa using h) (by simpa using h')
    simpa [sliCells] using this
theorem flat_take (ls : List (List Int)) (k : Nat) (hk : k < ls.length) : (ls.take (k + 1)).flatten = (ls.take k).flatten ++ ls.getD k [] := by
  rw [List.take_succ_eq_append_getElem hk, List.flatten_append, List.getD_eq_getElem?_getD, List.getElem?_eq_getElem hk]
  simp
theorem flat_take_le (ls : List (List Int)) (k : Nat) : (ls.take k).flatten.length ≤ ls.flatten.length := by
  conv => rhs; rw [← List.take_append_drop k ls, List.flatten_append, List.length_append]
  omega

set_option maxHeartbeats 6400000 in
set_option maxRecDepth 100000 in
theorem concatB_any (g m : Nat) (hmx : m ≤ 9223372036854775806) (cs : List (Option Addr × Nat)) (ls : List (List Int)) (w : World) (hm : ls.length = m) (hcs : cs.length = ls.length) (hB : Blk w g 22 (sliCells cs ls).toArray) (h1 : ∀ k, k < ls.length → OneB w (cs.getD k (none, 0)).1 (cs.getD k (none, 0)).2 (ls.getD k [])) (hsz : ls.flatten.length ≤ 140737488355328) :
    Calls Tryd.prog 25 #[.slice (some ⟨g, 0, none⟩) m m] w (GivesB ls.flatten w) := by
  obtain ⟨i0, hI, hz0, hz1, hz2⟩ := info_parts infoBy
  have hcell : ∀ k, k < m → w.cell? ⟨g, k, none⟩ = some (.slice (cs.getD k (none, 0)).1 (ls.getD k []).length (cs.getD k (none, 0)).2) := fun k hk => hB.cell (by
    have := sliCells_get cs ls k (by omega) (by omega)
    simpa using this)
  have HC := Lib.hid hcell
  have H1 := Lib.hid h1
  have N0 := Lib.hid (fun n hn => growB_any n w hn)
  have HM := Lib.hid hm
  have HF := Lib.hid (fun k => flat_take ls k)
  have HL := Lib.hid (fun k => flat_take_le ls k)
  clear hB h1 hcell hm
  go_enter Tryd.func25, Tryd.ntmps25
  go_wp2_with fail
  go_loopw [3, 5, 11] (fun s3 s5 s11 wr => ∃ k : Nat, k ≤ m ∧ s11 = .int .i64 (k : Int) ∧ s3 = .int .i64 (((ls.take k).flatten.length : Nat) : Int) ∧ wr = w) (fun _ _ s11 _ => m - (intOf s11).toNat)
  case atStart => exact ⟨0, by omega, rfl, rfl, rfl⟩
  case round =>
    obtain ⟨k, hk, rfl, rfl, hwr⟩ := hrel
    have hwr := hwr.symm
    subst hwr
    by_cases hkm : k < m
    · have hd : decide ((k : Int) < (m : Int)) = true := decide_eq_true (by omega)
      have c0 := HC.out k hkm
      have e1 := HF.out k (by rw [HM.out]; exact hkm)
      have e2 := HL.out (k + 1)
      rw [e1, List.length_append] at e2
      have E1 := Lib.hid e1
      have e3 := HL.out k
      obtain ⟨a, ha⟩ : ∃ a, (ls.take k).flatten.length = a := ⟨_, rfl⟩
      obtain ⟨b, hb⟩ : ∃ b, (ls.getD k []).length = b := ⟨_, rfl⟩
      have hab : (ls.take (k + 1)).flatten.length = a + b := by rw [E1.out, List.length_append, ha, hb]
      rw [ha, hb] at e2
      rw [hb] at c0
      rw [ha]
      have hnn : decide ((a : Int) + (b : Int) < 0) = false := decide_eq_false (by omega)
      have HAB := Lib.hid hab
      clear e1 e3 ha hb hab HC HF HL
      go_wp2_with fail
      go_roundw
      case rel => exact ⟨k + 1, by omega, by first | rfl | (congr 1; omega), by rw [HAB.out]; first | rfl | (congr 1; omega), by first | rfl | trivial⟩
      case measure => simp [intOf]; omega
    · obtain rfl : k = m := by omega
      have hd : decide ((k : Int) < (k : Int)) = false := decide_eq_false (by omega)
      have hall : (ls.take k).flatten = ls.flatten := by rw [List.take_of_length_le (by rw [HM.out]; omega)]
      rw [hall]
      have HS := Lib.hid (fun k => (Nat.le_trans (flat_take_le ls k) hsz))
      obtain ⟨t, ht⟩ : ∃ t, ls.flatten.length = t := ⟨_, rfl⟩
      rw [ht] at hsz ⊢
      clear hall hd
      go_wp2_with fail
      refine (N0.out t hsz).mono ?_
      rintro e w1 ⟨v, rfl, ho, b1⟩
      have HO := Lib.hid ho
      clear ho
      go_wp2_with fail
      go_loopw [6, 8, 27] (fun s6 s8 s27 wr => ∃ j : Nat, j ≤ k ∧ s27 = .int .i64 (j : Int) ∧ wr.ownsRow w.heap.size 5 1 s6 (ls.take j).flatten.length (bCells (ls.take j).flatten) ∧ Below w.heap.size w wr) (fun _ _ s27 _ => k - (intOf s27).toNat)
      case atStart => exact ⟨0, by omega, rfl, HO.out, b1⟩
      case round =>
        obtain ⟨j, hj, rfl, hown, hbw⟩ := hrel
        by_cases hjm : j < k
        · have hd : decide ((j : Int) < (k : Int)) = true := decide_eq_true (by omega)
          have c0 := cell_later hbw (HC.out j hjm)
          have e1 := HF.out j (by rw [HM.out]; exact hjm)
          have e2 := HS.out (j + 1)
          rw [e1, List.length_append] at e2
          have E1 := Lib.hid e1
          have hO := (H1.out j (by rw [HM.out]; exact hjm)).later hbw
          obtain ⟨A, hA⟩ : ∃ A, (cs.getD j (none, 0)).1 = A := ⟨_, rfl⟩
          obtain ⟨c, hc⟩ : ∃ c, (cs.getD j (none, 0)).2 = c := ⟨_, rfl⟩
          obtain ⟨l, hl⟩ : ∃ l, ls.getD j [] = l := ⟨_, rfl⟩
          obtain ⟨p, hp⟩ : ∃ p, (ls.take j).flatten = p := ⟨_, rfl⟩
          rw [hA, hc, hl] at c0 hO
          rw [hl, hp] at e2
          rw [hp] at hown
          have hpl : (ls.take (j + 1)).flatten = p ++ l := by rw [E1.out, hp, hl]
          have HPL := Lib.hid hpl
          have hsz1 := hbw.size
          have HO2 := Lib.hid hO
          clear e1 hpl hA hc hl hp E1 hO HO HC H1 HF HL HS N0
          go_wp2_with (at_builtin; refine wpList_append_lies _ rfl _ _ 22 rfl w.heap.size 5 i0 (.int .u8 0) 1 1 Tryd.underlying22 hI hz0 hz1 hz2 rfl (by decide) _ p.length (bCells p) rfl hown A l.length c HO2.out.noA (bCells l) rfl (by rw [bCells_length, Nat.mul_one]) HO2.out.lies (bCells_one l) ?c3 ?c4 ?c5 ?_)
          case c3 => unfold maxLen; omega
          case c4 => omega
          case c5 => exact hsz1
          intro v2 w2 ho2 hg2 _
          have b2 := hbw.grown hg2 hsz1 (fun k' hk' => own_ge hown _ hk')
          rw [← bCells_append, ← List.length_append] at ho2
          have HO3 := Lib.hid ho2
          clear ho2 hg2 hown c0
          go_wp2_with fail
          go_roundw
          case rel => exact ⟨j + 1, by omega, by first | rfl | (congr 1; omega), by rw [HPL.out]; exact HO3.out, b2⟩
          case measure => simp [intOf]; omega
        · obtain rfl : j = k := by omega
          have hd : decide ((j : Int) < (j : Int)) = false := decide_eq_false (by omega)
          have hall : (ls.take j).flatten = ls.flatten := by rw [List.take_of_length_le (by rw [HM.out]; omega)]
          rw [hall] at hown
          have HW := Lib.hid hown
          clear hall hd hown
          go_wp2
          go_ret
          exact ⟨_, rfl, HW.out, hbw⟩

end Go.Proofs.YtobgbaejdamecaaDoor
