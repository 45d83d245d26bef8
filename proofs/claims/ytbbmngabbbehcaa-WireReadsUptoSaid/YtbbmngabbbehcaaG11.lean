/-
  Worlds that agree but for two blocks and for what is new. Nothing of the program is imported.
  What is asked of each of pack's functions (its contract), as one structure. With it: the fixed fact 'alive'.
  What pack's numberBytes answers.
  What slices.Grow answers of no slice at bytes, slices.Concat of lists of bytes, bytes.Clone.
-/
import Derived.Test.YtbbmngabbbehcaaG04
import Derived.Test.YtbbmngabbbehcaaG03
import Derived.Lib.AppendZerosOnto
import Derived.Lib.Walk
namespace Go.Proofs.Ytbbmngabbbehcaa
open Go.RowKit

/-- All that lay is as it was, but for the blocks a and b. -/
def But (a b : Nat) (w w' : World) : Prop := w.heap.size ≤ w'.heap.size ∧ ∀ k, k < w.heap.size → k ≠ a → k ≠ b → w'.heap[k]? = w.heap[k]?
section
variable {a b : Nat} {w w1 w2 : World}
theorem But.refl (a b : Nat) (w : World) : But a b w w := ⟨Nat.le_refl _, fun _ _ _ _ => rfl⟩
theorem But.below (h : But a b w w1) (hb : Below w1.heap.size w1 w2) : But a b w w2 := ⟨Nat.le_trans h.1 hb.size, fun k hk h1 h2 => (hb.block k (by have := h.1; omega)).trans (h.2 k hk h1 h2)⟩
theorem But.drew (h : But a b w w1) : But a b w w1.drew := h
theorem But.alloc (h : But a b w w1) (o : Obj) : But a b w (w1.alloc o) := h.below (below_new (Below.refl _ _) o)
theorem But.setA (h : But a b w w1) (i : Nat) (x : Value) : But a b w (w1.setCell ⟨a, i, none⟩ x) := ⟨by simpa using h.1, fun k hk h1 h2 => (Below.heap_setCell w1 ⟨a, i, none⟩ x k h1).trans (h.2 k hk h1 h2)⟩
theorem But.setB (h : But a b w w1) (i : Nat) (x : Value) : But a b w (w1.setCell ⟨b, i, none⟩ x) := ⟨by simpa using h.1, fun k hk h1 h2 => (Below.heap_setCell w1 ⟨b, i, none⟩ x k h2).trans (h.2 k hk h1 h2)⟩
theorem But.grown (h : But a b w w1) {row : Option Nat} (hg : w1.grownBy w2 row) (hs : w1.heap.size ≤ w2.heap.size) (hr : ∀ r, row = some r → w.heap.size ≤ r) : But a b w w2 :=
  ⟨Nat.le_trans h.1 hs, fun k hk h1 h2 => (hg.block k (by have := h.1; omega) (fun e => by have := hr k e.symm; omega)).trans (h.2 k hk h1 h2)⟩
theorem But.blk (h : But a b w w1) {g : Nat} {t : TypeId} {cs : Array Value} (hB : Blk w g t cs) (h1 : g ≠ a) (h2 : g ≠ b) : Blk w1 g t cs := (h.2 g hB.lt h1 h2).trans hB
def isInt : Value → Bool
  | .int .. => true
  | _ => false
/-- A list that begins with a whole number doesn't lie in a block that holds none. -/
theorem lies_far {A : Option Addr} {xs : List Value} {u : Value} (h : Lies w A (u :: xs)) (hu : isInt u = true) {g : Nat} {t : TypeId} {cs : Array Value} (hB : Blk w g t cs) (hc : ∀ x ∈ cs.toList, isInt x = false) : ∀ p, A = some p → p.block ≠ g := fun p hp e => by
  obtain ⟨c, off, hA, hl⟩ := h (by simp)
  rw [hp] at hA
  injection hA with hA
  subst hA
  simp only at e
  subst e
  have h1 := hl 0 u rfl
  rw [Nat.add_zero, cell_of_row w c off cs t (0, 0) hB] at h1
  have h2 := hc u (Array.mem_toList_iff.2 (Array.mem_of_getElem? h1))
  rw [hu] at h2
  cases h2
theorem Lies.but {A : Option Addr} {xs : List Value} (h : Lies w A xs) (hb : But a b w w1) (hi : ∀ u r, xs = u :: r → isInt u = true) {ta tb : TypeId} {ca cb : Array Value} (hA : Blk w a ta ca) (hca : ∀ x ∈ ca.toList, isInt x = false) (hB : Blk w b tb cb) (hcb : ∀ x ∈ cb.toList, isInt x = false) : Lies w1 A xs := by
  cases xs with
  | nil => exact Lies.nil
  | cons u r =>
    have f1 := lies_far h (hi u r rfl) hA hca
    have f2 := lies_far h (hi u r rfl) hB hcb
    intro hne
    obtain ⟨c, off, hA', hl⟩ := h hne
    refine ⟨c, off, hA', fun j x hx => ?_⟩
    have h1 := hl j x hx
    have hlt := World.block_lt_of_cell? _ _ h1
    exact (World.cell?_of_block (a := ⟨c, off + j, none⟩) (hb.2 c hlt (f1 _ hA') (f2 _ hA'))).trans h1
theorem OneL.but {A : Option Addr} {c : Nat} {l : List (Int × Int)} (h : OneL w A c l) (hb : But a b w w1) {ta tb : TypeId} {ca cb : Array Value} (hA : Blk w a ta ca) (hca : ∀ x ∈ ca.toList, isInt x = false) (hB : Blk w b tb cb) (hcb : ∀ x ∈ cb.toList, isInt x = false) : OneL w1 A c l :=
  ⟨h.1, h.2.1, h.2.2.1, h.2.2.2.but hb (fun u r e => by cases l with | nil => cases e | cons s q => cases e; rfl) hA hca hB hcb⟩
theorem OneW.but {A : Option Addr} {c : Nat} {l : List Wr} (h : OneW w A c l) (hb : But a b w w1) {ta tb : TypeId} {ca cb : Array Value} (hA : Blk w a ta ca) (hca : ∀ x ∈ ca.toList, isInt x = false) (hB : Blk w b tb cb) (hcb : ∀ x ∈ cb.toList, isInt x = false) : OneW w1 A c l :=
  ⟨h.1, h.2.1, h.2.2.1, h.2.2.2.but hb (fun u r e => by cases l with | nil => cases e | cons s q => cases e; rfl) hA hca hB hcb⟩
end

theorem marks_noInt (f : Nat → Bool) : ∀ x ∈ (Sp.arr f).toList, isInt x = false := by
  intro x hx
  unfold Sp.arr at hx
  simp at hx
  obtain ⟨i, _, rfl⟩ := hx
  rfl

end Go.Proofs.Ytbbmngabbbehcaa
namespace Go.Proofs.Ytbbmngabbbehcaa
open Go.RowKit

namespace Pk
/-- How many bytes a number's are. -/
def lenOf (n : Int) : Int := if n < 0 then 0 else ((bytesOf n.toNat).length : Int)
/-- A number's bytes behind others, the error's number. -/
def appn (l : List Int) (n : Int) : List Int × Int := if n < 0 then ([], 1) else (l ++ bytesOf n.toNat, 0)
end Pk

/-- A list of bytes is answered; what was there before is as it was. -/
def AnsB (l : List Int) (w : World) (en : Ending) (w' : World) : Prop := ∃ A c, en = .returned (.slice A l.length c) ∧ OneB w' A c l ∧ Below w.heap.size w w'
/-- A list of bytes and a number. -/
def AnsB2 (l : List Int) (e : Int) (w : World) (en : Ending) (w' : World) : Prop := ∃ A c, en = .returned (.tuple #[.slice A l.length c, .int .i64 e]) ∧ OneB w' A c l ∧ Below w.heap.size w w'
/-- A list of bytes in memory of the call's own, and two numbers. -/
def GivesB3 (l : List Int) (k e : Int) (w : World) (en : Ending) (w' : World) : Prop := ∃ v, en = .returned (.tuple #[v, .int .i64 k, .int .i64 e]) ∧ w'.ownsRow w.heap.size 5 1 v l.length (bCells l) ∧ Below w.heap.size w w'

theorem palive_of : Pk.appn [7] 300 = ([7, 172, 2], 0) := by decide

end Go.Proofs.Ytbbmngabbbehcaa
namespace Go.Proofs.Ytbbmngabbbehcaa
open Go.RowKit

namespace Pk
theorem or_128 (m : Nat) : bits BinOp.or IntKind.u8 ((m : Int) % 256) 128 = (m : Int) % 128 + 128 := by
  have h : ∀ n : Fin 256, bits BinOp.or IntKind.u8 ((n.val : Nat) : Int) 128 = ((n.val % 128 + 128 : Nat) : Int) := by decide +kernel
  have k := h ⟨m % 256, by omega⟩
  simp only at k
  rw [show ((m : Int) % 256) = ((m % 256 : Nat) : Int) from by omega, k]
  omega
end Pk

set_option maxRecDepth 100000 in
set_option maxHeartbeats 1600000 in
theorem dnb_any (n : Nat) (w : World) (hn : n ≤ 9223372036854775807) : Calls Try.prog 124 #[.int .i64 (n : Int)] w (GivesB (Pk.bytesOf n) w) := by
  obtain ⟨i0, hi, hz0, hz1, hz2⟩ := info_parts infoBy
  have hpw : n < 128 ^ (9 + 1) := Nat.lt_of_le_of_lt hn (by decide)
  go_enter Try.func124, Try.ntmps124
  go_wp2_with fail
  go_loopw [0, 3] (fun s0 s3 wr => ∃ (f m : Nat) (pre : List Int), s0 = .int .i64 (m : Int) ∧ wr.ownsRow w.heap.size 5 1 s3 pre.length (bCells pre) ∧ pre ++ Pk.nb f m = Pk.bytesOf n ∧ m < 128 ^ (f + 1) ∧ m ≤ n ∧ pre.length + f = 9 ∧ Below w.heap.size w wr) (fun s0 _ _ => (intOf s0).toNat)
  case atStart => exact ⟨9, n, [], rfl, ⟨rfl, .inl ⟨rfl, rfl⟩⟩, rfl, hpw, Nat.le_refl _, rfl, Below.refl _ _⟩
  case round =>
    obtain ⟨f, m, pre, rfl, hown, hpre, hm, hmn, hf, hbw⟩ := hrel
    by_cases hge : 128 ≤ m
    · have hd : decide ((128 : Int) ≤ (m : Int)) = true := decide_eq_true (by omega)
      obtain ⟨f', rfl⟩ : ∃ f', f = f' + 1 := by
        cases f with
        | zero => simp at hm; omega
        | succ f' => exact ⟨f', rfl⟩
      have hnx : (pre ++ [(m : Int) % 128 + 128]) ++ Pk.nb f' (m / 128) = Pk.bytesOf n := by
        rw [← hpre, List.append_assoc]
        congr 1
        rw [Pk.nb, if_neg (by omega)]
        show ((m : Int) % 128 + 128) :: Pk.nb f' (m / 128) = _
        congr 1
      have hdv : m / 128 < 128 ^ (f' + 1) := by
        rw [Nat.div_lt_iff_lt_mul (by omega)]
        rw [Nat.pow_succ] at hm
        exact hm
      have hlt : m / 128 < m := by omega
      have hsz := hbw.size
      have HNX := Lib.hid hnx
      have HDV := Lib.hid hdv
      clear hnx hdv hpre hm
      go_wp2_with (at_builtin; refine wpList_append_lies _ rfl _ _ 23 rfl w.heap.size 5 i0 (.int .u8 0) 1 1 Try.underlying23 hi hz0 hz1 hz2 rfl (by decide) _ pre.length (bCells pre) rfl (hown.alloc _) (some ⟨wr.heap.size, 0, none⟩) 1 1 (fun h => by cases h) (bCells [bits BinOp.or IntKind.u8 ((m : Int) % 256) 128]) rfl rfl ?c1 (bCells_one _) ?c3 ?c4 ?c5 ?_)
      case c1 =>
        intro _
        refine ⟨wr.heap.size, 0, rfl, fun j u hu => ?_⟩
        rw [Nat.zero_add]
        exact (Blk.new wr 5 #[.int .u8 (bits BinOp.or IntKind.u8 ((m : Int) % 256) 128)]).cell (by simpa [bCells] using hu)
      case c3 => unfold maxLen; omega
      case c4 => omega
      case c5 => simp; omega
      intro v' w1 hown1 hg1 _
      have hb1 : Below w.heap.size w w1 := (below_new hbw _).grown hg1 (by simp; omega) (fun k' hk' => by have := own_ge hown _ hk'; omega)
      rw [← bCells_append, Pk.or_128 m, show pre.length + 1 = (pre ++ [(m : Int) % 128 + 128]).length from by simp] at hown1
      have HO := Lib.hid hown1
      clear hown1 hown hg1
      go_wp2_with fail
      go_roundw
      case rel => exact ⟨f', m / 128, pre ++ [(m : Int) % 128 + 128], by first | rfl | simp, HO.out, HNX.out, HDV.out, by omega, by simp; omega, hb1⟩
      case measure => simp [intOf]; omega
    · have hd : decide ((128 : Int) ≤ (m : Int)) = false := decide_eq_false (by omega)
      have hone : Pk.nb f m = [(m : Int)] := by
        cases f with
        | zero => rfl
        | succ f' => rw [Pk.nb, if_pos (by omega)]
      have hfin : pre ++ [(m : Int)] = Pk.bytesOf n := by rw [← hpre, hone]
      have hsz := hbw.size
      have HFIN := Lib.hid hfin
      clear hone hfin hpre hm
      go_wp2_with (at_builtin; refine wpList_append_lies _ rfl _ _ 23 rfl w.heap.size 5 i0 (.int .u8 0) 1 1 Try.underlying23 hi hz0 hz1 hz2 rfl (by decide) _ pre.length (bCells pre) rfl (hown.alloc _) (some ⟨wr.heap.size, 0, none⟩) 1 1 (fun h => by cases h) (bCells [(m : Int)]) rfl rfl ?c1 (bCells_one _) ?c3 ?c4 ?c5 ?_)
      case c1 =>
        intro _
        refine ⟨wr.heap.size, 0, rfl, fun j u hu => ?_⟩
        rw [Nat.zero_add]
        exact (Blk.new wr 5 #[.int .u8 ((m : Int))]).cell (by simpa [bCells] using hu)
      case c3 => unfold maxLen; omega
      case c4 => omega
      case c5 => simp; omega
      intro v' w1 hown1 hg1 _
      have hb1 : Below w.heap.size w w1 := (below_new hbw _).grown hg1 (by simp; omega) (fun k' hk' => by have := own_ge hown _ hk'; omega)
      rw [← bCells_append, show pre.length + 1 = (pre ++ [(m : Int)]).length from by simp] at hown1
      have HO := Lib.hid hown1
      clear hown1 hown hg1
      go_wp2
      go_ret
      exact ⟨_, rfl, by rw [← HFIN.out]; exact HO.out, hb1⟩

end Go.Proofs.Ytbbmngabbbehcaa
namespace Go.Proofs.Ytbbmngabbbehcaa
open Go.RowKit

set_option maxHeartbeats 3200000 in
set_option maxRecDepth 100000 in
theorem growB_any (n : Nat) (w : World) (hn : n ≤ 140737488355328) :
    Calls Try.prog 129 #[.slice none 0 0, .int .i64 n] w fun e w' => ∃ v, e = .returned v ∧ w'.ownsRow w.heap.size 5 1 v 0 [] ∧ Below w.heap.size w w' := by
  by_cases h0 : n = 0
  · subst h0
    go_enter Try.func129, Try.ntmps129
    go_wp2
    go_ret
    exact ⟨_, rfl, ⟨rfl, .inl ⟨rfl, rfl⟩⟩, Below.refl _ _⟩
  · obtain ⟨i0, hI, hz0, hz1, hz2⟩ := info_parts infoBy
    have hn1 : ¬ ((n : Int) < 0) := by omega
    have hn2 : (0 : Int) < (n : Int) := by omega
    have hold : (Builtin.firstCells i0.size 0 (.slice none 0 0)).run Try.prog w.drew = .ok ([] : List Value).toArray w.drew := run_firstCells_none w.drew i0.size 0 0 0
    obtain ⟨G, hG⟩ : ∃ G, grownCap w n 0 5 = G := ⟨_, rfl⟩
    have hGn : n ≤ G := by rw [← hG]; exact grownCap_ge w _ _ _
    have hG63 : G ≤ maxLen := by rw [← hG]; exact grownCap_le_maxLen w n 0 5 (by unfold maxLen; omega)
    obtain ⟨Z, hZ⟩ : ∃ Z, ([] : List Value).toArray ++ Builtin.zeroCells (Value.cells (.int .u8 0)) n ++ Builtin.zeroCells (Value.cells (.int .u8 0)) (G - n) = Z := ⟨_, rfl⟩
    have hZs : Z.size = G * 1 := by
      rw [← hZ, Array.size_append, Array.size_append, size_zeroCells, size_zeroCells]
      show 0 + n * 1 + (G - n) * 1 = G * 1
      omega
    have hrz : ∀ ty, (Builtin.append_ #[23, 3] ty #[.slice none 0 0, .int .i64 (n : Int)]).run Try.prog w = .ok (.slice (some ⟨w.heap.size, 0, none⟩) n G) (w.drew.alloc (.cells Z 5)) := fun ty => by
      have h := Lib.run_append_grow_zeros w 23 3 ty 5 i0 (.int .u8 0) .i64 .i64 Try.underlying23 Try.underlying3 hI hz0 none 0 0 [] hold n (by omega) (by rw [hz1]; omega) (by omega) (by omega) (by rw [hz2]; omega) (growslice_fits (by omega) (by rw [hz2]; omega))
      rw [Nat.zero_add, hG, hZ] at h
      exact h
    have hB := Blk.new w.drew 5 Z
    have HB := Lib.hid (show Blk (w.drew.alloc (.cells Z 5)) w.heap.size 5 Z from hB)
    have hG1 : G ≤ 9223372036854775807 := by unfold maxLen at hG63; exact hG63
    have HZS := Lib.hid hZs
    have HGM := Lib.hid hG63
    have hbz := (Below.drew (Below.refl w.heap.size w)).alloc (Nat.le_refl _) (.cells Z 5)
    clear hold hG hZ hB hZs hG63
    go_enter Try.func129, Try.ntmps129
    go_wp2_with (at_builtin; refine Lib.wpList_append_run _ rfl _ _ _ _ rfl _ _ rfl rfl _ _ (hrz _) ?_)
    all_goals (go_ret; exact ⟨_, rfl, ⟨rfl, .inr ⟨w.heap.size, G, Z, rfl, Nat.le_refl _, HB.out, Nat.zero_le _, HGM.out, HZS.out, rfl⟩⟩, hbz⟩)

/-- Lists of bytes, one a slice, in a block. -/
def sliCells : List (Option Addr × Nat) → List (List Int) → List Value
  | x :: cs, l :: ls => .slice x.1 l.length x.2 :: sliCells cs ls
  | _, _ => []
theorem sliCells_get : ∀ (cs : List (Option Addr × Nat)) (ls : List (List Int)) (k : Nat), k < cs.length → k < ls.length → (sliCells cs ls)[k]? = some (.slice (cs.getD k (none, 0)).1 (ls.getD k []).length (cs.getD k (none, 0)).2)
  | [], _, k, h, _ => by simp at h
  | c :: cs, [], k, _, h => by simp at h
  | c :: cs, l :: ls, 0, _, _ => by simp [sliCells]
  | c :: cs, l :: ls, k + 1, h, h' => by
    have := sliCells_get cs ls k (by simpa using h) (by simpa using h')
    simpa [sliCells] using this
theorem flat_take (ls : List (List Int)) (k : Nat) (hk : k < ls.length) : (ls.take (k + 1)).flatten = (ls.take k).flatten ++ ls.getD k [] := by
  rw [List.take_succ_eq_append_getElem hk, List.flatten_append, List.getD_eq_getElem?_getD, List.getElem?_eq_getElem hk]
  simp
theorem flat_take_le (ls : List (List Int)) (k : Nat) : (ls.take k).flatten.length ≤ ls.flatten.length := by
  conv => rhs; rw [← List.take_append_drop k ls, List.flatten_append, List.length_append]
  omega

set_option maxHeartbeats 6400000 in
set_option maxRecDepth 100000 in
theorem concatB_any (g m : Nat) (hmx : m ≤ 9223372036854775806) (cs : List (Option Addr × Nat)) (ls : List (List Int)) (w : World) (hm : ls.length = m) (hcs : cs.length = ls.length) (hB : Blk w g 23 (sliCells cs ls).toArray) (h1 : ∀ k, k < ls.length → OneB w (cs.getD k (none, 0)).1 (cs.getD k (none, 0)).2 (ls.getD k [])) (hsz : ls.flatten.length ≤ 140737488355328) :
    Calls Try.prog 123 #[.slice (some ⟨g, 0, none⟩) m m] w (GivesB ls.flatten w) := by
  obtain ⟨i0, hI, hz0, hz1, hz2⟩ := info_parts infoBy
  have hcell : ∀ k, k < m → w.cell? ⟨g, k, none⟩ = some (.slice (cs.getD k (none, 0)).1 (ls.getD k []).length (cs.getD k (none, 0)).2) := fun k hk => hB.cell (by
    have := sliCells_get cs ls k (by omega) (by omega)
    simpa using this)
  have HC := Lib.hid hcell
  have H1 := Lib.hid h1
  have N0 := Lib.hid (fun n hn => growB_any n w hn)
  have HM := Lib.hid hm
  have HF := Lib.hid (fun k => flat_take ls k)
  have HL := Lib.hid (fun k => flat_take_le ls k)
  clear hB h1 hcell hm
  go_enter Try.func123, Try.ntmps123
  go_wp2_with fail
  go_loopw [3, 5, 11] (fun s3 s5 s11 wr => ∃ k : Nat, k ≤ m ∧ s11 = .int .i64 (k : Int) ∧ s3 = .int .i64 (((ls.take k).flatten.length : Nat) : Int) ∧ wr = w) (fun _ _ s11 _ => m - (intOf s11).toNat)
  case atStart => exact ⟨0, by omega, rfl, rfl, rfl⟩
  case round =>
    obtain ⟨k, hk, rfl, rfl, hwr⟩ := hrel
    have hwr := hwr.symm
    subst hwr
    by_cases hkm : k < m
    · have hd : decide ((k : Int) < (m : Int)) = true := decide_eq_true (by omega)
      have c0 := HC.out k hkm
      have e1 := HF.out k (by rw [HM.out]; exact hkm)
      have e2 := HL.out (k + 1)
      rw [e1, List.length_append] at e2
      have E1 := Lib.hid e1
      have e3 := HL.out k
      obtain ⟨a, ha⟩ : ∃ a, (ls.take k).flatten.length = a := ⟨_, rfl⟩
      obtain ⟨b, hb⟩ : ∃ b, (ls.getD k []).length = b := ⟨_, rfl⟩
      have hab : (ls.take (k + 1)).flatten.length = a + b := by rw [E1.out, List.length_append, ha, hb]
      rw [ha, hb] at e2
      rw [hb] at c0
      rw [ha]
      have hnn : decide ((a : Int) + (b : Int) < 0) = false := decide_eq_false (by omega)
      have HAB := Lib.hid hab
      clear e1 e3 ha hb hab HC HF HL
      go_wp2_with fail
      go_roundw
      case rel => exact ⟨k + 1, by omega, by first | rfl | (congr 1; omega), by rw [HAB.out]; first | rfl | (congr 1; omega), by first | rfl | trivial⟩
      case measure => simp [intOf]; omega
    · obtain rfl : k = m := by omega
      have hd : decide ((k : Int) < (k : Int)) = false := decide_eq_false (by omega)
      have hall : (ls.take k).flatten = ls.flatten := by rw [List.take_of_length_le (by rw [HM.out]; omega)]
      rw [hall]
      have HS := Lib.hid (fun k => (Nat.le_trans (flat_take_le ls k) hsz))
      obtain ⟨t, ht⟩ : ∃ t, ls.flatten.length = t := ⟨_, rfl⟩
      rw [ht] at hsz ⊢
      clear hall hd
      go_wp2_with fail
      refine (N0.out t hsz).mono ?_
      rintro e w1 ⟨v, rfl, ho, b1⟩
      have HO := Lib.hid ho
      clear ho
      go_wp2_with fail
      go_loopw [6, 8, 27] (fun s6 s8 s27 wr => ∃ j : Nat, j ≤ k ∧ s27 = .int .i64 (j : Int) ∧ wr.ownsRow w.heap.size 5 1 s6 (ls.take j).flatten.length (bCells (ls.take j).flatten) ∧ Below w.heap.size w wr) (fun _ _ s27 _ => k - (intOf s27).toNat)
      case atStart => exact ⟨0, by omega, rfl, HO.out, b1⟩
      case round =>
        obtain ⟨j, hj, rfl, hown, hbw⟩ := hrel
        by_cases hjm : j < k
        · have hd : decide ((j : Int) < (k : Int)) = true := decide_eq_true (by omega)
          have c0 := cell_later hbw (HC.out j hjm)
          have e1 := HF.out j (by rw [HM.out]; exact hjm)
          have e2 := HS.out (j + 1)
          rw [e1, List.length_append] at e2
          have E1 := Lib.hid e1
          have hO := (H1.out j (by rw [HM.out]; exact hjm)).later hbw
          obtain ⟨A, hA⟩ : ∃ A, (cs.getD j (none, 0)).1 = A := ⟨_, rfl⟩
          obtain ⟨c, hc⟩ : ∃ c, (cs.getD j (none, 0)).2 = c := ⟨_, rfl⟩
          obtain ⟨l, hl⟩ : ∃ l, ls.getD j [] = l := ⟨_, rfl⟩
          obtain ⟨p, hp⟩ : ∃ p, (ls.take j).flatten = p := ⟨_, rfl⟩
          rw [hA, hc, hl] at c0 hO
          rw [hl, hp] at e2
          rw [hp] at hown
          have hpl : (ls.take (j + 1)).flatten = p ++ l := by rw [E1.out, hp, hl]
          have HPL := Lib.hid hpl
          have hsz1 := hbw.size
          have HO2 := Lib.hid hO
          clear e1 hpl hA hc hl hp E1 hO HO HC H1 HF HL HS N0
          go_wp2_with (at_builtin; refine wpList_append_lies _ rfl _ _ 23 rfl w.heap.size 5 i0 (.int .u8 0) 1 1 Try.underlying23 hI hz0 hz1 hz2 rfl (by decide) _ p.length (bCells p) rfl hown A l.length c HO2.out.noA (bCells l) rfl (by rw [bCells_length, Nat.mul_one]) HO2.out.lies (bCells_one l) ?c3 ?c4 ?c5 ?_)
          case c3 => unfold maxLen; omega
          case c4 => omega
          case c5 => exact hsz1
          intro v2 w2 ho2 hg2 _
          have b2 := hbw.grown hg2 hsz1 (fun k' hk' => own_ge hown _ hk')
          rw [← bCells_append, ← List.length_append] at ho2
          have HO3 := Lib.hid ho2
          clear ho2 hg2 hown c0
          go_wp2_with fail
          go_roundw
          case rel => exact ⟨j + 1, by omega, by first | rfl | (congr 1; omega), by rw [HPL.out]; exact HO3.out, b2⟩
          case measure => simp [intOf]; omega
        · obtain rfl : j = k := by omega
          have hd : decide ((j : Int) < (j : Int)) = false := decide_eq_false (by omega)
          have hall : (ls.take j).flatten = ls.flatten := by rw [List.take_of_length_le (by rw [HM.out]; omega)]
          rw [hall] at hown
          have HW := Lib.hid hown
          clear hall hd hown
          go_wp2
          go_ret
          exact ⟨_, rfl, HW.out, hbw⟩

end Go.Proofs.Ytbbmngabbbehcaa
