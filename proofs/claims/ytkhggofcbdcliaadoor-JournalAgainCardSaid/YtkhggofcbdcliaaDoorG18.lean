/-
  The laws of frame: what stands in all of them; FrameSums, FrameCuts, walked.
  The laws FrameSeals and FrameOpens, walked.
  The law FrameTurned, walked.
  The law FrameBack, walked.
-/
import Derived.Test.YtkhggofcbdcliaaDoorG17
import Derived.Lib.SlBytesConst
import Derived.Test.YtkhggofcbdcliaaDoorG03
namespace Go.Proofs.YtkhggofcbdcliaaDoor
open Go.RowKit

theorem Fr.frm_nil : Fr.frm [] = [0, 0, 0, 0, 33, 68, 223, 28] := by decide +kernel
theorem Fr.sum_nine : Fr.sum [49, 50, 51, 52, 53, 54, 55, 56, 57] = 3421780262 := by decide +kernel

end Go.Proofs.YtkhggofcbdcliaaDoor
namespace Go.Proofs.YtkhggofcbdcliaaDoor
open Go.RowKit

theorem set_cells (bs : List Int) (i : Nat) (y : Int) : (bs.map (Value.int .u8)).set i (.int .u8 y) = (bs.set i y).map (Value.int .u8) := by rw [List.map_set]
theorem get_cells (bs : List Int) (i : Nat) (hi : i < bs.length) : (bs.map (Value.int .u8))[i]? = some (.int .u8 (bs.getD i 0)) := bCells_get bs i hi

end Go.Proofs.YtkhggofcbdcliaaDoor
namespace Go.Proofs.YtkhggofcbdcliaaDoor
open Go.RowKit

theorem xor_ne {a x : Nat} (h : x ≠ 0) : a ^^^ x ≠ a := by
  intro e
  apply h
  have h1 : a ^^^ (a ^^^ x) = a ^^^ a := by rw [e]
  rwa [← Nat.xor_assoc, Nat.xor_self, Nat.zero_xor] at h1

end Go.Proofs.YtkhggofcbdcliaaDoor
namespace Go.Proofs.YtkhggofcbdcliaaDoor
open Go.RowKit

namespace Fr
/-- The first frames, one behind the other. -/
def flat (ls : List (List Int)) (i : Nat) : List Int := ((ls.take i).map frm).flatten
theorem flat_succ {ls : List (List Int)} {i : Nat} (hi : i < ls.length) : flat ls (i + 1) = flat ls i ++ frm (ls.getD i []) := by
  unfold flat
  rw [List.take_succ_eq_append_getElem hi, List.getD_eq_getElem?_getD, List.getElem?_eq_getElem hi, List.map_append, List.flatten_append]
  simp
theorem flat_rest (ls : List (List Int)) (i : Nat) : flat ls ls.length = flat ls i ++ ((ls.drop i).map frm).flatten := by
  unfold flat
  rw [List.take_length]
  conv => lhs; rw [← List.take_append_drop i ls, List.map_append, List.flatten_append]
theorem flat_byte {ls : List (List Int)} {i : Nat} (h : ∀ l ∈ ls, ∀ x ∈ l, isB x) : ∀ x ∈ flat ls i, isB x := by
  intro x hx
  unfold flat at hx
  obtain ⟨f, hf, hx⟩ := List.mem_flatten.1 hx
  obtain ⟨p, hp, rfl⟩ := List.mem_map.1 hf
  exact seal_byte (h p (List.mem_of_mem_take hp)) x hx
/-- Where the frames end. -/
def ends (ls : List (List Int)) (i : Nat) : List Int := (List.range i).map fun j => ((flat ls (j + 1)).length : Int)
theorem ends_succ (ls : List (List Int)) (i : Nat) : ends ls (i + 1) = ends ls i ++ [((flat ls (i + 1)).length : Int)] := by
  unfold ends
  rw [List.range_succ, List.map_append]
  rfl
theorem ends_len (ls : List (List Int)) (i : Nat) : (ends ls i).length = i := by unfold ends; simp
theorem ends_cell (ls : List (List Int)) {i j : Nat} (h : j < i) : ((ends ls i).map (Value.int .i64))[j]? = some (.int .i64 ((flat ls (j + 1)).length : Int)) := by
  unfold ends
  simp [h]
theorem cut_all {ls : List (List Int)} (h : ∀ p ∈ ls, p.length ≤ 1048576) : it (flat ls ls.length) ls.length = ((flat ls ls.length).length, ls) ∧ Stop (flat ls ls.length) ls.length := by
  have h1 := it_frames ls.length ls (flat ls ls.length) (Nat.le_refl _) h (List.prefix_refl _)
  rw [List.take_length] at h1
  have h2 : (ls.map frm).flatten = flat ls ls.length := by unfold flat; rw [List.take_length]
  rw [h2] at h1
  refine ⟨h1, ?_⟩
  unfold Stop
  rw [h1]
  dsimp only
  rw [List.drop_length, opn_nil]
  decide
theorem cut_part {ls : List (List Int)} (h : ∀ p ∈ ls, p.length ≤ 1048576) {k a : Nat} (hk : k ≤ ls.length) (ha : (flat ls k).length ≤ a) (hn : k = ls.length ∨ a < (flat ls (k + 1)).length) :
    it ((flat ls ls.length).take a) k = ((flat ls k).length, ls.take k) ∧ Stop ((flat ls ls.length).take a) k := by
  have hr := flat_rest ls k
  have ht : (flat ls ls.length).take a = flat ls k ++ (((ls.drop k).map frm).flatten).take (a - (flat ls k).length) := by
    rw [hr, List.take_append, List.take_of_length_le ha]
  have h1 := it_frames k ls ((flat ls ls.length).take a) hk h ⟨_, ht.symm⟩
  refine ⟨h1, ?_⟩
  unfold Stop
  rw [h1]
  dsimp only
  have hd : ((flat ls ls.length).take a).drop ((List.map frm (List.take k ls)).flatten.length) = (((ls.drop k).map frm).flatten).take (a - (flat ls k).length) := by
    rw [ht]
    exact List.drop_left' rfl
  rw [hd]
  by_cases e : k = ls.length
  · rw [e, List.drop_length]
    simp only [List.map_nil, List.flatten_nil, List.take_nil]
    rw [opn_nil]
    decide
  · have hkl : k < ls.length := by omega
    have hs := flat_succ hkl
    have hlt : a < (flat ls (k + 1)).length := by
      rcases hn with h | h
      · exact absurd h e
      · exact h
    rw [hs, List.length_append, seal_len] at hlt
    have hdk : ls.drop k = ls.getD k [] :: ls.drop (k + 1) := by
      rw [List.drop_eq_getElem_cons hkl, List.getD_eq_getElem?_getD, List.getElem?_eq_getElem hkl]
      rfl
    have hm : ls.getD k [] ∈ ls := by rw [List.getD_eq_getElem?_getD, List.getElem?_eq_getElem hkl]; exact List.getElem_mem hkl
    rw [hdk, List.map_cons, List.flatten_cons, List.take_append_of_le_length (by rw [seal_len]; omega), opn_short _ (h _ hm) _ (by omega)]
    decide
theorem flat_le {ls : List (List Int)} : ∀ {i : Nat}, i ≤ ls.length → (∀ j, j < i → (ls.getD j []).length ≤ 4096) → (flat ls i).length ≤ i * 4104
  | 0, _, _ => by unfold flat; simp
  | i + 1, hi, h => by
    rw [flat_succ (by omega), List.length_append, seal_len]
    have := flat_le (i := i) (by omega) (fun j hj => h j (by omega))
    have := h i (by omega)
    omega
end Fr
theorem infoInt : (Tryd.prog.info? 3).map (fun i => (i.zero, i.size, i.bytes)) = some (some (.int .i64 0), 1, 8) := by kernel_rfl
theorem RowB.head {w : World} {A : Option Addr} {c : Nat} {ls : List (List Int)} (h : RowB w A c ls) (k : Nat) : RowB w A c (ls.take k) := by
  refine ⟨by rw [List.length_take]; have := h.le; omega, h.cap, fun e => ⟨by rw [List.length_take]; have := (h.noA e).1; omega, (h.noA e).2⟩, fun hne => ?_⟩
  obtain ⟨b, off, hA, hc⟩ := h.lies (fun e => hne (by rw [e]; simp))
  refine ⟨b, off, hA, fun j hj => ?_⟩
  rw [List.length_take] at hj
  obtain ⟨X, cx, h1, h2⟩ := hc j (by omega)
  have e : (ls.take k).getD j [] = ls.getD j [] := by rw [List.getD_eq_getElem?_getD, List.getD_eq_getElem?_getD, List.getElem?_take_of_lt (by omega)]
  rw [e]
  exact ⟨X, cx, h1, h2⟩
theorem RowB.byte {w : World} {A : Option Addr} {c : Nat} {ls : List (List Int)} (h : RowB w A c ls) : ∀ l ∈ ls, ∀ x ∈ l, isB x := by
  intro l hl x hx
  obtain ⟨k, hk, rfl⟩ := List.mem_iff_getElem.1 hl
  obtain ⟨b, off, hA, hc⟩ := h.lies (fun e => by subst e; simp at hk)
  obtain ⟨X, cx, h1, h2⟩ := hc k hk
  refine h2.byte x ?_
  rwa [List.getD_eq_getElem?_getD, List.getElem?_eq_getElem hk]
theorem rlists2_any (A B : Option Addr) (c1 c2 n m : Nat) (l r : List (List Int)) (w : World) (hn : l.length = n) (hm : r.length = m) (h1 : RowB w A c1 l) (h2 : RowB w B c2 r) : Calls Tryd.prog 21 #[.slice A n c1, .slice B m c2] w (Says (.bool (decide (l = r))) w) := by
  subst hn hm
  exact rlists_any A B c1 c2 l r w h1 h2
theorem dcut2_any (A : Option Addr) (c n : Nat) (l : List Int) (w : World) (hn : l.length = n) (hl : n ≤ 33554432) (h : OneB w A c l) (hH : Halves w) : Calls Tryd.prog 37 #[.slice A n c] w (CutB l w) := by
  subst hn
  exact dcut_any A c l w hl h hH

end Go.Proofs.YtkhggofcbdcliaaDoor
