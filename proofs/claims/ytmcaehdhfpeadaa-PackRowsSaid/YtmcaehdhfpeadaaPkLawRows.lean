/-
  The law PackRows, walked from what is asked of pack's functions.
-/
import Derived.Test.YtmcaehdhfpeadaaPkLawOne
import Derived.Test.YtmcaehdhfpeadaaByRowRow
namespace Go.Proofs.Ytmcaehdhfpeadaa
open Go.RowKit

theorem Pk.row_byte (l : List Int) (most : Int) (hl : ∀ x ∈ l, isB x) : ∀ x ∈ (Pk.row l most).1, isB x := by
  rcases Pk.row_ways l most hl with ⟨e, _, h⟩ | ⟨q, j, h, _, _, hq, _⟩
  · rw [h]
    intro x hx
    cases hx
  · rw [h]
    exact hq

set_option maxHeartbeats 3200000 in
set_option maxRecDepth 100000 in
theorem lawPRows_any (SP : PackSpec) (A : Option Addr) (c : Nat) (l : List Int) (most : Int) (w : World) (hl : l.length ≤ 140737488355328) (h : OneB w A c l) :
    Calls Try.prog 5 #[.slice A l.length c, .int .i64 most] w (Says (.bool true) w) := by
  have N0 := Lib.hid (fun wx => palive_any SP wx)
  have NC := Lib.hid (fun wx (hx : OneB wx A c l) => bcopy_any A c l wx hl hx)
  have nr := fun D d wx (hx : OneB wx D d l) => SP.row D d l most wx hl hx
  have nf := fun wx (hx : OneB wx A c l) => brow_any A c l most wx hl hx
  have hqb := Pk.row_byte l most h.byte
  obtain ⟨⟨q, k, e0⟩, hr⟩ : ∃ r, Pk.row l most = r := ⟨_, rfl⟩
  rw [hr] at hqb
  simp only [hr] at nr nf
  have NR := Lib.hid nr
  have NF := Lib.hid nf
  have HQ := Lib.hid hqb
  have H := Lib.hid h
  clear nr nf hr h hqb
  go_enter Try.func5, Try.ntmps5
  go_wp2_with fail
  refine (N0.out _).mono ?_
  rintro e w1 ⟨rfl, b1⟩
  go_wp2_with fail
  refine (NC.out _ (H.out.later b1)).mono ?_
  rintro e w2 hg
  obtain ⟨D, d, rfl, hD, b2⟩ := hg.one H.out.byte
  have bb2 := below_on b1 b2
  clear hg
  go_wp2_with fail
  refine (NR.out D d _ hD).mono ?_
  rintro e w3 ⟨v, rfl, hX, b3⟩
  have bb3 := below_on bb2 b3
  obtain ⟨X, dx, rfl, hX1⟩ := OneB.of_own hX HQ.out
  go_wp2_with fail
  refine (NF.out _ (H.out.later bb3)).mono ?_
  rintro e w4 ⟨Y, dy, rfl, hY, b4⟩
  have bb4 := below_on bb3 b4
  have NS := Lib.hid (bsame_any X Y dx dy q q w4 (hX1.later b4) hY)
  rw [decide_eq_true rfl] at NS
  have HD := Lib.hid hD
  have b34 := below_on b3 b4
  have HX := Lib.hid (own_later hX b4)
  have hqn := hX1.len
  clear hY hD hX hX1
  go_wp2_with fail
  refine NS.out.mono ?_
  rintro e w5 ⟨rfl, b5⟩
  have bb5 := below_on bb4 b5
  have bs5 := below_on b34 b5
  have HX5 := Lib.hid (own_later HX.out b5)
  clear HX NS
  go_wp2_with fail
  go_loopw [13] (fun s13 wr => ∃ (i : Nat) (xs : List Int), s13 = .int .i64 (i : Int) ∧ i ≤ q.length ∧ wr.ownsRow w2.heap.size 5 1 (.slice X q.length dx) q.length (bCells xs) ∧ Below w2.heap.size w2 wr) (fun s13 _ => q.length - (intOf s13).toNat)
  case atStart => exact ⟨0, q, rfl, by omega, HX5.out, bs5⟩
  case round =>
    obtain ⟨i, xs, rfl, hi, hown, hbw⟩ := hrel
    by_cases hin : i < q.length
    · have hd : decide ((i : Int) < (q.length : Int)) = true := decide_eq_true (by omega)
      obtain ⟨g, cap, hv⟩ := own_len hown (by omega)
      injection hv with hv1 _ hv2
      subst hv1
      subst hv2
      have hxl : xs.length = q.length := by
        have := hown.1
        rw [bCells_length] at this
        omega
      have c0 := own_cell_at hown (bCells_get xs i (by omega))
      have f0 := own_free_at hown i
      obtain ⟨y, hy⟩ : ∃ y, xs.getD i 0 = y := ⟨_, rfl⟩
      rw [hy] at c0
      have hgb := (own_base_le hown).1
      have hpt := own_put hown i (.int .u8 (bits BinOp.xor IntKind.u8 y 255))
      have hbp := hbw.setCell (p := ⟨g, i, none⟩) hgb (.int .u8 (bits BinOp.xor IntKind.u8 y 255))
      have hset : (bCells xs).set i (.int .u8 (bits BinOp.xor IntKind.u8 y 255)) = bCells (xs.set i (bits BinOp.xor IntKind.u8 y 255)) := by
        unfold bCells
        rw [List.map_set]
      rw [hset] at hpt
      have HPT := Lib.hid hpt
      have HBP := Lib.hid hbp
      clear hpt hbp hset hown HX5
      go_wp2_with fail
      go_roundw
      case rel => exact ⟨i + 1, _, by first | rfl | (congr 1; omega), by omega, HPT.out, HBP.out⟩
      case measure => simp [intOf]; omega
    · obtain rfl : i = q.length := by omega
      have hd : decide ((q.length : Int) < (q.length : Int)) = false := decide_eq_false (by omega)
      have bw := below_on bb2 hbw
      have NS2 := Lib.hid (bsame_any D A d c l l wr (HD.out.later hbw) (H.out.later bw))
      rw [decide_eq_true rfl] at NS2
      clear hown HX5
      go_wp2_with fail
      refine NS2.out.mono ?_
      rintro e w6 ⟨rfl, b6⟩
      go_wp2
      go_ret
      exact ⟨by first | rfl | simp, below_on bw b6⟩

end Go.Proofs.Ytmcaehdhfpeadaa
