/-
  What telltaleref05's Copy, Same and Bytes answer.
-/
import Derived.Test.YtmcaehdhfpeadaaProg
import Derived.Test.YtmcaehdhfpeadaaByPlain
import Derived.Tactics
import Derived.Tactics2
import Derived.WalkKit
import Derived.WalkSpells
import Derived.OwnWalk
import Derived.Deep.QuietTactic
import Derived.BigQuiet
import Derived.Deep.RegionHeld3
import Derived.KernelRfl
import Derived.Lib.Hide
import Derived.Laws.Rows
import Derived.Laws.Tables
import Derived.Laws.CopyOwn
import Derived.Laws.ResultCell
import Derived.Deep.DeepCutAuto
import Derived.RegionTactic
import Derived.BigRegion
namespace Go.Proofs.Ytmcaehdhfpeadaa
open Go.RowKit

theorem infoBy : (Try.prog.info? 5).map (fun i => (i.zero, i.size, i.bytes)) = some (some (.int .u8 0), 1, 1) := by kernel_rfl

/-- A list of bytes is answered, in memory of the call's own; what was there before is as it was. -/
def GivesB (l : List Int) (w : World) (e : Ending) (w' : World) : Prop :=
  ∃ v, e = .returned v ∧ w'.ownsRow w.heap.size 5 1 v l.length (bCells l) ∧ Below w.heap.size w w'

set_option maxHeartbeats 800000 in
theorem bcopy_any (A : Option Addr) (c1 : Nat) (l : List Int) (w : World) (hl : l.length ≤ 140737488355328) (h1 : OneB w A c1 l) :
    Calls Try.prog 18 #[.slice A l.length c1] w (GivesB l w) := by
  obtain ⟨i0, hi, hz0, hz1, hz2⟩ := info_parts infoBy
  have hown : (w.alloc (.cells #[] 5)).ownsRow w.heap.size 5 1 (.slice (some ⟨w.heap.size, 0, none⟩) 0 0) 0 [] :=
    ⟨rfl, .inr ⟨w.heap.size, 0, #[], rfl, Nat.le_refl _, heap_alloc_new w _, Nat.le_refl _, Nat.zero_le _, rfl, rfl⟩⟩
  have HA := Lib.hid h1.noA
  go_enter Try.func18, Try.ntmps18
  go_wp2_with (at_builtin; refine wpList_append_lies _ rfl _ _ 22 rfl w.heap.size 5 i0 (.int .u8 0) 1 1 Try.underlying22 hi hz0 hz1 hz2 rfl (by decide) _ 0 [] rfl hown A l.length c1 HA.out (bCells l) rfl (by rw [bCells_length, Nat.mul_one]) (h1.lies.alloc _) (bCells_one l) ?c3 ?c4 ?c5 ?_)
  case c3 => unfold maxLen; omega
  case c4 => omega
  case c5 => simp
  intro v' w1 hown1 hg1 _
  have hbw : Below w.heap.size w w1 := (below_new (Below.refl _ _) (.cells #[] 5)).grown hg1 (by simp) (by intro k hk; simp [Value.ownBlock] at hk; omega)
  try simp only [Nat.zero_add, List.nil_append] at hown1
  have HO := Lib.hid hown1
  clear hown hown1 hg1
  go_wp2
  go_ret
  exact ⟨_, rfl, HO.out, hbw⟩

set_option maxHeartbeats 800000 in
theorem bsame_any (A B : Option Addr) (c1 c2 : Nat) (l r : List Int) (w : World) (h1 : OneB w A c1 l) (h2 : OneB w B c2 r) :
    Calls Try.prog 15 #[.slice A l.length c1, .slice B r.length c2] w fun e w' => e = .returned (.bool (decide (l = r))) ∧ Below w.heap.size w w' := by
  have k1 := h1.text (P := Try.prog) Try.underlying22 Try.underlying5 Try.underlying9
  have k2 := h2.text (P := Try.prog) Try.underlying22 Try.underlying5 Try.underlying9
  have ke := str_eq h1.byte h2.byte
  obtain ⟨q, hq⟩ : ∃ q, decide (l = r) = q := ⟨_, rfl⟩
  rw [hq] at ke ⊢
  obtain ⟨s, hs⟩ : ∃ s, strOfNums l = s := ⟨_, rfl⟩
  obtain ⟨t, ht⟩ : ∃ t, strOfNums r = t := ⟨_, rfl⟩
  rw [hs] at k1 ke
  rw [ht] at k2 ke
  clear h1 h2 hq hs ht
  go_enter Try.func15, Try.ntmps15
  go_wp2
  go_ret
  exact ⟨by first | rfl | (rw [← ke]; rfl), Below.refl _ _⟩

set_option maxRecDepth 100000 in
set_option maxHeartbeats 1600000 in
theorem bytes_any (n : Nat) (w : World) (hn : n ≤ 9223372036854775807) : Calls Try.prog 14 #[.int .i64 (n : Int)] w (GivesB (Pk.bytesOf n) w) := by
  obtain ⟨i0, hi, hz0, hz1, hz2⟩ := info_parts infoBy
  have hpw : n < 128 ^ (9 + 1) := Nat.lt_of_le_of_lt hn (by decide)
  go_enter Try.func14, Try.ntmps14
  go_wp2_with fail
  go_loopw [0, 3] (fun s0 s3 wr => ∃ (f m : Nat) (pre : List Int), s0 = .int .i64 (m : Int) ∧ wr.ownsRow w.heap.size 5 1 s3 pre.length (bCells pre) ∧ pre ++ Pk.nb f m = Pk.bytesOf n ∧ m < 128 ^ (f + 1) ∧ m ≤ n ∧ pre.length + f = 9 ∧ Below w.heap.size w wr) (fun s0 _ _ => (intOf s0).toNat)
  case atStart => exact ⟨9, n, [], rfl, ⟨rfl, .inl ⟨rfl, rfl⟩⟩, rfl, hpw, Nat.le_refl _, rfl, Below.refl _ _⟩
  case round =>
    obtain ⟨f, m, pre, rfl, hown, hpre, hm, hmn, hf, hbw⟩ := hrel
    by_cases hge : 128 ≤ m
    · have hd : decide ((128 : Int) ≤ (m : Int)) = true := decide_eq_true (by omega)
      obtain ⟨f', rfl⟩ : ∃ f', f = f' + 1 := by
        cases f with
        | zero => simp at hm; omega
        | succ f' => exact ⟨f', rfl⟩
      have hnx : (pre ++ [(m : Int) % 128 + 128]) ++ Pk.nb f' (m / 128) = Pk.bytesOf n := by
        rw [← hpre, List.append_assoc]
        congr 1
        rw [Pk.nb, if_neg (by omega)]
        show ((m : Int) % 128 + 128) :: Pk.nb f' (m / 128) = _
        congr 1
      have hdv : m / 128 < 128 ^ (f' + 1) := by
        rw [Nat.div_lt_iff_lt_mul (by omega)]
        rw [Nat.pow_succ] at hm
        exact hm
      have hlt : m / 128 < m := by omega
      have hsz := hbw.size
      have HNX := Lib.hid hnx
      have HDV := Lib.hid hdv
      clear hnx hdv hpre hm
      go_wp2_with (at_builtin; refine wpList_append_lies _ rfl _ _ 22 rfl w.heap.size 5 i0 (.int .u8 0) 1 1 Try.underlying22 hi hz0 hz1 hz2 rfl (by decide) _ pre.length (bCells pre) rfl (hown.alloc _) (some ⟨wr.heap.size, 0, none⟩) 1 1 (fun h => by cases h) (bCells [(m : Int) % 128 + 128]) rfl rfl ?c1 (bCells_one _) ?c3 ?c4 ?c5 ?_)
      case c1 =>
        intro _
        refine ⟨wr.heap.size, 0, rfl, fun j u hu => ?_⟩
        rw [Nat.zero_add]
        exact (Blk.new wr 5 #[.int .u8 ((m : Int) % 128 + 128)]).cell (by simpa [bCells] using hu)
      case c3 => unfold maxLen; omega
      case c4 => omega
      case c5 => simp; omega
      intro v' w1 hown1 hg1 _
      have hb1 : Below w.heap.size w w1 := (below_new hbw _).grown hg1 (by simp; omega) (fun k' hk' => by have := own_ge hown _ hk'; omega)
      rw [← bCells_append, show pre.length + 1 = (pre ++ [(m : Int) % 128 + 128]).length from by simp] at hown1
      have HO := Lib.hid hown1
      clear hown1 hown hg1
      go_wp2_with fail
      go_roundw
      case rel => exact ⟨f', m / 128, pre ++ [(m : Int) % 128 + 128], by first | rfl | simp, HO.out, HNX.out, HDV.out, by omega, by simp; omega, hb1⟩
      case measure => simp [intOf]; omega
    · have hd : decide ((128 : Int) ≤ (m : Int)) = false := decide_eq_false (by omega)
      have hone : Pk.nb f m = [(m : Int)] := by
        cases f with
        | zero => rfl
        | succ f' => rw [Pk.nb, if_pos (by omega)]
      have hfin : pre ++ [(m : Int)] = Pk.bytesOf n := by rw [← hpre, hone]
      have hsz := hbw.size
      have HFIN := Lib.hid hfin
      clear hone hfin hpre hm
      go_wp2_with (at_builtin; refine wpList_append_lies _ rfl _ _ 22 rfl w.heap.size 5 i0 (.int .u8 0) 1 1 Try.underlying22 hi hz0 hz1 hz2 rfl (by decide) _ pre.length (bCells pre) rfl (hown.alloc _) (some ⟨wr.heap.size, 0, none⟩) 1 1 (fun h => by cases h) (bCells [(m : Int)]) rfl rfl ?c1 (bCells_one _) ?c3 ?c4 ?c5 ?_)
      case c1 =>
        intro _
        refine ⟨wr.heap.size, 0, rfl, fun j u hu => ?_⟩
        rw [Nat.zero_add]
        exact (Blk.new wr 5 #[.int .u8 ((m : Int))]).cell (by simpa [bCells] using hu)
      case c3 => unfold maxLen; omega
      case c4 => omega
      case c5 => simp; omega
      intro v' w1 hown1 hg1 _
      have hb1 : Below w.heap.size w w1 := (below_new hbw _).grown hg1 (by simp; omega) (fun k' hk' => by have := own_ge hown _ hk'; omega)
      rw [← bCells_append, show pre.length + 1 = (pre ++ [(m : Int)]).length from by simp] at hown1
      have HO := Lib.hid hown1
      clear hown1 hown hg1
      go_wp2
      go_ret
      exact ⟨_, rfl, by rw [← HFIN.out]; exact HO.out, hb1⟩

namespace Pk
theorem val_nat : ∀ l : List Int, (∀ x ∈ l, isB x) → ∃ v : Nat, val l = (v : Int) ∧ v < 128 ^ l.length
  | [], _ => ⟨0, rfl, by simp⟩
  | b :: r, h => by
    obtain ⟨v, h1, h2⟩ := val_nat r (fun x hx => h x (List.mem_cons_of_mem _ hx))
    refine ⟨v * 128 + (b % 128).toNat, ?_, ?_⟩
    · show val r * 128 + b % 128 = _
      rw [h1]
      have : 0 ≤ b % 128 := Int.emod_nonneg _ (by omega)
      omega
    · rw [List.length_cons, Nat.pow_succ]
      have h3 : b % 128 < 128 := Int.emod_lt_of_pos _ (by omega)
      have h4 : 0 ≤ b % 128 := Int.emod_nonneg _ (by omega)
      omega
/-- The bytes up to place i, from place j on: the one at place j is put ahead. -/
theorem val_step (l : List Int) (i j : Nat) (hi : i < l.length) (hj : j < i + 1) : val ((l.take (i + 1)).drop j) = val ((l.take (i + 1)).drop (j + 1)) * 128 + l.getD j 0 % 128 := by
  have hlen : j < (l.take (i + 1)).length := by rw [List.length_take]; omega
  rw [List.drop_eq_getElem_cons hlen]
  show val ((l.take (i + 1)).drop (j + 1)) * 128 + (l.take (i + 1))[j] % 128 = _
  rw [List.getElem_take, List.getD_eq_getElem?_getD, List.getElem?_eq_getElem (by omega)]
  rfl
theorem val_bd (l : List Int) (i j : Nat) (h : ∀ x ∈ l, isB x) (hi : i ≤ 8) (hj : 1 ≤ j) : 0 ≤ val ((l.take (i + 1)).drop j) ∧ val ((l.take (i + 1)).drop j) < 72057594037927936 := by
  obtain ⟨v, h1, h2⟩ := val_nat ((l.take (i + 1)).drop j) (fun x hx => h x (List.mem_of_mem_take (List.mem_of_mem_drop hx)))
  have h3 : ((l.take (i + 1)).drop j).length ≤ 8 := by rw [List.length_drop, List.length_take]; omega
  have h4 : 128 ^ ((l.take (i + 1)).drop j).length ≤ 128 ^ 8 := Nat.pow_le_pow_right (by omega) h3
  have h5 : (128 : Nat) ^ 8 = 72057594037927936 := by decide
  rw [h1]
  omega
theorem num_nine {l : List Int} (h : lead 9 l = 9) : num l = (0, 0, 4) := by unfold num; rw [if_pos h]
theorem num_short {l : List Int} (h : lead 9 l = l.length) (h9 : l.length < 9) : num l = (0, 0, 5) := by unfold num; rw [if_neg (by omega), if_pos h]
theorem num_zero {l : List Int} (h9 : lead 9 l < 9) (hl : lead 9 l < l.length) (h0 : l.getD (lead 9 l) 0 = 0) (hp : 0 < lead 9 l) : num l = (0, 0, 4) := by unfold num; rw [if_neg (by omega), if_neg (by omega), if_pos ⟨h0, hp⟩]
theorem num_yes {l : List Int} (h9 : lead 9 l < 9) (hl : lead 9 l < l.length) (h : ¬ (l.getD (lead 9 l) 0 = 0 ∧ 0 < lead 9 l)) : num l = (val (l.take (lead 9 l + 1)), (lead 9 l : Int) + 1, 0) := by unfold num; rw [if_neg (by omega), if_neg (by omega), if_neg h]
def numV (r : Int × Int × Int) : Value := .tuple #[.int .i64 r.1, .int .i64 r.2.1, .int .i64 r.2.2]
end Pk

set_option maxRecDepth 100000 in
set_option maxHeartbeats 1600000 in
theorem bnum_any (A : Option Addr) (c1 : Nat) (l : List Int) (w : World) (h1 : OneB w A c1 l) :
    Calls Try.prog 17 #[.slice A l.length c1] w fun e w' => e = .returned (Pk.numV (Pk.num l)) ∧ Below w.heap.size w w' := by
  have HB := Lib.hid h1
  have hbyte := Lib.hid h1.byte
  have hl := h1.len
  clear h1
  go_enter Try.func17, Try.ntmps17
  go_wp2_with fail
  go_loopw [5] (fun s5 wr => ∃ i : Nat, i ≤ 9 ∧ i ≤ l.length ∧ s5 = .int .i64 (i : Int) ∧ (∀ j, j < i → 128 ≤ l.getD j 0) ∧ Below w.heap.size w wr) (fun s5 _ => 9 - (intOf s5).toNat)
  case atStart => exact ⟨0, by omega, by omega, rfl, fun j hj => by omega, Below.refl _ _⟩
  case round =>
    obtain ⟨i, hi9, hil, rfl, hhi, hbw⟩ := hrel
    have hlead := Pk.lead_at 9 l i hi9 hil hhi
    have hll := Pk.lead_le 9 l
    by_cases h9 : i < 9
    · by_cases hlen : i = l.length
      · have HN := Lib.hid (Pk.num_short (l := l) (by omega) (by omega))
        have hd : ((i : Int) == (l.length : Int)) = true := by rw [beq_iff_eq]; omega
        clear hhi hlead
        go_wp2
        go_ret3
        exact ⟨by rw [HN.out]; rfl, hbw⟩
      · have hlt : i < l.length := by omega
        have hd : ((i : Int) == (l.length : Int)) = false := by rw [beq_eq_false_iff_ne]; omega
        have hne : l ≠ [] := fun e => by subst e; simp at hlt
        obtain ⟨b, off, hA, hc⟩ := (HB.out.later hbw).at hne
        have HB' := HB
        subst hA
        have e0 := hc i hlt
        have hi0 : (0 : Int) ≤ (i : Int) := by omega
        have hi1 : (i : Int) < (l.length : Int) := by omega
        have hxb : isB (l.getD i 0) := hbyte.out _ (by rw [List.getD_eq_getElem?_getD, List.getElem?_eq_getElem hlt]; exact List.getElem_mem hlt)
        have hnx : 128 ≤ l.getD i 0 → ∀ j, j < i + 1 → 128 ≤ l.getD j 0 := fun h j hj => by
          by_cases e : j = i
          · rw [e]; exact h
          · exact hhi j (by omega)
        have hat : l.getD i 0 < 128 → Pk.lead 9 l = i := fun h => by
          rcases Nat.lt_or_ge i (Pk.lead 9 l) with h2 | h2
          · have := Pk.lead_high 9 l i h2
            omega
          · omega
        obtain ⟨x, hx⟩ : ∃ x, l.getD i 0 = x := ⟨_, rfl⟩
        have HX := Lib.hid hx
        rw [hx] at e0 hxb hnx hat
        unfold isB at hxb
        have HNX := Lib.hid hnx
        have HAT := Lib.hid hat
        have HC := Lib.hid hc
        clear hnx hat hhi hc hx
        by_cases hx : 128 ≤ x
        · have hd2 : decide (128 ≤ x) = true := decide_eq_true hx
          have HQ := Lib.hid (HNX.out hx)
          go_wp2_with fail
          go_roundw
          case rel => exact ⟨i + 1, by omega, by omega, by go_num, HQ.out, hbw⟩
          case measure => simp [intOf]; omega
        · have hd2 : decide (128 ≤ x) = false := decide_eq_false hx
          have hld := HAT.out (by omega)
          by_cases hz : x = 0 ∧ 0 < i
          · obtain ⟨rfl, hip⟩ := hz
            have HN := Lib.hid (Pk.num_zero (l := l) (by omega) (by omega) (by rw [hld]; exact HX.out) (by omega))
            have hd3 : decide ((0 : Int) < (i : Int)) = true := decide_eq_true (by omega)
            clear hlead hld
            go_wp2
            go_ret3
            exact ⟨by rw [HN.out]; rfl, hbw⟩
          · have hnum := Pk.num_yes (l := l) (by omega) (by omega) (by rw [hld, HX.out]; exact hz)
            rw [hld] at hnum
            have HN := Lib.hid hnum
            clear hlead hnum
            have go : ((x == 0) = false ∧ x ≠ 0) ∨ (x = 0 ∧ ¬ 0 < i) := by
              by_cases h0 : x = 0
              · exact .inr ⟨h0, by omega⟩
              · exact .inl ⟨beq_eq_false_iff_ne.2 h0, h0⟩
            clear hz hld
            rcases go with ⟨hg, hg2⟩ | ⟨rfl, hg2⟩
            all_goals
              go_wp2_with fail
              go_loopw [6, 7] (fun s6 s7 wr => ∃ j : Nat, j ≤ i + 1 ∧ s7 = .int .i64 ((j : Int) - 1) ∧ s6 = .int .i64 (Pk.val ((l.take (i + 1)).drop j)) ∧ Below w.heap.size w wr) (fun _ s7 _ => (intOf s7 + 1).toNat)
              case atStart =>
                refine ⟨i + 1, Nat.le_refl _, by first | rfl | (congr 1; omega), ?_, hbw⟩
                rw [List.drop_eq_nil_of_le (by rw [List.length_take]; omega)]
                rfl
              case round =>
                obtain ⟨j, hj, rfl, rfl, hbq⟩ := hrel
                by_cases hj0 : 0 < j
                · obtain ⟨k, rfl⟩ : ∃ k, j = k + 1 := ⟨j - 1, by omega⟩
                  have hkj : ((k + 1 : Nat) : Int) - 1 = (k : Int) := by omega
                  have hst := Pk.val_step l i k hlt (by omega)
                  have hvb := Pk.val_bd l i (k + 1) hbyte.out (by omega) (by omega)
                  have f0 := (HB.out.later hbq).at hne
                  obtain ⟨b', off', hA', hc'⟩ := f0
                  injection hA' with hA'
                  injection hA' with hA1 hA2
                  subst hA1 hA2
                  have e1 := hc' k (by omega)
                  have hk0 : (0 : Int) ≤ (k : Int) := by omega
                  have hk1 : (k : Int) < (l.length : Int) := by omega
                  have hyb : isB (l.getD k 0) := hbyte.out _ (by rw [List.getD_eq_getElem?_getD, List.getElem?_eq_getElem (by omega)]; exact List.getElem_mem (by omega))
                  obtain ⟨y, hy⟩ : ∃ y, l.getD k 0 = y := ⟨_, rfl⟩
                  rw [hy] at e1 hst hyb
                  unfold isB at hyb
                  obtain ⟨v, hv⟩ : ∃ v, Pk.val ((l.take (i + 1)).drop (k + 1)) = v := ⟨_, rfl⟩
                  rw [hv] at hst hvb ⊢
                  rw [hkj]
                  have hm := Int.emod_nonneg y (show (128 : Int) ≠ 0 by omega)
                  have hm2 := Int.emod_lt_of_pos y (show (0 : Int) < 128 by omega)
                  have HST := Lib.hid hst
                  clear hst hc' hv hy e0 HC
                  go_wp2_with fail
                  go_roundw
                  case rel => exact ⟨k, by omega, by first | rfl | (congr 1; done) | (congr 1; omega), by first | rfl | rw [HST.out], hbq⟩
                  case measure => simp [intOf]
                · obtain rfl : j = 0 := by omega
                  have hz0 : ((0 : Nat) : Int) - 1 = -1 := by omega
                  rw [hz0]
                  clear e0 HC
                  go_wp2
                  go_ret3
                  exact ⟨by rw [HN.out]; rfl, hbq⟩
    · have HN := Lib.hid (Pk.num_nine (l := l) (by omega))
      clear hhi hlead
      go_wp2
      go_ret3
      exact ⟨by rw [HN.out]; rfl, hbw⟩

end Go.Proofs.Ytmcaehdhfpeadaa
