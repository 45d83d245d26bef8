/-
  What telltaleref01's Digits and Show, and stamp.Show, answer: the text of a right stamp, or the error; each leaves the memory that was there as it was.
-/
import Derived.Test.YtebnmbckkelkpaaDoorStampRight
import Derived.Test.YtebnmbckkelkpaaDoorNumPlain
import Derived.Test.YtebnmbckkelkpaaDoorShelf
import Derived.WalkKit
import Derived.WalkSpells
import Derived.WalkLawsBesides
import Derived.Lib.ItoaMem
import Derived.Lib.AppendIntMem
namespace Go.Proofs.YtebnmbckkelkpaaDoor
open Go.RowKit

/-- The digit of a number below ten. -/
def dgc (k : Nat) : UInt8 := UInt8.ofNat (48 + k)
theorem cat_cons (x : UInt8) (l : List UInt8) : ((⟨#[x]⟩ : ByteArray) ++ ⟨l.toArray⟩) = ⟨(x :: l).toArray⟩ := by
  rw [show (#[x] : Array UInt8) = [x].toArray from rfl, ByteArray.mk_append_mk]; simp
def pre (m : Nat) : List UInt8 := if m < 10 then [] else Lib.decDigits (m / 10)
theorem pre_step {m : Nat} (h : 10 ≤ m) : pre m = pre (m / 10) ++ [dgc (m / 10 % 10)] := by
  unfold pre
  rw [if_neg (by omega), Lib.decDigits]
  by_cases h2 : m / 10 < 10
  · rw [dif_pos h2, if_pos h2]; unfold dgc; rw [show m / 10 % 10 = m / 10 from by omega]; rfl
  · rw [dif_neg h2, if_neg h2]; rfl
theorem pre_start (u : Nat) : Lib.decDigits u = pre u ++ [dgc (u % 10)] := by
  unfold pre
  rw [Lib.decDigits]
  by_cases h2 : u < 10
  · rw [dif_pos h2, if_pos h2]; unfold dgc; rw [show u % 10 = u from by omega]; rfl
  · rw [dif_neg h2, if_neg h2]; rfl

/-- A slice of one byte, just made, as a string. -/
theorem conv_one (W : World) (k : Nat) (m : Int) (hm : m = (k : Int)) (hk : k < 10) :
    (convert 42 9 (.slice (some ⟨W.heap.size, 0, none⟩) 1 1)).run Tryd.prog (W.alloc (.cells #[.int .u8 (48 + m)] 5)) = .ok (.string ⟨#[dgc k]⟩) (W.alloc (.cells #[.int .u8 (48 + m)] 5)) := by
  subst hm
  have h := run_convert_bytes_back (P := Tryd.prog) (W.alloc (.cells #[.int .u8 (48 + (k : Int))] 5)) 42 9 5 ⟨W.heap.size, 0, none⟩ 1 [dgc k] Tryd.underlying42 Tryd.underlying5 Tryd.underlying9 (fun j hj => by
    have hj0 : j = 0 := by simpa using hj
    subst hj0
    have h2 := (Num.dig_of48 k hk).2
    have hc := (Blk.new W 5 #[.int .u8 (48 + (k : Int))]).cell (i := 0) rfl
    rw [Go.WideShapes.add_plain]
    have h3 : (dgc k).toNat = 48 + k := h2
    simp only [List.getElem_cons_zero, h3]
    rw [Nat.zero_add, hc]
    simp)
  exact h

theorem digits_any (u : Nat) (hu : (u : Int) ≤ 9223372036854775807) (w : World) :
    Calls Tryd.prog 13 #[.int .i64 u] w fun e w' => e = .returned (.string ⟨(Lib.decDigits u).toArray⟩) ∧ Below w.heap.size w w' := by
  have hcv := conv_one w (u % 10) ((u : Int) % 10) (by omega) (by omega)
  go_enter Tryd.func13, Tryd.ntmps13
  go_wp2_with fail
  clear hcv
  go_loopw [0, 3] (fun s0 s3 wr => ∃ (m : Nat) (l : List UInt8), s0 = .int .i64 m ∧ s3 = .string ⟨l.toArray⟩ ∧ m ≤ u ∧ l.length + m ≤ u + 1 ∧ Lib.decDigits u = pre m ++ l ∧ Below w.heap.size w wr) (fun s0 _ _ => (intOf s0).toNat)
  case atStart => exact ⟨u, _, rfl, rfl, Nat.le_refl _, by simp; omega, pre_start u, below_new (Below.refl _ _) _⟩
  case round =>
    obtain ⟨m, l, rfl, rfl, hmu, hlen, hpre, hbw⟩ := hrel
    by_cases hm : 10 ≤ m
    · have hcv := conv_one wr (m / 10 % 10) ((m : Int) / 10 % 10) (by omega) (by omega)
      have hst := pre_step hm
      have HS := Lib.hid hst
      have HP := Lib.hid hpre
      clear hst hpre
      go_wp2_with fail
      go_roundw
      case rel =>
        refine ⟨m / 10, dgc (m / 10 % 10) :: l, by go_num, by rw [cat_cons], by omega, by simp; omega, ?_, below_new hbw _⟩
        rw [HP.out, HS.out]; simp
      case measure => simp [intOf]; omega
    · have hpm : pre m = [] := by unfold pre; rw [if_pos (by omega)]
      rw [hpm, List.nil_append] at hpre
      have HP := Lib.hid hpre
      clear hpre hpm
      go_wp2
      go_ret
      exact ⟨by rw [HP.out]; rfl, hbw⟩

theorem digits_int (c : Int) (h0 : 0 ≤ c) (h1 : c ≤ 9223372036854775807) (w : World) :
    Calls Tryd.prog 13 #[.int .i64 c] w fun e w' => e = .returned (.string ⟨(Lib.decDigits c.toNat).toArray⟩) ∧ Below w.heap.size w w' := by
  have h := digits_any c.toNat (by omega) w
  rw [Int.toNat_of_nonneg h0] at h
  exact h

/-- The text of a stamp. -/
def showB (c n : Int) : List UInt8 := Lib.decDigits c.toNat ++ 64 :: Lib.decDigits n.toNat
theorem cat_show (a b : List UInt8) : ((⟨a.toArray⟩ : ByteArray) ++ ⟨#[64]⟩ ++ ⟨b.toArray⟩) = ⟨(a ++ 64 :: b).toArray⟩ := by
  rw [show (#[64] : Array UInt8) = [64].toArray from rfl, ByteArray.mk_append_mk, ByteArray.mk_append_mk]; simp
theorem digits_le (c : Int) (h1 : c ≤ 9223372036854775807) : (Lib.decDigits c.toNat).length ≤ 19 := Num.digits_len 18 c.toNat (by omega)

/-- What Show answers. -/
def ShowPost (c n : Int) (w : World) (e : Ending) (w' : World) : Prop :=
  (St.rgt c n = true → e = .returned (.tuple #[.string ⟨(showB c n).toArray⟩, .int .i64 0])) ∧ (St.rgt c n = false → e = .returned (.tuple #[.string ⟨#[]⟩, .int .i64 1])) ∧ Below w.heap.size w w'
theorem rgt_iff (c n : Int) : St.rgt c n = true ↔ 1 ≤ c ∧ 0 ≤ n ∧ n ≤ 63 := by unfold St.rgt; exact decide_eq_true_iff

theorem rshow_yes (c n : Int) (w : World) (h : St.rgt c n = true) (hc : c ≤ 9223372036854775807) :
    Calls Tryd.prog 7 #[.agg #[.int .i64 c, .int .i64 n]] w fun e w' => e = .returned (.tuple #[.string ⟨(showB c n).toArray⟩, .int .i64 0]) ∧ Below w.heap.size w w' := by
  obtain ⟨h1, h2, h3⟩ := (rgt_iff c n).1 h
  have l1 := digits_le c hc
  have l2 := digits_le n (by omega)
  have s1 : ¬ 9223372036854775807 < (Lib.decDigits c.toNat).length + 1 := by omega
  have s2 : ¬ 9223372036854775807 < (Lib.decDigits c.toNat).length + 1 + (Lib.decDigits n.toNat).length := by omega
  go_enter Tryd.func7, Tryd.ntmps7
  go_wp2_with fail
  refine (rright_any _ _ _).mono ?_
  rintro e w1 ⟨rfl, hb1⟩
  rw [h]
  have k0 : w1.cell? ⟨w.heap.size, 0, none⟩ = some (.int .i64 c) := cell_later hb1 (by go_simp)
  have k1 : w1.cell? ⟨w.heap.size, 1, none⟩ = some (.int .i64 n) := cell_later hb1 (by go_simp)
  have hbx := below_on (below_new (Below.refl w.heap.size w) _) hb1
  clear h
  go_wp2_with fail
  go_region_held3 (fun w' => w'.cell? ⟨w.heap.size, 0, none⟩ = some (.int .i64 c) ∧ w'.cell? ⟨w.heap.size, 1, none⟩ = some (.int .i64 n) ∧ Below w.heap.size w w')
    (first
      | exact ⟨k0, k1, hbx.drew⟩
      | (go_split_ands
         exact ⟨cell_later hb (by assumption), cell_later hb (by assumption), below_on (by assumption) hb⟩))
    (first
      | (go_at_call 13; refine (digits_int _ (by omega) (by omega) _).mono ?_; rintro e w' ⟨rfl, hb⟩))
  all_goals go_wp2
  all_goals go_ret2
  all_goals (go_split_ands; exact ⟨by rw [cat_show]; rfl, by assumption⟩)

theorem rshow_no (c n : Int) (w : World) (h : St.rgt c n = false) :
    Calls Tryd.prog 7 #[.agg #[.int .i64 c, .int .i64 n]] w fun e w' => e = .returned (.tuple #[.string ⟨#[]⟩, .int .i64 1]) ∧ Below w.heap.size w w' := by
  go_enter Tryd.func7, Tryd.ntmps7
  go_wp2_with fail
  refine (rright_any _ _ _).mono ?_
  rintro e w1 ⟨rfl, hb1⟩
  rw [h]
  have hbx := below_on (below_new (Below.refl w.heap.size w) _) hb1
  clear h
  go_wp2
  go_ret2
  exact ⟨rfl, hbx⟩

theorem show_no (c n : Int) (w : World) (h : St.rgt c n = false) :
    Calls Tryd.prog 6 #[.agg #[.int .i64 c, .int .i64 n]] w fun e w' => e = .returned (.tuple #[.string ⟨#[]⟩, .int .i64 1]) ∧ Below w.heap.size w w' := by
  go_enter Tryd.func6, Tryd.ntmps6
  go_wp2_with fail
  refine (right_any _ _ _).mono ?_
  rintro e w1 ⟨rfl, hb1⟩
  rw [h]
  have hbx := below_on (below_new (Below.refl w.heap.size w) _) hb1
  clear h
  go_wp2
  go_ret2
  exact ⟨rfl, hbx⟩

/-- The library's table of the powers of ten reads as its initialiser lays it. -/
def Tens (w : World) : Prop := Lib.TabIs Tryd.prog w "internal/strconv.uint64pow10" .u64 Lib.pow10Tab
theorem tens_global : Tryd.prog.globalNamed "internal/strconv.uint64pow10" = some 3 := by kernel_rfl
theorem Tens.later {w w' : World} (h : Tens w) (hb : Below w.heap.size w w') : Tens w' := by
  unfold Tens Lib.TabIs World.var? at h ⊢
  rw [tens_global] at h ⊢
  simp only [Option.bind_some] at h ⊢
  have hlt : 3 < w.heap.size := by
    rcases Nat.lt_or_ge 3 w.heap.size with h' | h'
    · exact h'
    · rw [Array.getElem?_eq_none h'] at h; simp at h
  rw [hb.block _ hlt]
  exact h
theorem Tens.drew {w : World} (h : Tens w) : Tens w.drew := h

theorem itoa_int (c : Int) (h0 : 0 ≤ c) (h1 : c ≤ 9223372036854775807) (w : World) (ht : Tens w) :
    Calls Tryd.prog 11 #[.int .i64 c] w fun e w' => e = .returned (.string ⟨(Lib.decDigits c.toNat).toArray⟩) ∧ Below w.heap.size w w' := by
  refine (Tryd.strconv_Itoa c (by omega) h1 w ht).mono ?_
  rintro e w' ⟨rfl, k, os, rfl⟩
  refine ⟨?_, Lib.below_grow _ _ (Nat.le_refl _) k os⟩
  unfold Lib.itoa
  rw [if_neg (by omega)]

theorem show_yes (c n : Int) (w : World) (h : St.rgt c n = true) (hc : c ≤ 9223372036854775807) (ht : Tens w) :
    Calls Tryd.prog 6 #[.agg #[.int .i64 c, .int .i64 n]] w fun e w' => e = .returned (.tuple #[.string ⟨(showB c n).toArray⟩, .int .i64 0]) ∧ Below w.heap.size w w' := by
  obtain ⟨h1, h2, h3⟩ := (rgt_iff c n).1 h
  have l1 := digits_le c hc
  have l2 := digits_le n (by omega)
  have s1 : ¬ 9223372036854775807 < (Lib.decDigits c.toNat).length + 1 := by omega
  have s2 : ¬ 9223372036854775807 < (Lib.decDigits c.toNat).length + 1 + (Lib.decDigits n.toNat).length := by omega
  go_enter Tryd.func6, Tryd.ntmps6
  go_wp2_with fail
  refine (right_any _ _ _).mono ?_
  rintro e w1 ⟨rfl, hb1⟩
  rw [h]
  have k0 : w1.cell? ⟨w.heap.size, 0, none⟩ = some (.int .i64 c) := cell_later hb1 (by go_simp)
  have k1 : w1.cell? ⟨w.heap.size, 1, none⟩ = some (.int .i64 n) := cell_later hb1 (by go_simp)
  have hbx := below_on (below_new (Below.refl w.heap.size w) _) hb1
  have hta := ht.later hbx
  clear h
  go_wp2_with fail
  go_region_held3 (fun w' => w'.cell? ⟨w.heap.size, 0, none⟩ = some (.int .i64 c) ∧ w'.cell? ⟨w.heap.size, 1, none⟩ = some (.int .i64 n) ∧ Below w.heap.size w w' ∧ Tens w')
    (first
      | exact ⟨k0, k1, hbx.drew, hta.drew⟩
      | (go_split_ands
         exact ⟨cell_later hb (by assumption), cell_later hb (by assumption), below_on (by assumption) hb, Tens.later (by assumption) hb⟩))
    (first
      | (go_at_call 11; refine (itoa_int _ (by omega) (by omega) _ ?_).mono ?_; (go_split_ands; first | exact hta.drew | assumption); rintro e w' ⟨rfl, hb⟩))
  all_goals go_wp2
  all_goals go_ret2
  all_goals (go_split_ands; exact ⟨by rw [cat_show]; rfl, by assumption⟩)

end Go.Proofs.YtebnmbckkelkpaaDoor
