/-
  What telltaleref01's Right answers, for all stamps; each leaves the memory that was there as it was.
  What stamp.Right and its helper answer, for all stamps; each leaves the memory that was there as it was.
  What the functions of package stamp (Compare, and Right beside it), those of telltaleref01, and cmp.Compare at int answer, for all arguments; each leaves the memory that was there as it was.
  Where a file stands: what disk's place and file, and telltaleref08's place, answer.
-/
import Derived.Test.YtkhggofcbdcliaaDoorProg
import Derived.Test.YtkhggofcbdcliaaDoorG01
import Derived.Tactics
import Derived.Tactics2
import Derived.WalkKit
import Derived.WalkSpells
import Derived.OwnWalk
import Derived.Deep.QuietTactic
import Derived.BigQuiet
import Derived.Deep.RegionHeld3
import Derived.KernelRfl
import Derived.Lib.Hide
import Derived.Test.YtkhggofcbdcliaaDoorG04
namespace Go.Proofs.YtkhggofcbdcliaaDoor
open Go.RowKit

end Go.Proofs.YtkhggofcbdcliaaDoor
namespace Go.Proofs.YtkhggofcbdcliaaDoor
open Go.RowKit

end Go.Proofs.YtkhggofcbdcliaaDoor
namespace Go.Proofs.YtkhggofcbdcliaaDoor
open Go.RowKit

theorem isNaN_any (a : Int) (w : World) : Calls Tryd.prog 73 #[.int .i64 a] w fun e w' => e = .returned (.bool false) ∧ w = w' := by
  go_enter Tryd.func73, Tryd.ntmps73
  go_wp2
  go_ret
  simp

theorem cmp_any (a b : Int) (w : World) : Calls Tryd.prog 70 #[.int .i64 a, .int .i64 b] w fun e w' => e = .returned (.int .i64 (St.cmpI a b)) ∧ w = w' := by
  rcases Int.lt_trichotomy a b with h | h | h
  · go_enter Tryd.func70, Tryd.ntmps70
    go_wp2_with (go_at_call 73; refine (isNaN_any _ _).mono ?_; rintro e w' ⟨rfl, rfl⟩)
    go_ret
    rw [St.cmpI_lt h]; exact ⟨rfl, rfl⟩
  · subst h
    go_enter Tryd.func70, Tryd.ntmps70
    go_wp2_with (go_at_call 73; refine (isNaN_any _ _).mono ?_; rintro e w' ⟨rfl, rfl⟩)
    go_ret
    rw [St.cmpI_eq rfl]; exact ⟨rfl, rfl⟩
  · have h2 : ¬ a < b := by omega
    go_enter Tryd.func70, Tryd.ntmps70
    go_wp2_with (go_at_call 73; refine (isNaN_any _ _).mono ?_; rintro e w' ⟨rfl, rfl⟩)
    go_ret
    rw [St.cmpI_gt h]; exact ⟨rfl, rfl⟩

end Go.Proofs.YtkhggofcbdcliaaDoor
namespace Go.Proofs.YtkhggofcbdcliaaDoor
open Go.RowKit

namespace Dk
/-- Where the file of a number stands; -1: nowhere. -/
def Plc (L : List Fc) (n r : Int) : Prop := (r = -1 ∧ ∀ (t : Nat) (x : Fc), L[t]? = some x → x.num ≠ n) ∨ ∃ (t : Nat) (x : Fc), r = (t : Int) ∧ L[t]? = some x ∧ x.num = n ∧ ∀ (u : Nat) (y : Fc), u < t → L[u]? = some y → y.num ≠ n
/-- How many files stand ahead of a number; is there one of that number? -/
structure Low (L : List Fc) (n : Int) (at_ : Nat) (th : Bool) : Prop where
  le : at_ ≤ L.length
  lo : ∀ (u : Nat) (x : Fc), u < at_ → L[u]? = some x → x.num < n
  hi : ∀ (u : Nat) (x : Fc), at_ ≤ u → L[u]? = some x → n ≤ x.num
  here : th = true → ∃ x, L[at_]? = some x ∧ x.num = n
  not : th = false → ∀ (u : Nat) (x : Fc), at_ ≤ u → L[u]? = some x → n < x.num
end Dk

set_option maxRecDepth 100000 in
set_option maxHeartbeats 1600000 in
theorem rplace_any (room n r : Int) (A : Option Addr) (c : Nat) (L : List Fc) (w : World) (h : OneD w A c L) (hr : Dk.Plc L n r) :
    Calls Tryd.prog 54 #[.agg #[.int .i64 room, .slice A L.length c], .int .i64 n] w (Says (.int .i64 r) w) := by
  have hlen := h.len
  have bn := below_new (Below.refl w.heap.size w) (.cells #[.int .i64 room, .slice A L.length c] 24)
  have C1 := Lib.hid ((Blk.new w 24 #[.int .i64 room, .slice A L.length c]).cell (i := 1) rfl)
  have HD := Lib.hid h
  have HR := Lib.hid hr
  clear h hr
  go_enter Tryd.func54, Tryd.ntmps54
  go_wp2_with fail
  go_loopw [5] (fun s5 wr => ∃ (k : Nat), k ≤ L.length ∧ s5 = .int .i64 (k : Int) ∧ (∀ (u : Nat) (y : Fc), u < k → L[u]? = some y → y.num ≠ n) ∧ Below w.heap.size w wr ∧ wr.cell? ⟨w.heap.size, 1, none⟩ = some (.slice A L.length c)) (fun s5 _ => L.length - (intOf s5).toNat)
  case atStart => exact ⟨0, Nat.zero_le _, rfl, fun u y hu => by omega, bn, C1.out⟩
  case round =>
    obtain ⟨k, hk, rfl, hno, hbw, hc1⟩ := hrel
    have HNO := Lib.hid hno
    clear hno
    by_cases hlt : k < L.length
    · have hne : L ≠ [] := fun e => by subst e; simp at hlt
      obtain ⟨b, off, hA, hc⟩ := (HD.out.later hbw).at hne
      subst hA
      obtain ⟨x, hx⟩ : ∃ x, L[k]? = some x := ⟨L[k], List.getElem?_eq_getElem hlt⟩
      obtain ⟨e0, e1, e2⟩ := hc k x hx
      have HX := Lib.hid hx
      have HC := Lib.hid hc1
      have hi0 : (0 : Int) ≤ (k : Int) := by omega
      have hi1 : (k : Int) < (L.length : Int) := by omega
      obtain ⟨num, X, cx, l, sr⟩ := x
      dsimp only at e0 e1 e2
      clear hx hc hne e1 e2
      by_cases t1 : num = n
      · have d1 : (num == n) = true := by rw [beq_iff_eq]; exact t1
        have hrk : r = (k : Int) := by
          rcases HR.out with ⟨_, h2⟩ | ⟨t, y, h1, h2, h3, h4⟩
          · exact absurd t1 (h2 k _ HX.out)
          · rcases Nat.lt_trichotomy t k with q | q | q
            · exact absurd h3 (HNO.out t y q h2)
            · rw [h1, q]
            · exact absurd t1 (h4 k _ q HX.out)
        subst hrk
        clear t1
        go_wp2
        go_ret
        exact ⟨rfl, hbw⟩
      · have d1 : (num == n) = false := by rw [beq_eq_false_iff_ne]; exact t1
        have T1 := Lib.hid t1
        clear t1
        go_wp2_with fail
        go_roundw
        case rel => exact ⟨k + 1, by omega, by first | rfl | go_num, (fun u y hu hy => by
          by_cases e : u = k
          · subst e
            rw [HX.out] at hy
            cases hy
            exact T1.out
          · exact HNO.out u y (by omega) hy), hbw, HC.out⟩
        case measure => simp [intOf]; omega
    · have hd : decide ((k : Int) < (L.length : Int)) = false := decide_eq_false (by omega)
      have hrk : r = -1 := by
        rcases HR.out with ⟨h1, _⟩ | ⟨t, y, h1, h2, h3, h4⟩
        · exact h1
        · exact absurd h3 (HNO.out t y (by have := (List.getElem?_eq_some_iff.1 h2).1; omega) h2)
      subst hrk
      go_wp2
      go_ret
      exact ⟨rfl, hbw⟩

theorem placeCmp_any (x : Fc) (n : Int) (w : World) : Calls Tryd.prog 69 #[.agg #[.int .i64 x.num, .slice x.X x.l.length x.c, .int .i64 x.s], .int .i64 n] w (Says (.int .i64 (St.cmpI x.num n)) w) := by
  obtain ⟨num, X, cx, l, sr⟩ := x
  have bn := below_new (Below.refl w.heap.size w) (.cells #[.int .i64 num, .slice X l.length cx, .int .i64 sr] 50)
  go_enter Tryd.func69, Tryd.ntmps69
  go_wp2_with (go_at_call 70; refine (cmp_any _ _ _).mono ?_; rintro e w' ⟨rfl, rfl⟩)
  go_ret
  exact ⟨rfl, bn⟩

set_option maxRecDepth 100000 in
set_option maxHeartbeats 1600000 in
theorem bsearch_any (n : Int) (A : Option Addr) (c : Nat) (L : List Fc) (at_ : Nat) (th : Bool) (w : World) (h : OneD w A c L) (hl : L.length ≤ 4611686018427387904) (hr : Dk.Low L n at_ th) :
    Calls Tryd.prog 68 #[.slice A L.length c, .int .i64 n, .func (.func 69) #[] #[]] w (Says (.tuple #[.int .i64 (at_ : Int), .bool th]) w) := by
  have HD := Lib.hid h
  have HR := Lib.hid hr
  have hat := hr.le
  clear h hr
  go_enter Tryd.func68, Tryd.ntmps68
  go_wp2_with fail
  go_loopw [9, 10] (fun s9 s10 wr => ∃ (i j : Nat), i ≤ at_ ∧ at_ ≤ j ∧ j ≤ L.length ∧ s9 = .int .i64 (i : Int) ∧ s10 = .int .i64 (j : Int) ∧ Below w.heap.size w wr) (fun s9 s10 _ => (intOf s10).toNat - (intOf s9).toNat)
  case atStart => exact ⟨0, L.length, Nat.zero_le _, hat, Nat.le_refl _, rfl, rfl, Below.refl _ _⟩
  case round =>
    obtain ⟨i, j, hi, hj, hjl, rfl, rfl, hbw⟩ := hrel
    by_cases hlt : i < j
    · have hd : decide ((i : Int) < (j : Int)) = true := decide_eq_true (by omega)
      have hij0 : (0 : Int) ≤ (i : Int) + (j : Int) := by omega
      have hij1 : (i : Int) + (j : Int) ≤ 9223372036854775807 := by omega
      obtain ⟨m, hm⟩ : ∃ m : Nat, (i + j) / 2 = m := ⟨_, rfl⟩
      have hmi : i ≤ m := by omega
      have hmj : m < j := by omega
      have hne : L ≠ [] := fun e => by subst e; simp at hjl; omega
      obtain ⟨b, off, hA, hc⟩ := (HD.out.later hbw).at hne
      subst hA
      have hml : m < L.length := by omega
      obtain ⟨x, hx⟩ : ∃ x, L[m]? = some x := ⟨L[m], List.getElem?_eq_getElem hml⟩
      obtain ⟨e0, e1, e2⟩ := hc m x hx
      have hi0 : (0 : Int) ≤ ((i : Int) + (j : Int)) / 2 := by omega
      have hi1 : ((i : Int) + (j : Int)) / 2 < (L.length : Int) := by omega
      have N := Lib.hid (fun w => placeCmp_any x n w)
      have hlo := fun h => HR.out.lo m x h hx
      have hhi := fun h => HR.out.hi m x h hx
      obtain ⟨num, X, cx, l, sr⟩ := x
      dsimp only at e0 e1 e2 hlo hhi
      subst hm
      clear hx hc hne
      by_cases t : (i + j) / 2 < at_
      · have hc1 : St.cmpI num n = -1 := St.cmpI_lt (hlo t)
        have hb0 : (i + j) / 2 + 1 ≤ at_ := t
        dsimp only at N
        rw [hc1] at N
        have HB0 := Lib.hid hb0
        clear hc1 hlo hhi t hb0
        go_wp2_with fail
        refine (N.out _).mono ?_
        rintro e w1 ⟨rfl, b1⟩
        go_wp2_with fail
        go_roundw
        case rel => exact ⟨(i + j) / 2 + 1, j, HB0.out, hj, hjl, by first | rfl | go_num | (congr 1; omega), rfl, below_on hbw b1⟩
        case measure => simp [intOf]; omega
      · have hc1 : 0 ≤ St.cmpI num n := by
          have := hhi (by omega)
          unfold St.cmpI
          rw [if_neg (by omega)]
          split <;> omega
        have hb0 : at_ ≤ (i + j) / 2 := by omega
        obtain ⟨q, hq⟩ : ∃ q, St.cmpI num n = q := ⟨_, rfl⟩
        dsimp only at N
        rw [hq] at N hc1
        have d1 : decide (q < 0) = false := decide_eq_false (by omega)
        clear hq hlo hhi t
        go_wp2_with fail
        refine (N.out _).mono ?_
        rintro e w1 ⟨rfl, b1⟩
        go_wp2_with fail
        go_roundw
        case rel => exact ⟨i, (i + j) / 2, hi, hb0, by omega, rfl, by first | rfl | go_num | (congr 1; omega), below_on hbw b1⟩
        case measure => simp [intOf]; omega
    · have hia : i = at_ := by omega
      subst hia
      have hd : decide ((i : Int) < (j : Int)) = false := decide_eq_false (by omega)
      have hdn : decide (i < j) = false := decide_eq_false hlt
      clear hlt
      by_cases hL : i < L.length
      · have hd2 : decide (i < L.length) = true := decide_eq_true (by omega)
        have hne : L ≠ [] := fun e => by subst e; simp at hL
        obtain ⟨b, off, hA, hc⟩ := (HD.out.later hbw).at hne
        subst hA
        obtain ⟨x, hx⟩ : ∃ x, L[i]? = some x := ⟨L[i], List.getElem?_eq_getElem hL⟩
        obtain ⟨e0, e1, e2⟩ := hc i x hx
        have hi0 : (0 : Int) ≤ (i : Int) := by omega
        have hi1 : (i : Int) < (L.length : Int) := by omega
        have N := Lib.hid (fun w => placeCmp_any x n w)
        have hq : (St.cmpI x.num n == 0) = th := by
          cases th with
          | true =>
            obtain ⟨y, hy, hyn⟩ := HR.out.here rfl
            rw [hx] at hy
            cases hy
            rw [beq_iff_eq]
            exact St.cmpI_eq hyn
          | false =>
            have := HR.out.not rfl i x (Nat.le_refl _) hx
            rw [beq_eq_false_iff_ne, St.cmpI_gt this]
            omega
        obtain ⟨num, X, cx, l, sr⟩ := x
        dsimp only at e0 e1 e2 hq N
        obtain ⟨q, hqq⟩ : ∃ q, St.cmpI num n = q := ⟨_, rfl⟩
        rw [hqq] at N hq
        clear hqq hx hc hne
        go_wp2_with fail
        refine (N.out _).mono ?_
        rintro e w1 ⟨rfl, b1⟩
        go_wp2
        go_ret2
        exact ⟨rfl, below_on hbw b1⟩
      · have hd2 : decide (i < L.length) = false := decide_eq_false hL
        have hth : th = false := by
          cases th with
          | true =>
            obtain ⟨y, hy, hyn⟩ := HR.out.here rfl
            have := (List.getElem?_eq_some_iff.1 hy).1
            omega
          | false => rfl
        subst hth
        go_wp2
        go_ret2
        exact ⟨rfl, hbw⟩

theorem dplace_any (room n : Int) (A : Option Addr) (c : Nat) (L : List Fc) (at_ : Nat) (th : Bool) (w : World) (h : OneD w A c L) (hl : L.length ≤ 4611686018427387904) (hr : Dk.Low L n at_ th) :
    Calls Tryd.prog 61 #[.agg #[.int .i64 room, .slice A L.length c], .int .i64 n] w (Says (.tuple #[.int .i64 (at_ : Int), .bool th]) w) := by
  have bn := below_new (Below.refl w.heap.size w) (.cells #[.int .i64 room, .slice A L.length c] 24)
  have N := Lib.hid (bsearch_any n A c L at_ th _ (h.later bn) hl hr)
  clear h hr
  go_enter Tryd.func61, Tryd.ntmps61
  go_wp2_with fail
  refine N.out.mono ?_
  rintro e w1 ⟨rfl, b1⟩
  go_wp2
  go_ret2
  exact ⟨rfl, below_on bn b1⟩
end Go.Proofs.YtkhggofcbdcliaaDoor
