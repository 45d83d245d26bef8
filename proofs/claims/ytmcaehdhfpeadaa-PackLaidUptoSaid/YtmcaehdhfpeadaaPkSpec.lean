/-
  What is asked of each of pack's functions (its contract), as one structure. With it: the fixed fact 'alive'.
-/
import Derived.Test.YtmcaehdhfpeadaaByRow
import Derived.Test.YtmcaehdhfpeadaaAns
namespace Go.Proofs.Ytmcaehdhfpeadaa
open Go.RowKit

namespace Pk
/-- How many bytes a number's are. -/
def lenOf (n : Int) : Int := if n < 0 then 0 else ((bytesOf n.toNat).length : Int)
/-- A number's bytes behind others, the error's number. -/
def appn (l : List Int) (n : Int) : List Int × Int := if n < 0 then ([], 1) else (l ++ bytesOf n.toNat, 0)
end Pk

/-- A list of bytes is answered; what was there before is as it was. -/
def AnsB (l : List Int) (w : World) (en : Ending) (w' : World) : Prop := ∃ A c, en = .returned (.slice A l.length c) ∧ OneB w' A c l ∧ Below w.heap.size w w'
/-- A list of bytes and a number. -/
def AnsB2 (l : List Int) (e : Int) (w : World) (en : Ending) (w' : World) : Prop := ∃ A c, en = .returned (.tuple #[.slice A l.length c, .int .i64 e]) ∧ OneB w' A c l ∧ Below w.heap.size w w'
/-- A list of bytes in memory of the call's own, and two numbers. -/
def GivesB3 (l : List Int) (k e : Int) (w : World) (en : Ending) (w' : World) : Prop := ∃ v, en = .returned (.tuple #[v, .int .i64 k, .int .i64 e]) ∧ w'.ownsRow w.heap.size 5 1 v l.length (bCells l) ∧ Below w.heap.size w w'

structure PackSpec : Prop where
  len : ∀ n w, -9223372036854775808 ≤ n → n ≤ 9223372036854775807 → Calls Try.prog 13 #[.int .i64 n] w (Says (.int .i64 (Pk.lenOf n)) w)
  appn : ∀ A c l n w, -9223372036854775808 ≤ n → n ≤ 9223372036854775807 → l.length + 9 ≤ 140737488355328 → OneB w A c l → Calls Try.prog 11 #[.slice A l.length c, .int .i64 n] w (AnsB2 (Pk.appn l n).1 (Pk.appn l n).2 w)
  number : ∀ A c l w, OneB w A c l → Calls Try.prog 16 #[.slice A l.length c] w (Says (Pk.numV (Pk.num l)) w)
  appr : ∀ A c l B d r w, l.length + r.length + 9 ≤ 140737488355328 → OneB w A c l → OneB w B d r → Calls Try.prog 21 #[.slice A l.length c, .slice B r.length d] w (AnsB (l ++ Pk.laid r) w)
  appro : ∀ A c l B d r w, l.length + r.length + 9 ≤ 140737488355328 → OneB w A c l → OneB w B d r → Calls Try.prog 21 #[.slice A l.length c, .slice B r.length d] w (GivesB (l ++ Pk.laid r) w)
  row : ∀ A c l most w, l.length ≤ 140737488355328 → OneB w A c l → Calls Try.prog 19 #[.slice A l.length c, .int .i64 most] w (GivesB3 (Pk.row l most).1 (Pk.row l most).2.1 (Pk.row l most).2.2 w)

theorem palive_of : Pk.appn [7] 300 = ([7, 172, 2], 0) := by decide

set_option maxHeartbeats 1600000 in
theorem palive_any (SP : PackSpec) (w : World) : Calls Try.prog 9 #[] w (Says (.bool true) w) := by
  have b0 := below_new (Below.refl w.heap.size w) (.cells #[.int .u8 7] 5)
  have hB := Blk.new w 5 #[.int .u8 7]
  have hO : OneB (w.alloc (.cells #[.int .u8 7] 5)) (some ⟨w.heap.size, 0, none⟩) 1 [7] := ⟨Nat.le_refl _, by unfold maxLen; omega, (fun h => by cases h), fun _ => ⟨w.heap.size, 0, rfl, fun j u hu => by
    rw [Nat.zero_add]
    exact hB.cell (by simpa [bCells] using hu)⟩, fun x hx => by simp at hx; subst hx; unfold isB; omega⟩
  have n1 := SP.appn (some ⟨w.heap.size, 0, none⟩) 1 [7] 300 _ (by omega) (by omega) (by simp) hO
  rw [palive_of] at n1
  have N1 := Lib.hid (show Calls Try.prog 11 #[.slice (some ⟨w.heap.size, 0, none⟩) 1 1, .int .i64 300] _ (AnsB2 [7, 172, 2] 0 _) from n1)
  clear n1 hO hB
  go_enter Try.func9, Try.ntmps9
  go_wp2_with fail
  refine N1.out.mono ?_
  rintro e w1 ⟨A, c, rfl, ho, b1⟩
  obtain ⟨b, off, rfl, hc⟩ := ho.at (by simp)
  have c0 := hc 0 (by simp)
  have c1 := hc 1 (by simp)
  have c2 := hc 2 (by simp)
  simp only [Nat.add_zero, List.getD_cons_zero, List.getD_cons_succ] at c0 c1 c2
  have HO := Lib.hid ho
  clear ho hc
  go_wp2
  go_ret
  exact ⟨rfl, below_on b0 b1⟩

end Go.Proofs.Ytmcaehdhfpeadaa
