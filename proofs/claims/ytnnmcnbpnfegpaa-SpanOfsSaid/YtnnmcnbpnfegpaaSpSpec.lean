/-
  What is asked of each of span's functions (its contract), as one structure. With it: the fixed fact 'alive'.
-/
import Derived.Test.YtnnmcnbpnfegpaaSpRefTwo
import Derived.Test.YtnnmcnbpnfegpaaAns
namespace Go.Proofs.Ytnnmcnbpnfegpaa
open Go.RowKit

theorem GivesS.ans {l : List (Int × Int)} {w w' : World} {e : Ending} (h : GivesS l w e w') : Ans l w e w' := h.one

/-- A list of numbers by value. -/
def Nums (w : World) (A : Option Addr) (c : Nat) (xs : List Int) : Prop := xs.length ≤ c ∧ c ≤ maxLen ∧ (A = none → xs.length = 0 ∧ c = 0) ∧ Lies w A (xs.map (Value.int .i64))
theorem Nums.later {w w' : World} {A : Option Addr} {c : Nat} {xs : List Int} (h : Nums w A c xs) (hb : Below w.heap.size w w') : Nums w' A c xs := ⟨h.1, h.2.1, h.2.2.1, h.2.2.2.later hb⟩
theorem Nums.len {w : World} {A : Option Addr} {c : Nat} {xs : List Int} (h : Nums w A c xs) : xs.length ≤ 9223372036854775807 := by
  have h1 := h.1
  have h2 := h.2.1
  unfold maxLen at h2
  omega

structure SpanSpec : Prop where
  formed : ∀ A c l w, OneL w A c l → Calls Try.prog 11 #[.slice A l.length c] w (Says (.bool (Sp.fmd l)) w)
  has : ∀ A c l o w, OneL w A c l → Calls Try.prog 13 #[.slice A l.length c, .int .i64 o] w (Says (.bool (inOf l o)) w)
  size : ∀ A c l w, OneL w A c l → Calls Try.prog 15 #[.slice A l.length c] w (Says (.int .i64 (Sp.sz (Sp.inL l) : Int)) w)
  of_ : ∀ A c xs w, Nums w A c xs → Calls Try.prog 18 #[.slice A xs.length c] w (Ans (Sp.ofL (Sp.someOf xs)) w)
  join : ∀ A c ls w, ls.length ≤ c → c ≤ maxLen → (A = none → ls.length = 0 ∧ c = 0) → Sp.tot ls ≤ 9223372036854775807 → Rows w A ls → Calls Try.prog 20 #[.slice A ls.length c] w (Ans (Sp.joinS ls) w)
  meet : ∀ A B c d l r w, OneL w A c l → OneL w B d r → Calls Try.prog 22 #[.slice A l.length c, .slice B r.length d] w (Ans (Sp.meetS l r) w)
  less : ∀ A B c d l r w, OneL w A c l → OneL w B d r → Calls Try.prog 23 #[.slice A l.length c, .slice B r.length d] w (Ans (Sp.lessS l r) w)
  covers : ∀ A B c d l r w, OneL w A c l → OneL w B d r → Calls Try.prog 26 #[.slice A l.length c, .slice B r.length d] w (Says (.bool (Sp.cov (Sp.inL l) (Sp.inL r))) w)
  touch : ∀ A B c d l r w, OneL w A c l → OneL w B d r → Calls Try.prog 28 #[.slice A l.length c, .slice B r.length d] w (Says (.bool (Sp.touch (Sp.inL l) (Sp.inL r))) w)

theorem salive_of : Sp.ofL (Sp.someOf [3, 1, 2, 7, 300]) = [(1, 3), (7, 7)] := by
  refine Sp.good_uniq (Sp.good_ofL _) ?_ ?_
  · intro j hj
    have : j = 0 ∨ j = 1 := by simp at hj; omega
    rcases this with rfl | rfl <;> simp
  · intro o ho
    rw [Sp.inL_ofL _ o ho]
    unfold Sp.someOf Sp.inL
    rw [Bool.eq_iff_iff]
    simp
    omega
theorem salive_7 : inOf [(1, 3), (7, 7)] 7 = true := by decide
theorem salive_300 : inOf [(1, 3), (7, 7)] 300 = false := by decide
theorem salive_sz : Sp.sz (Sp.inL [(1, 3), (7, 7)]) = 4 := by kernel_rfl

set_option maxHeartbeats 1600000 in
theorem salive_any (S : SpanSpec) (w : World) : Calls Try.prog 9 #[] w (Says (.bool true) w) := by
  obtain ⟨W, hW⟩ : ∃ W, w.alloc (.cells #[.int .i64 3, .int .i64 1, .int .i64 2, .int .i64 7, .int .i64 300] 3) = W := ⟨_, rfl⟩
  have b1 : Below w.heap.size w W := by rw [← hW]; exact below_new (Below.refl _ _) _
  have hB : Blk W w.heap.size 3 #[.int .i64 3, .int .i64 1, .int .i64 2, .int .i64 7, .int .i64 300] := by rw [← hW]; exact Blk.new w _ _
  have hN : Nums W (some ⟨w.heap.size, 0, none⟩) 5 [3, 1, 2, 7, 300] := ⟨Nat.le_refl _, by unfold maxLen; omega, (fun h => by cases h), fun _ => ⟨w.heap.size, 0, rfl, fun j u hu => by
    rw [Nat.zero_add]
    exact hB.cell (by simpa using hu)⟩⟩
  have n1 := S.of_ _ _ _ _ hN
  rw [salive_of] at n1
  have N1 := Lib.hid n1
  have HW := Lib.hid hW
  clear n1 hN hB hW
  go_enter Try.func9, Try.ntmps9
  go_wp2_with fail
  rw [HW.out]
  refine N1.out.mono ?_
  rintro e w1 ⟨A, c, rfl, ho, hb1⟩
  obtain ⟨b, off, rfl, hc⟩ := ho.stamps (by simp)
  obtain ⟨c0, c1⟩ := hc 0 (by simp)
  simp only [Nat.zero_mul, Nat.add_zero, List.getD_cons_zero] at c0 c1
  have h7 := fun wx hx => S.has (some ⟨b, off, none⟩) c [(1, 3), (7, 7)] 7 wx hx
  have h300 := fun wx hx => S.has (some ⟨b, off, none⟩) c [(1, 3), (7, 7)] 300 wx hx
  have hsz := fun wx hx => S.size (some ⟨b, off, none⟩) c [(1, 3), (7, 7)] wx hx
  rw [salive_7] at h7
  rw [salive_300] at h300
  rw [salive_sz] at hsz
  have H7 := Lib.hid h7
  have H300 := Lib.hid h300
  have HSZ := Lib.hid hsz
  have HO := Lib.hid ho
  clear h7 h300 hsz hc ho
  go_wp2_with fail
  refine (H7.out _ HO.out).mono ?_
  rintro e w2 ⟨rfl, hb2⟩
  have HO2 := Lib.hid (HO.out.later hb2)
  go_wp2_with fail
  refine (H300.out _ HO2.out).mono ?_
  rintro e w3 ⟨rfl, hb3⟩
  have HO3 := Lib.hid (HO2.out.later hb3)
  go_wp2_with fail
  refine (HSZ.out _ HO3.out).mono ?_
  rintro e w4 ⟨rfl, hb4⟩
  go_wp2
  go_ret
  exact ⟨rfl, below_on (below_on (below_on (below_on b1 hb1) hb2) hb3) hb4⟩

end Go.Proofs.Ytnnmcnbpnfegpaa
