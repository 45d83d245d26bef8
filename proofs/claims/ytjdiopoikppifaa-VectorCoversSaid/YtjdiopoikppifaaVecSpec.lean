/-
  What is asked of each of vector's functions (its contract), as one structure: the statements are walked once from it. With it: the fixed fact 'alive'.
-/
import Derived.Test.YtjdiopoikppifaaRefTwo
namespace Go.Proofs.Ytjdiopoikppifaa
open Go.RowKit

/-- A list is answered; what was there before is as it was. -/
def Ans (l : List (Int × Int)) (w : World) (e : Ending) (w' : World) : Prop := ∃ A c, e = .returned (.slice A l.length c) ∧ OneL w' A c l ∧ Below w.heap.size w w'
theorem Gives.ans {l : List (Int × Int)} {w w' : World} {e : Ending} (h : Gives l w e w') : Ans l w e w' := by
  obtain ⟨v, rfl, ho, hb⟩ := h
  obtain ⟨A, c, rfl, h1⟩ := OneL.of_own ho
  exact ⟨A, c, rfl, h1, hb⟩
/-- A value is answered; what was there before is as it was. -/
def Says (v : Value) (w : World) (e : Ending) (w' : World) : Prop := e = .returned v ∧ Below w.heap.size w w'

structure VecSpec : Prop where
  count : ∀ A c l n w, OneL w A c l → Calls Try.prog 11 #[.slice A l.length c, .int .i64 n] w (Says (.int .i64 (countOf l n)) w)
  has : ∀ A c l k n w, OneL w A c l → Calls Try.prog 13 #[.slice A l.length c, .agg #[.int .i64 k, .int .i64 n]] w (Says (.bool (hasOf l k n)) w)
  formed : ∀ A c l w, OneL w A c l → Calls Try.prog 15 #[.slice A l.length c] w (Says (.bool (Ve.fmd l)) w)
  greatest : ∀ A c l w, OneL w A c l → Calls Try.prog 17 #[.slice A l.length c] w (Says (.int .i64 (Ve.top (Ve.cnt l))) w)
  covers : ∀ A B c d l r w, OneL w A c l → OneL w B d r → Calls Try.prog 20 #[.slice A l.length c, .slice B r.length d] w (Says (.bool (Ve.cov (Ve.cnt l) (Ve.cnt r))) w)
  compare : ∀ A B c d l r w, OneL w A c l → OneL w B d r → Calls Try.prog 22 #[.slice A l.length c, .slice B r.length d] w (Says (.int .i64 (Ve.stand (Ve.cnt l) (Ve.cnt r))) w)
  join : ∀ A c ls w, ls.length ≤ c → c ≤ maxLen → (A = none → ls.length = 0 ∧ c = 0) → Rows w A ls → Calls Try.prog 24 #[.slice A ls.length c] w (Ans (Ve.joinL ls) w)
  meet : ∀ A c ls w, ls.length ≤ c → c ≤ maxLen → (A = none → ls.length = 0 ∧ c = 0) → Rows w A ls → Calls Try.prog 25 #[.slice A ls.length c] w (Ans (Ve.meetL ls) w)
  with_ : ∀ A c l k n w, OneL w A c l → Calls Try.prog 28 #[.slice A l.length c, .agg #[.int .i64 k, .int .i64 n]] w (Ans (Ve.joinL [l, [(k, n)]]) w)

theorem two_slots (w : World) (x y : Value) (t : TypeId) : Blk (w.alloc (.cells #[x, y] t)) w.heap.size t #[x, y] := Blk.new w t _

/-- Two lists in a block of two. -/
theorem rows_two {w : World} {g : Nat} {t : TypeId} {A B : Option Addr} {c d : Nat} {l r : List (Int × Int)} (hB : Blk w g t #[.slice A l.length c, .slice B r.length d]) (h1 : OneL w A c l) (h2 : OneL w B d r) : Rows w (some ⟨g, 0, none⟩) [l, r] := fun _ => ⟨g, 0, rfl, fun k hk => by
  have hk2 : k = 0 ∨ k = 1 := by simp at hk; omega
  rcases hk2 with rfl | rfl
  · exact ⟨A, c, hB.cell rfl, h1⟩
  · exact ⟨B, d, hB.cell rfl, h2⟩⟩
/-- One stamp in a block of its own. -/
theorem one_stamp {w : World} {g : Nat} {t : TypeId} {c n : Int} (hB : Blk w g t #[.int .i64 c, .int .i64 n]) : OneL w (some ⟨g, 0, none⟩) 1 [(c, n)] :=
  ⟨Nat.le_refl _, (by unfold maxLen; omega), (fun h => by cases h), fun _ => ⟨g, 0, rfl, fun j u hu => by
    rw [Nat.zero_add]
    exact hB.cell (by simpa [stCells] using hu)⟩⟩

theorem alive_joined : Ve.joinL [[(5, 0)], [(2, 3)]] = [(5, 0), (2, 3)] := by decide
theorem alive_has1 : hasOf [(5, 0), (2, 3)] 5 0 = true := by decide
theorem alive_has2 : hasOf [(5, 0), (2, 3)] 3 3 = false := by decide

set_option maxHeartbeats 1600000 in
theorem alive_any (S : VecSpec) (w : World) : Calls Try.prog 9 #[] w (Says (.bool true) w) := by
  obtain ⟨W1, hW1⟩ : ∃ W1, w.alloc (.cells #[.int .i64 5, .int .i64 0] 24) = W1 := ⟨_, rfl⟩
  obtain ⟨W2, hW2⟩ : ∃ W2, W1.alloc (.cells #[.int .i64 2, .int .i64 3] 24) = W2 := ⟨_, rfl⟩
  obtain ⟨W3, hW3⟩ : ∃ W3, W2.alloc (.cells #[.slice (some ⟨w.heap.size, 0, none⟩) 1 1, .slice (some ⟨w.heap.size + 1, 0, none⟩) 1 1] 22) = W3 := ⟨_, rfl⟩
  have z1 : W1.heap.size = w.heap.size + 1 := by rw [← hW1]; simp
  have z2 : W2.heap.size = w.heap.size + 2 := by rw [← hW2]; simp; omega
  have b1 : Below w.heap.size w W1 := by rw [← hW1]; exact below_new (Below.refl _ _) _
  have b2 : Below W1.heap.size W1 W2 := by rw [← hW2]; exact below_new (Below.refl _ _) _
  have b3 : Below W2.heap.size W2 W3 := by rw [← hW3]; exact below_new (Below.refl _ _) _
  have o1 : OneL W1 (some ⟨w.heap.size, 0, none⟩) 1 [(5, 0)] := one_stamp (by rw [← hW1]; exact Blk.new w 24 _)
  have o2 : OneL W2 (some ⟨w.heap.size + 1, 0, none⟩) 1 [(2, 3)] := one_stamp (by rw [← hW2, ← z1]; exact Blk.new W1 24 _)
  have hB : Blk W3 (w.heap.size + 2) 22 #[.slice (some ⟨w.heap.size, 0, none⟩) 1 1, .slice (some ⟨w.heap.size + 1, 0, none⟩) 1 1] := by rw [← hW3, ← z2]; exact Blk.new W2 22 _
  have hR := rows_two (l := [(5, 0)]) (r := [(2, 3)]) hB ((o1.later b2).later b3) (o2.later b3)
  have hj := S.join (some ⟨w.heap.size + 2, 0, none⟩) 2 [[(5, 0)], [(2, 3)]] W3 (Nat.le_refl _) (by unfold maxLen; omega) (fun h => by cases h) hR
  rw [alive_joined] at hj
  have bb : Below w.heap.size w W3 := below_on (below_on b1 b2) b3
  have hw3 : ((w.alloc (.cells #[.int .i64 5, .int .i64 0] 24)).alloc (.cells #[.int .i64 2, .int .i64 3] 24)).alloc (.cells #[.slice (some ⟨w.heap.size, 0, none⟩) 1 1, .slice (some ⟨w.heap.size + 1, 0, none⟩) 1 1] 22) = W3 := by rw [hW1, hW2, hW3]
  have h1 := alive_has1
  have h2 := alive_has2
  have HJ := Lib.hid hj
  have HW := Lib.hid hw3
  have HA := Lib.hid h1
  have HB := Lib.hid h2
  clear hj hR hB o1 o2 b1 b2 b3 z1 z2 hW1 hW2 hW3 hw3 h1 h2
  go_enter Try.func9, Try.ntmps9
  go_wp2_with fail
  rw [HW.out]
  refine HJ.out.mono ?_
  rintro e w1 ⟨A, c, rfl, ho, hb1⟩
  obtain ⟨b, off, rfl, hc⟩ := ho.stamps (by simp)
  have c0 := (hc 1 (by simp)).2
  have H1 := fun wx hx => S.has (some ⟨b, off, none⟩) c [(5, 0), (2, 3)] 5 0 wx hx
  have H2 := fun wx hx => S.has (some ⟨b, off, none⟩) c [(5, 0), (2, 3)] 3 3 wx hx
  rw [HA.out] at H1
  rw [HB.out] at H2
  have HH1 := Lib.hid H1
  have HH2 := Lib.hid H2
  have HO := Lib.hid ho
  clear H1 H2 hc ho
  go_wp2_with fail
  refine (HH1.out _ HO.out).mono ?_
  rintro e w2 ⟨rfl, hb2⟩
  have HO2 := Lib.hid (HO.out.later hb2)
  go_wp2_with fail
  refine (HH2.out _ HO2.out).mono ?_
  rintro e w3 ⟨rfl, hb3⟩
  go_wp2
  go_ret
  exact ⟨rfl, below_on (below_on (below_on bb hb1) hb2) hb3⟩

end Go.Proofs.Ytjdiopoikppifaa
