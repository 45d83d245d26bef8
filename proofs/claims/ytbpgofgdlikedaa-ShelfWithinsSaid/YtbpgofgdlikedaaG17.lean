/-
  Plain mathematics of counted ends: how many spans hold an object, by differences at the spans' ends. Nothing of the program is imported.
  What span's setOf answers of any lists in memory: the objects that are in one of them.
  Plain mathematics of a walk over the objects of a set. Nothing of the program is imported.
  What a round of a loop over a function keeps, where the function lays cells of its own while it goes: all cells but those that the caller laid between its own beginning and the call. And the places of a formed list, one behind the other. Nothing of the program is imported.
-/
import Derived.Test.YtbpgofgdlikedaaG06
import Derived.Test.YtbpgofgdlikedaaG16
import Derived.Test.YtbpgofgdlikedaaG03
import Derived.Test.YtbpgofgdlikedaaG10
namespace Go.Proofs.Ytbpgofgdlikedaa
namespace Sp

/-- Does a span hold an object? How many of a list, of the first k lists? -/
def cvS (s : Int × Int) (o : Nat) : Int := if s.1 ≤ (o : Int) ∧ (o : Int) ≤ s.2 then 1 else 0
def cvL : List (Int × Int) → Nat → Int
  | [], _ => 0
  | s :: r, o => cvS s o + cvL r o
theorem cvS_bd (s : Int × Int) (o : Nat) : 0 ≤ cvS s o ∧ cvS s o ≤ 1 := by unfold cvS; split <;> omega
theorem cvS_pos (s : Int × Int) (o : Nat) : 0 < cvS s o ↔ s.1 ≤ (o : Int) ∧ (o : Int) ≤ s.2 := by
  unfold cvS
  by_cases h : s.1 ≤ (o : Int) ∧ (o : Int) ≤ s.2
  · rw [if_pos h]; exact ⟨fun _ => h, fun _ => by omega⟩
  · rw [if_neg h]; exact ⟨fun h2 => by omega, fun h2 => absurd h2 h⟩
theorem cvL_snoc (s : Int × Int) (o : Nat) : ∀ l, cvL (l ++ [s]) o = cvL l o + cvS s o
  | [] => by show cvS s o + 0 = 0 + cvS s o; omega
  | t :: r => by
    have := cvL_snoc s o r
    show cvS t o + cvL (r ++ [s]) o = cvS t o + cvL r o + cvS s o
    omega
theorem cvL_take (l : List (Int × Int)) (k : Nat) (h : k < l.length) (o : Nat) : cvL (l.take (k + 1)) o = cvL (l.take k) o + cvS l[k] o := by
  rw [List.take_succ_eq_append_getElem h, cvL_snoc]
theorem cvL_bd (o : Nat) : ∀ l, 0 ≤ cvL l o ∧ cvL l o ≤ (l.length : Int)
  | [] => ⟨Int.le_refl _, Int.le_refl _⟩
  | s :: r => by
    have h1 := cvL_bd o r
    have h2 := cvS_bd s o
    have e : cvL (s :: r) o = cvS s o + cvL r o := rfl
    rw [e, List.length_cons]
    omega
theorem cvL_pos (o : Nat) : ∀ l, 0 < cvL l o ↔ inL l o = true
  | [] => ⟨fun h => absurd h (Int.lt_irrefl _), fun h => by cases h⟩
  | s :: r => by
    have h1 := cvL_pos o r
    have h2 := cvS_pos s o
    have h3 := (cvL_bd o r).1
    have h4 := (cvS_bd s o).1
    have e : cvL (s :: r) o = cvS s o + cvL r o := rfl
    rw [e, inL_cons, Bool.or_eq_true, decide_eq_true_eq, ← h1, ← h2]
    omega
def cvTo (ls : List (List (Int × Int))) : Nat → Nat → Int
  | 0, _ => 0
  | k + 1, o => cvTo ls k o + cvL (ls.getD k []) o
def totTo (ls : List (List (Int × Int))) : Nat → Nat
  | 0 => 0
  | k + 1 => totTo ls k + (ls.getD k []).length
theorem totTo_cons (l : List (Int × Int)) (ls : List (List (Int × Int))) : ∀ k, totTo (l :: ls) (k + 1) = l.length + totTo ls k
  | 0 => by show 0 + l.length = l.length + 0; omega
  | k + 1 => by
    have := totTo_cons l ls k
    show totTo (l :: ls) (k + 1) + (ls.getD k []).length = l.length + (totTo ls k + (ls.getD k []).length)
    omega
theorem totTo_all : ∀ ls, totTo ls ls.length = tot ls
  | [] => rfl
  | l :: r => by
    rw [List.length_cons, totTo_cons, totTo_all r]
    simp [tot]
theorem totTo_mono (ls : List (List (Int × Int))) (k : Nat) : ∀ m, k ≤ m → totTo ls k ≤ totTo ls m
  | 0, h => by rw [Nat.le_zero.1 h]; exact Nat.le_refl _
  | m + 1, h => by
    rcases Nat.lt_or_ge m k with h1 | h1
    · rw [show k = m + 1 from by omega]; exact Nat.le_refl _
    · have := totTo_mono ls k m h1
      show totTo ls k ≤ totTo ls m + _
      omega
theorem totTo_le (ls : List (List (Int × Int))) (k : Nat) (h : k < ls.length) : totTo ls k + (ls.getD k []).length ≤ tot ls := by
  have := totTo_mono ls (k + 1) ls.length h
  rw [totTo_all] at this
  exact this
theorem cvTo_bd (ls : List (List (Int × Int))) (o : Nat) : ∀ k, 0 ≤ cvTo ls k o ∧ cvTo ls k o ≤ (totTo ls k : Int)
  | 0 => ⟨Int.le_refl _, Int.le_refl _⟩
  | k + 1 => by
    have h1 := cvTo_bd ls o k
    have h2 := cvL_bd o (ls.getD k [])
    have e : cvTo ls (k + 1) o = cvTo ls k o + cvL (ls.getD k []) o := rfl
    have e2 : totTo ls (k + 1) = totTo ls k + (ls.getD k []).length := rfl
    rw [e, e2]
    omega
theorem cvTo_pos (ls : List (List (Int × Int))) (o : Nat) : ∀ k, 0 < cvTo ls k o ↔ anyTo ls k o = true
  | 0 => ⟨fun h => absurd h (Int.lt_irrefl _), fun h => by cases h⟩
  | k + 1 => by
    have h1 := cvTo_pos ls o k
    have h2 := cvL_pos o (ls.getD k [])
    have h3 := (cvTo_bd ls o k).1
    have h4 := (cvL_bd o (ls.getD k [])).1
    have e : cvTo ls (k + 1) o = cvTo ls k o + cvL (ls.getD k []) o := rfl
    have e2 : anyTo ls (k + 1) o = (anyTo ls k o || inL (ls.getD k []) o) := rfl
    rw [e, e2, Bool.or_eq_true, ← h1, ← h2]
    omega

/-- Sums of differences. -/
def sumTo (c : Nat → Int) : Nat → Int
  | 0 => 0
  | k + 1 => sumTo c k + c k
theorem sumTo_put (c : Nat → Int) (p : Nat) (v : Int) : ∀ k, sumTo (fun j => if j = p then v else c j) k = sumTo c k + (if p < k then v - c p else 0)
  | 0 => by
    rw [if_neg (by omega)]
    show (0 : Int) = 0 + 0
    omega
  | k + 1 => by
    have h := sumTo_put c p v k
    show sumTo (fun j => if j = p then v else c j) k + (if k = p then v else c k) = sumTo c k + c k + _
    rw [h]
    by_cases e : k = p
    · rw [if_neg (by omega), if_pos e, if_pos (by omega), e]
      omega
    · rw [if_neg e]
      by_cases e2 : p < k
      · rw [if_pos e2, if_pos (by omega)]
        omega
      · rw [if_neg e2, if_neg (by omega)]
        omega
theorem sumTo_zero : ∀ k, sumTo (fun _ => 0) k = 0
  | 0 => rfl
  | k + 1 => by
    have := sumTo_zero k
    show sumTo (fun _ => 0) k + 0 = 0
    omega
/-- The differences c count g, of n spans. -/
def Dif (n : Nat) (c g : Nat → Int) : Prop := (∀ o, o < 256 → sumTo c (o + 1) = g o) ∧ ∀ j, -(n : Int) ≤ c j ∧ c j ≤ (n : Int)
theorem Dif.zero : Dif 0 (fun _ => 0) (fun _ => 0) := ⟨fun _ _ => sumTo_zero _, fun _ => ⟨Int.le_refl _, Int.le_refl _⟩⟩
theorem Dif.same {n m : Nat} {c g g' : Nat → Int} (h : Dif n c g) (hm : n ≤ m) (hg : ∀ o, o < 256 → g o = g' o) : Dif m c g' := ⟨fun o ho => (h.1 o ho).trans (hg o ho), fun j => by have := h.2 j; omega⟩
theorem Dif.step {n : Nat} {c g g' : Nat → Int} (h : Dif n c g) (p q : Nat) (hpq : p ≤ q) (hg : ∀ o, o < 256 → g' o = g o + (if p ≤ o ∧ o ≤ q then 1 else 0)) :
    Dif (n + 1) (fun j => if j = q + 1 then c (q + 1) - 1 else (if j = p then c p + 1 else c j)) g' := by
  refine ⟨fun o ho => ?_, fun j => ?_⟩
  · rw [sumTo_put (fun j => if j = p then c p + 1 else c j) (q + 1) (c (q + 1) - 1), sumTo_put c p (c p + 1), h.1 o ho, hg o ho, if_neg (show ¬ (q + 1 = p) from by omega)]
    by_cases h1 : p ≤ o
    · rw [if_pos (show p < o + 1 from by omega)]
      by_cases h2 : o ≤ q
      · rw [if_neg (show ¬ (q + 1 < o + 1) from by omega), if_pos ⟨h1, h2⟩]
        omega
      · rw [if_pos (show q + 1 < o + 1 from by omega), if_neg (fun h => h2 h.2)]
        omega
    · rw [if_neg (show ¬ (p < o + 1) from by omega), if_neg (show ¬ (q + 1 < o + 1) from by omega), if_neg (fun h => h1 h.1)]
      omega
  · have h1 := h.2 j
    have h2 := h.2 p
    have h3 := h.2 (q + 1)
    show -((n + 1 : Nat) : Int) ≤ (if j = q + 1 then c (q + 1) - 1 else (if j = p then c p + 1 else c j)) ∧ (if j = q + 1 then c (q + 1) - 1 else (if j = p then c p + 1 else c j)) ≤ ((n + 1 : Nat) : Int)
    split
    · omega
    · split <;> omega
theorem over_any (ls : List (List (Int × Int))) (o : Nat) : decide (0 < cvTo ls ls.length o) = anyTo ls ls.length o := by
  rw [Bool.eq_iff_iff, decide_eq_true_eq]
  exact cvTo_pos ls o ls.length

end Sp
end Go.Proofs.Ytbpgofgdlikedaa
namespace Go.Proofs.Ytbpgofgdlikedaa
open Go.RowKit Fb

theorem infoChange : (Try.prog.info? 68).map (·.size) = some 257 := by kernel_rfl
section
variable {w : World} {g : Nat} {t : TypeId} {c : Nat → Int}
theorem Blk.nar_put (h : Blk w g t (Sp.nar c)) (i : Nat) (x : Int) : Blk (w.setCell ⟨g, i, none⟩ (.int .i64 x)) g t (Sp.nar fun j => if j = i then x else c j) := by
  have h2 := h.put i (.int .i64 x)
  rw [Sp.nar_set c i x] at h2
  exact h2
theorem Blk.nar_cell (h : Blk w g t (Sp.nar c)) (i : Nat) (hi : i < 257) : w.cell? ⟨g, i, none⟩ = some (.int .i64 (c i)) := h.cell (Sp.nar_get c i hi)
end

set_option maxRecDepth 100000 in
set_option maxHeartbeats 6400000 in
theorem setOf_any (A : Option Addr) (cap : Nat) (ls : List (List (Int × Int))) (w : World) (hn : ls.length ≤ 9223372036854775807) (htot : Sp.tot ls ≤ 9223372036854775807) (h : Rows w A ls) :
    Calls Try.prog 35 #[.slice A ls.length cap] w fun e w' => e = .returned (.agg (Sp.arr (Sp.anyTo ls ls.length))) ∧ Below w.heap.size w w' := by
  have HR := Lib.hid h
  have hov := fun o => Sp.over_any ls o
  obtain ⟨F, hF⟩ : ∃ F, Sp.anyTo ls ls.length = F := ⟨_, rfl⟩
  rw [hF] at hov ⊢
  have HOV0 := Lib.hid hov
  clear h hov hF
  go_enter Try.func35, Try.ntmps35
  go_wp2_with fail
  rw [set_zero, change_zero]
  go_loopw [15] (fun s15 wr => ∃ (k : Nat) (c : Nat → Int), k ≤ ls.length ∧ s15 = .int .i64 (k : Int) ∧ Sp.Dif (Sp.totTo ls k) c (Sp.cvTo ls k) ∧ Blk wr (w.heap.size + 1) 68 (Sp.nar c) ∧ Blk wr w.heap.size 61 (Sp.arr fun _ => false) ∧ Below w.heap.size w wr) (fun s15 _ => ls.length - (intOf s15).toNat)
  case atStart =>
    have hb := Blk.new (w.alloc (.cells (Sp.arr fun _ => false) 61)) 68 (Sp.nar fun _ => 0)
    rw [show (w.alloc (.cells (Sp.arr fun _ => false) 61)).heap.size = w.heap.size + 1 from by simp] at hb
    exact ⟨0, fun _ => 0, Nat.zero_le _, rfl, Sp.Dif.zero, hb, (Blk.new _ _ _).alloc _, below_new (below_new (Below.refl _ _) _) _⟩
  case round =>
    obtain ⟨k, c, hk, rfl, hdif, hB1, hB0, hbw⟩ := hrel
    by_cases hlt : k < ls.length
    · have hne : ls ≠ [] := fun e => by subst e; simp at hlt
      obtain ⟨b, off, hA, hc⟩ := HR.out hne
      obtain ⟨A', c', e0, o1⟩ := hc k hlt
      replace e0 := cell_later hbw e0
      have HR2 := HR
      subst hA
      have hi0 : (0 : Int) ≤ (k : Int) := by omega
      have hi1 : (k : Int) < (ls.length : Int) := by omega
      have htl := Sp.totTo_le ls k hlt
      have hnext : ∀ c2, Sp.Dif (Sp.totTo ls k + (ls.getD k []).length) c2 (fun o => Sp.cvTo ls k o + Sp.cvL ((ls.getD k []).take (ls.getD k []).length) o) → Sp.Dif (Sp.totTo ls (k + 1)) c2 (Sp.cvTo ls (k + 1)) := fun c2 h2 => by
        rw [List.take_length] at h2
        exact h2
      obtain ⟨l, hl⟩ : ∃ l, ls.getD k [] = l := ⟨_, rfl⟩
      rw [hl] at e0 o1 htl hnext
      have hll := o1.len
      have HS := Lib.hid o1.stamps
      have HO := Lib.hid o1
      have HNX := Lib.hid hnext
      have HB1 := Lib.hid hB1
      have HB0 := Lib.hid hB0
      have HD := Lib.hid hdif
      clear hc hl hnext hB1 hB0 hdif o1
      go_wp2_with fail
      go_loopw [21] (fun s21 wq => ∃ (i : Nat) (c : Nat → Int), i ≤ l.length ∧ s21 = .int .i64 (i : Int) ∧ Sp.Dif (Sp.totTo ls k + i) c (fun o => Sp.cvTo ls k o + Sp.cvL (l.take i) o) ∧ Blk wq (w.heap.size + 1) 68 (Sp.nar c) ∧ Blk wq w.heap.size 61 (Sp.arr fun _ => false) ∧ Below w.heap.size w wq) (fun s21 _ => l.length - (intOf s21).toNat)
      case atStart => exact ⟨0, c, Nat.zero_le _, rfl, HD.out.same (by omega) (fun o _ => (Int.add_zero _).symm), HB1.out, HB0.out, hbw⟩
      case round =>
        obtain ⟨i, c, hi, rfl, hdif, hC1, hC0, hbq⟩ := hrel
        clear HB1 HB0 HD
        by_cases hlt2 : i < l.length
        · have hne2 : l ≠ [] := fun e => by subst e; simp at hlt2
          obtain ⟨b2, off2, hA2, hc2⟩ := (HS.out.later hbq) hne2
          have HS2 := HS
          subst hA2
          obtain ⟨e1, e2⟩ := hc2 i hlt2
          rw [List.getD_eq_getElem?_getD, List.getElem?_eq_getElem hlt2, Option.getD_some] at e1 e2
          have hj0 : (0 : Int) ≤ (i : Int) := by omega
          have hj1 : (i : Int) < (l.length : Int) := by omega
          obtain ⟨z, hz⟩ : ∃ z, l[i] = z := ⟨_, rfl⟩
          obtain ⟨x, y⟩ := z
          have HXY := Lib.hid hz
          rw [hz] at e1 e2
          have e1 : wr.cell? ⟨b2, off2 + i * 2, none⟩ = some (.int .i64 x) := e1
          have e2 : wr.cell? ⟨b2, off2 + (i * 2 + 1), none⟩ = some (.int .i64 y) := e2
          have hbn0 := below_new hbq (.cells #[.int .i64 x, .int .i64 y] 66)
          have B2 := Blk.new wr 66 #[.int .i64 x, .int .i64 y]
          have hC1' := hC1.alloc (.cells #[.int .i64 x, .int .i64 y] 66)
          have hC0' := hC0.alloc (.cells #[.int .i64 x, .int .i64 y] 66)
          obtain ⟨W1, hW1⟩ : ∃ W1, wr.alloc (.cells #[.int .i64 x, .int .i64 y] 66) = W1 := ⟨_, rfl⟩
          rw [hW1] at hbn0 B2 hC1' hC0'
          have HW1 := Lib.hid hW1
          have g0 := B2.cell (i := 0) rfl
          have g1 := B2.cell (i := 1) rfl
          have FIN := Lib.hid (show ∀ c2 wx, Sp.Dif (Sp.totTo ls k + i + 1) c2 (fun o => Sp.cvTo ls k o + Sp.cvL (l.take (i + 1)) o) → Blk wx (w.heap.size + 1) 68 (Sp.nar c2) → Blk wx w.heap.size 61 (Sp.arr fun _ => false) → Below w.heap.size w wx →
              ∃ (i' : Nat) (c' : Nat → Int), i' ≤ l.length ∧ Value.int .i64 ((i : Int) + 1) = .int .i64 (i' : Int) ∧ Sp.Dif (Sp.totTo ls k + i') c' (fun o => Sp.cvTo ls k o + Sp.cvL (l.take i') o) ∧ Blk wx (w.heap.size + 1) 68 (Sp.nar c') ∧ Blk wx w.heap.size 61 (Sp.arr fun _ => false) ∧ Below w.heap.size w wx from
            fun c2 wx h1 h2 h3 h4 => ⟨i + 1, c2, by omega, by go_num, h1, h2, h3, h4⟩)
          clear hC1 hC0 hW1 hz hc2 B2
          rcases Int.lt_or_le x 0 with hx | hx
          · rcases Int.lt_or_le 255 y with hy | hy
            · have hst := hdif.step (g' := fun o => Sp.cvTo ls k o + Sp.cvL (l.take (i + 1)) o) 0 255 (by omega) (fun o ho => by
                rw [Sp.cvL_take l i hlt2 o, HXY.out, Int.add_assoc]
                congr 2
                unfold Sp.cvS
                by_cases hq : 0 ≤ o ∧ o ≤ 255
                · rw [if_pos hq, if_pos (by show x ≤ (o : Int) ∧ (o : Int) ≤ y; omega)]
                · rw [if_neg hq, if_neg (by show ¬ (x ≤ (o : Int) ∧ (o : Int) ≤ y); omega)])
              have hbp := hdif.2 0
              have hbq1 := hdif.2 (256)
              have y1 := hC1'.nar_cell 0 (by omega)
              have y2 := hC1'.free 0
              have y3 := (hC1'.nar_put 0 (c 0 + 1)).nar_cell (256) (by omega)
              have y4 := (hC1'.nar_put 0 (c 0 + 1)).free (256)
              have y5 := hC1'.nar_cell (256) (by omega)
              have y6 := hC1'.free (256)
              rw [if_neg (show ¬ (256 = 0) from by omega)] at y3
              have B5 := ((hC1'.nar_put 0 (c 0 + 1)).nar_put (256) (c (256) - 1)).drew
              have B6 := ((hC0'.far (p := ⟨w.heap.size + 1, 0, none⟩) (by show w.heap.size ≠ w.heap.size + 1; omega) (.int .i64 (c 0 + 1))).far (p := ⟨w.heap.size + 1, 256, none⟩) (by show w.heap.size ≠ w.heap.size + 1; omega) (.int .i64 (c (256) - 1))).drew
              have b6 := ((hbn0.setCell (p := ⟨w.heap.size + 1, 0, none⟩) (by show w.heap.size ≤ w.heap.size + 1; omega) (.int .i64 (c 0 + 1))).setCell (p := ⟨w.heap.size + 1, 256, none⟩) (by show w.heap.size ≤ w.heap.size + 1; omega) (.int .i64 (c (256) - 1))).drew
              obtain ⟨u, hu⟩ : ∃ u, c 0 = u := ⟨_, rfl⟩
              obtain ⟨v, hv⟩ : ∃ v, c (256) = v := ⟨_, rfl⟩
              rw [hu] at y1 y3 y4 hbp B5 B6 b6 hst
              rw [hv] at y3 y5 hbq1 B5 B6 b6 hst
              have HB5 := Lib.hid B5
              have HB6 := Lib.hid B6
              have HST := Lib.hid hst
              clear B5 B6 hst hC0' hdif hu hv hC1'
              go_wp2_with fail
              rw [HW1.out]
              go_region
              go_wp2_with fail
              go_roundw
              case rel => exact FIN.out _ _ HST.out HB5.out HB6.out b6
              case measure => simp [intOf]; omega
            · by_cases hle : 0 ≤ y
              · obtain ⟨q, rfl⟩ : ∃ q : Nat, y = (q : Int) := ⟨y.toNat, by omega⟩
                have hst := hdif.step (g' := fun o => Sp.cvTo ls k o + Sp.cvL (l.take (i + 1)) o) 0 q (by omega) (fun o ho => by
                  rw [Sp.cvL_take l i hlt2 o, HXY.out, Int.add_assoc]
                  congr 2
                  unfold Sp.cvS
                  by_cases hq : 0 ≤ o ∧ o ≤ q
                  · rw [if_pos hq, if_pos (by show x ≤ (o : Int) ∧ (o : Int) ≤ (q : Int); omega)]
                  · rw [if_neg hq, if_neg (by show ¬ (x ≤ (o : Int) ∧ (o : Int) ≤ (q : Int)); omega)])
                have hbp := hdif.2 0
                have hbq1 := hdif.2 (q + 1)
                have y1 := hC1'.nar_cell 0 (by omega)
                have y2 := hC1'.free 0
                have y3 := (hC1'.nar_put 0 (c 0 + 1)).nar_cell (q + 1) (by omega)
                have y4 := (hC1'.nar_put 0 (c 0 + 1)).free (q + 1)
                have y5 := hC1'.nar_cell (q + 1) (by omega)
                have y6 := hC1'.free (q + 1)
                rw [if_neg (show ¬ (q + 1 = 0) from by omega)] at y3
                have B5 := ((hC1'.nar_put 0 (c 0 + 1)).nar_put (q + 1) (c (q + 1) - 1)).drew
                have B6 := ((hC0'.far (p := ⟨w.heap.size + 1, 0, none⟩) (by show w.heap.size ≠ w.heap.size + 1; omega) (.int .i64 (c 0 + 1))).far (p := ⟨w.heap.size + 1, q + 1, none⟩) (by show w.heap.size ≠ w.heap.size + 1; omega) (.int .i64 (c (q + 1) - 1))).drew
                have b6 := ((hbn0.setCell (p := ⟨w.heap.size + 1, 0, none⟩) (by show w.heap.size ≤ w.heap.size + 1; omega) (.int .i64 (c 0 + 1))).setCell (p := ⟨w.heap.size + 1, q + 1, none⟩) (by show w.heap.size ≤ w.heap.size + 1; omega) (.int .i64 (c (q + 1) - 1))).drew
                obtain ⟨u, hu⟩ : ∃ u, c 0 = u := ⟨_, rfl⟩
                obtain ⟨v, hv⟩ : ∃ v, c (q + 1) = v := ⟨_, rfl⟩
                rw [hu] at y1 y3 y4 hbp B5 B6 b6 hst
                rw [hv] at y3 y5 hbq1 B5 B6 b6 hst
                have HB5 := Lib.hid B5
                have HB6 := Lib.hid B6
                have HST := Lib.hid hst
                clear B5 B6 hst hC0' hdif hu hv hC1'
                go_wp2_with fail
                rw [HW1.out]
                go_region
                go_wp2_with fail
                go_roundw
                case rel => exact FIN.out _ _ HST.out HB5.out HB6.out b6
                case measure => simp [intOf]; omega
              · have hst := hdif.same (m := Sp.totTo ls k + i + 1) (g' := fun o => Sp.cvTo ls k o + Sp.cvL (l.take (i + 1)) o) (by omega) (fun o ho => by
                  rw [Sp.cvL_take l i hlt2 o, HXY.out]
                  unfold Sp.cvS
                  rw [if_neg (by show ¬ (x ≤ (o : Int) ∧ (o : Int) ≤ y); omega), Int.add_zero])
                have HST := Lib.hid hst
                have HB5 := Lib.hid hC1'.drew
                have HB6 := Lib.hid hC0'.drew
                have hbn := hbn0.drew
                clear hst hC0' hdif hC1'
                go_wp2_with fail
                rw [HW1.out]
                go_region
                go_wp2_with fail
                go_roundw
                case rel => exact FIN.out _ _ HST.out HB5.out HB6.out hbn
                case measure => simp [intOf]; omega
          · obtain ⟨p, rfl⟩ : ∃ p : Nat, x = (p : Int) := ⟨x.toNat, by omega⟩
            rcases Int.lt_or_le 255 y with hy | hy
            · by_cases hle : (p : Int) ≤ (255 : Int)
              · have hst := hdif.step (g' := fun o => Sp.cvTo ls k o + Sp.cvL (l.take (i + 1)) o) p 255 (by omega) (fun o ho => by
                  rw [Sp.cvL_take l i hlt2 o, HXY.out, Int.add_assoc]
                  congr 2
                  unfold Sp.cvS
                  by_cases hq : p ≤ o ∧ o ≤ 255
                  · rw [if_pos hq, if_pos (by show (p : Int) ≤ (o : Int) ∧ (o : Int) ≤ y; omega)]
                  · rw [if_neg hq, if_neg (by show ¬ ((p : Int) ≤ (o : Int) ∧ (o : Int) ≤ y); omega)])
                have hbp := hdif.2 p
                have hbq1 := hdif.2 (256)
                have y1 := hC1'.nar_cell p (by omega)
                have y2 := hC1'.free p
                have y3 := (hC1'.nar_put p (c p + 1)).nar_cell (256) (by omega)
                have y4 := (hC1'.nar_put p (c p + 1)).free (256)
                have y5 := hC1'.nar_cell (256) (by omega)
                have y6 := hC1'.free (256)
                rw [if_neg (show ¬ (256 = p) from by omega)] at y3
                have B5 := ((hC1'.nar_put p (c p + 1)).nar_put (256) (c (256) - 1)).drew
                have B6 := ((hC0'.far (p := ⟨w.heap.size + 1, p, none⟩) (by show w.heap.size ≠ w.heap.size + 1; omega) (.int .i64 (c p + 1))).far (p := ⟨w.heap.size + 1, 256, none⟩) (by show w.heap.size ≠ w.heap.size + 1; omega) (.int .i64 (c (256) - 1))).drew
                have b6 := ((hbn0.setCell (p := ⟨w.heap.size + 1, p, none⟩) (by show w.heap.size ≤ w.heap.size + 1; omega) (.int .i64 (c p + 1))).setCell (p := ⟨w.heap.size + 1, 256, none⟩) (by show w.heap.size ≤ w.heap.size + 1; omega) (.int .i64 (c (256) - 1))).drew
                obtain ⟨u, hu⟩ : ∃ u, c p = u := ⟨_, rfl⟩
                obtain ⟨v, hv⟩ : ∃ v, c (256) = v := ⟨_, rfl⟩
                rw [hu] at y1 y3 y4 hbp B5 B6 b6 hst
                rw [hv] at y3 y5 hbq1 B5 B6 b6 hst
                have HB5 := Lib.hid B5
                have HB6 := Lib.hid B6
                have HST := Lib.hid hst
                clear B5 B6 hst hC0' hdif hu hv hC1'
                go_wp2_with fail
                rw [HW1.out]
                go_region
                go_wp2_with fail
                go_roundw
                case rel => exact FIN.out _ _ HST.out HB5.out HB6.out b6
                case measure => simp [intOf]; omega
              · have hst := hdif.same (m := Sp.totTo ls k + i + 1) (g' := fun o => Sp.cvTo ls k o + Sp.cvL (l.take (i + 1)) o) (by omega) (fun o ho => by
                  rw [Sp.cvL_take l i hlt2 o, HXY.out]
                  unfold Sp.cvS
                  rw [if_neg (by show ¬ ((p : Int) ≤ (o : Int) ∧ (o : Int) ≤ y); omega), Int.add_zero])
                have HST := Lib.hid hst
                have HB5 := Lib.hid hC1'.drew
                have HB6 := Lib.hid hC0'.drew
                have hbn := hbn0.drew
                clear hst hC0' hdif hC1'
                go_wp2_with fail
                rw [HW1.out]
                go_region
                go_wp2_with fail
                go_roundw
                case rel => exact FIN.out _ _ HST.out HB5.out HB6.out hbn
                case measure => simp [intOf]; omega
            · by_cases hle : (p : Int) ≤ y
              · obtain ⟨q, rfl⟩ : ∃ q : Nat, y = (q : Int) := ⟨y.toNat, by omega⟩
                have hst := hdif.step (g' := fun o => Sp.cvTo ls k o + Sp.cvL (l.take (i + 1)) o) p q (by omega) (fun o ho => by
                  rw [Sp.cvL_take l i hlt2 o, HXY.out, Int.add_assoc]
                  congr 2
                  unfold Sp.cvS
                  by_cases hq : p ≤ o ∧ o ≤ q
                  · rw [if_pos hq, if_pos (by show (p : Int) ≤ (o : Int) ∧ (o : Int) ≤ (q : Int); omega)]
                  · rw [if_neg hq, if_neg (by show ¬ ((p : Int) ≤ (o : Int) ∧ (o : Int) ≤ (q : Int)); omega)])
                have hbp := hdif.2 p
                have hbq1 := hdif.2 (q + 1)
                have y1 := hC1'.nar_cell p (by omega)
                have y2 := hC1'.free p
                have y3 := (hC1'.nar_put p (c p + 1)).nar_cell (q + 1) (by omega)
                have y4 := (hC1'.nar_put p (c p + 1)).free (q + 1)
                have y5 := hC1'.nar_cell (q + 1) (by omega)
                have y6 := hC1'.free (q + 1)
                rw [if_neg (show ¬ (q + 1 = p) from by omega)] at y3
                have B5 := ((hC1'.nar_put p (c p + 1)).nar_put (q + 1) (c (q + 1) - 1)).drew
                have B6 := ((hC0'.far (p := ⟨w.heap.size + 1, p, none⟩) (by show w.heap.size ≠ w.heap.size + 1; omega) (.int .i64 (c p + 1))).far (p := ⟨w.heap.size + 1, q + 1, none⟩) (by show w.heap.size ≠ w.heap.size + 1; omega) (.int .i64 (c (q + 1) - 1))).drew
                have b6 := ((hbn0.setCell (p := ⟨w.heap.size + 1, p, none⟩) (by show w.heap.size ≤ w.heap.size + 1; omega) (.int .i64 (c p + 1))).setCell (p := ⟨w.heap.size + 1, q + 1, none⟩) (by show w.heap.size ≤ w.heap.size + 1; omega) (.int .i64 (c (q + 1) - 1))).drew
                obtain ⟨u, hu⟩ : ∃ u, c p = u := ⟨_, rfl⟩
                obtain ⟨v, hv⟩ : ∃ v, c (q + 1) = v := ⟨_, rfl⟩
                rw [hu] at y1 y3 y4 hbp B5 B6 b6 hst
                rw [hv] at y3 y5 hbq1 B5 B6 b6 hst
                have HB5 := Lib.hid B5
                have HB6 := Lib.hid B6
                have HST := Lib.hid hst
                clear B5 B6 hst hC0' hdif hu hv hC1'
                go_wp2_with fail
                rw [HW1.out]
                go_region
                go_wp2_with fail
                go_roundw
                case rel => exact FIN.out _ _ HST.out HB5.out HB6.out b6
                case measure => simp [intOf]; omega
              · have hst := hdif.same (m := Sp.totTo ls k + i + 1) (g' := fun o => Sp.cvTo ls k o + Sp.cvL (l.take (i + 1)) o) (by omega) (fun o ho => by
                  rw [Sp.cvL_take l i hlt2 o, HXY.out]
                  unfold Sp.cvS
                  rw [if_neg (by show ¬ ((p : Int) ≤ (o : Int) ∧ (o : Int) ≤ y); omega), Int.add_zero])
                have HST := Lib.hid hst
                have HB5 := Lib.hid hC1'.drew
                have HB6 := Lib.hid hC0'.drew
                have hbn := hbn0.drew
                clear hst hC0' hdif hC1'
                go_wp2_with fail
                rw [HW1.out]
                go_region
                go_wp2_with fail
                go_roundw
                case rel => exact FIN.out _ _ HST.out HB5.out HB6.out hbn
                case measure => simp [intOf]; omega
        · have hil : i = l.length := by omega
          subst hil
          have HD2 := Lib.hid (HNX.out c hdif)
          have HC1 := Lib.hid hC1
          have HC0 := Lib.hid hC0
          clear hdif hC1 hC0
          go_wp2_with fail
          go_roundw
          case rel => exact ⟨k + 1, c, by omega, by go_num, HD2.out, HC1.out, HC0.out, hbq⟩
          case measure => simp [intOf]; omega
    · have hkl : k = ls.length := by omega
      subst hkl
      have hg : ∀ o, o < 256 → Sp.sumTo c o + c o = Sp.cvTo ls ls.length o := fun o ho => hdif.1 o ho
      have hgb : ∀ o, 0 ≤ Sp.cvTo ls ls.length o ∧ Sp.cvTo ls ls.length o ≤ 9223372036854775807 := fun o => by
        have h1 := Sp.cvTo_bd ls o ls.length
        rw [Sp.totTo_all] at h1
        omega
      have hov := HOV0.out
      have hgs : ∀ o, o ≤ 256 → 0 ≤ Sp.sumTo c o ∧ Sp.sumTo c o ≤ 9223372036854775807 := fun o ho => by
        cases o with
        | zero => exact ⟨Int.le_refl _, by show (0 : Int) ≤ _; omega⟩
        | succ m =>
          have h1 := hdif.1 m (by omega)
          have h2 := hgb m
          omega
      obtain ⟨G, hG⟩ : ∃ G, Sp.cvTo ls ls.length = G := ⟨_, rfl⟩
      rw [hG] at hg hgb hov
      have HG := Lib.hid hg
      have HGB := Lib.hid hgb
      have HGS := Lib.hid hgs
      have HOV := Lib.hid hov
      have HB1 := Lib.hid hB1
      have HB0 := Lib.hid hB0
      have hlt1 := hB1.lt
      obtain ⟨gN, hgN⟩ : ∃ gN, wr.heap.size = gN := ⟨_, rfl⟩
      have hNew := Blk.new wr 61 (Sp.arr fun _ => false)
      have hz := hbw.size
      rw [hgN] at hNew hlt1 hz
      clear hg hgb hgs hov hdif hB1 hB0 hG
      go_wp2_with fail
      rw [set_zero]
      go_loopw [11, 47] (fun s11 s47 wq => ∃ o : Nat, o ≤ 256 ∧ s47 = .int .i64 (o : Int) ∧ s11 = .int .i64 (Sp.sumTo c o) ∧ Blk wq gN 61 (Sp.arr fun j => decide (j < o) && F j) ∧ Blk wq (w.heap.size + 1) 68 (Sp.nar c) ∧ Blk wq w.heap.size 61 (Sp.arr fun _ => false) ∧ Below w.heap.size w wq) (fun _ s47 _ => 256 - (intOf s47).toNat)
      case atStart => exact ⟨0, by omega, rfl, rfl, hNew.marks_same (fun i _ => by rw [decide_eq_false (by omega), Bool.false_and]), HB1.out.alloc _, HB0.out.alloc _, below_new hbw _⟩
      case round =>
        obtain ⟨o, ho, rfl, rfl, hN, hC1, hC0, hbq⟩ := hrel
        clear HB1 HB0
        by_cases hlt2 : o < 256
        · have y1 := hC1.nar_cell o (by omega)
          have y0 := hN.marks_cell o hlt2
          have y2 := hN.free o
          have hj0 : (0 : Int) ≤ (o : Int) := by omega
          have hj1 : (o : Int) < 256 := by omega
          have hj2 : (o : Int) < 257 := by omega
          have hs1 := HGS.out o (by omega)
          have hs2 := HG.out o hlt2
          have hs3 := HGB.out o
          have hs4 := HOV.out o
          have hnx : ∀ x, x = F o → ∀ j, j < 256 → (if j = o then x else (decide (j < o) && F j)) = (decide (j < o + 1) && F j) := fun x hx j _ => by
            by_cases e : j = o
            · rw [if_pos e, e, decide_eq_true (by omega), Bool.true_and, hx]
            · rw [if_neg e]
              congr 1
              rw [Bool.eq_iff_iff, decide_eq_true_eq, decide_eq_true_eq]
              omega
          have hsn : Sp.sumTo c (o + 1) = Sp.sumTo c o + c o := rfl
          obtain ⟨s, hs⟩ : ∃ s, Sp.sumTo c o = s := ⟨_, rfl⟩
          obtain ⟨d, hd⟩ : ∃ d, c o = d := ⟨_, rfl⟩
          rw [hs] at hs1 hs2 hsn
          rw [hs]
          rw [hd] at y1 hs2 hsn
          rw [← hs2] at hs3 hs4
          cases hf : F o
          · rw [hf] at hs4 hnx
            have hp : s + d ≤ 0 := by have := of_decide_eq_false hs4; omega
            have B7 := (hN.marks_put o hlt2 false).marks_same (hnx false rfl)
            have B8 := hC1.far (p := ⟨gN, o, none⟩) (by show w.heap.size + 1 ≠ gN; omega) (.bool false)
            have B9 := hC0.far (p := ⟨gN, o, none⟩) (by show w.heap.size ≠ gN; omega) (.bool false)
            have b9 := hbq.setCell (p := ⟨gN, o, none⟩) hz (.bool false)
            have HB7 := Lib.hid B7
            have HB8 := Lib.hid B8
            have HB9 := Lib.hid B9
            have HSN := Lib.hid hsn
            clear hnx hN hC1 hC0 hs2 hf hs hd B7 B8 B9 hsn
            go_wp2_with fail
            go_roundw
            case rel => exact ⟨o + 1, by omega, by go_num, by rw [HSN.out], HB7.out, HB8.out, HB9.out, b9⟩
            case measure => simp [intOf]; omega
          · rw [hf] at hs4 hnx
            have hp : 0 < s + d := of_decide_eq_true hs4
            have B7 := (hN.marks_put o hlt2 true).marks_same (hnx true rfl)
            have B8 := hC1.far (p := ⟨gN, o, none⟩) (by show w.heap.size + 1 ≠ gN; omega) (.bool true)
            have B9 := hC0.far (p := ⟨gN, o, none⟩) (by show w.heap.size ≠ gN; omega) (.bool true)
            have b9 := hbq.setCell (p := ⟨gN, o, none⟩) hz (.bool true)
            have HB7 := Lib.hid B7
            have HB8 := Lib.hid B8
            have HB9 := Lib.hid B9
            have HSN := Lib.hid hsn
            clear hnx hN hC1 hC0 hs2 hf hs hd B7 B8 B9 hsn
            go_wp2_with fail
            go_roundw
            case rel => exact ⟨o + 1, by omega, by go_num, by rw [HSN.out], HB7.out, HB8.out, HB9.out, b9⟩
            case measure => simp [intOf]; omega
        · have ho256 : o = 256 := by omega
          subst ho256
          have hN2 := hN.marks_same (f' := F) (fun i hi => by rw [decide_eq_true hi, Bool.true_and])
          clear hN hC1
          go_wp2_with (first | (refine wpList_load_row rfl 61 _ rfl gN rfl 61 _ (0, 0) _ hN2 Try.underlying61 rfl (by rw [Sp.arr_size]; exact infoSet) ?_) | (refine wpList_store_row rfl 61 _ _ rfl w.heap.size _ rfl rfl 61 _ hC0 (by rw [Sp.arr_size]; exact infoSet) (by rw [Sp.arr_size, Sp.arr_size]) (one_marks _) ?_))
          refine bodyPost_ret (v := .agg (Sp.arr F)) (results_cell_row rfl _ _ w.heap.size 61 (Sp.arr F) (0, 0) _ rfl (setRow_heap _ _ _ _ _ _ hC0) Try.underlying61 rfl (by rw [Sp.arr_size]; exact infoSet)) rfl ⟨rfl, below_setRow hbq (Nat.le_refl _) _⟩

end Go.Proofs.Ytbpgofgdlikedaa
namespace Go.Proofs.Ytbpgofgdlikedaa
namespace Sp

/-- The objects of a set, up to k, rising. -/
def obTo (f : Nat → Bool) : Nat → List Int
  | 0 => []
  | k + 1 => obTo f k ++ (if f k = true then [(k : Int)] else [])
def obL (f : Nat → Bool) : List Int := obTo f 256
theorem obTo_yes (f : Nat → Bool) (k : Nat) (h : f k = true) : obTo f (k + 1) = obTo f k ++ [(k : Int)] := by rw [obTo, if_pos h]
theorem obTo_no (f : Nat → Bool) (k : Nat) (h : f k = false) : obTo f (k + 1) = obTo f k := by rw [obTo, if_neg (by rw [h]; simp), List.append_nil]
theorem obTo_len (f : Nat → Bool) : ∀ k, (obTo f k).length = szTo f k
  | 0 => rfl
  | k + 1 => by
    rcases two (f k) with h | h
    · rw [obTo_yes f k h, List.length_append, obTo_len f k, szTo, if_pos h]
      rfl
    · rw [obTo_no f k h, obTo_len f k, szTo, if_neg (by rw [h]; simp)]
theorem obL_len (f : Nat → Bool) : (obL f).length = sz f := obTo_len f 256
theorem obTo_pre (f : Nat → Bool) (k : Nat) : ∀ m, k ≤ m → obTo f k <+: obTo f m
  | 0, h => by rw [Nat.le_zero.1 h]; exact List.prefix_rfl
  | m + 1, h => by
    rcases Nat.lt_or_ge m k with h1 | h1
    · rw [show k = m + 1 from by omega]; exact List.prefix_rfl
    · exact (obTo_pre f k m h1).trans ⟨_, rfl⟩
theorem obTo_gap (f : Nat → Bool) (m : Nat) : ∀ n, m ≤ n → (∀ p, m ≤ p → p < n → f p = false) → obTo f n = obTo f m
  | 0, h, _ => by rw [Nat.le_zero.1 h]
  | n + 1, h, hf => by
    rcases Nat.lt_or_ge n m with h1 | h1
    · rw [show m = n + 1 from by omega]
    · rw [obTo_no f n (hf n h1 (by omega)), obTo_gap f m n h1 (fun p h2 h3 => hf p h2 (by omega))]

/-- The last that has come; -1 if none has. -/
def lastOf (pre : List Int) : Int := pre.getLast?.getD (-1)
theorem lastOf_snoc (pre : List Int) (x : Int) : lastOf (pre ++ [x]) = x := by unfold lastOf; rw [List.getLast?_concat]; rfl
theorem pre_at (f : Nat → Bool) (pre : List Int) : ∀ k, pre <+: obTo f k → ∃ m, m ≤ k ∧ lastOf pre = (m : Int) - 1 ∧ pre = obTo f m ∧ (0 < m → f (m - 1) = true)
  | 0, h => by
    have : pre = [] := List.prefix_nil.1 h
    subst this
    exact ⟨0, Nat.le_refl _, rfl, rfl, fun h => by omega⟩
  | k + 1, h => by
    rcases two (f k) with hf | hf
    · rw [obTo_yes f k hf] at h
      rcases List.prefix_concat_iff.1 h with h | h
      · refine ⟨k + 1, Nat.le_refl _, ?_, by rw [obTo_yes f k hf]; exact h, fun _ => hf⟩
        rw [h, lastOf_snoc]
        omega
      · obtain ⟨m, h1, h2, h3, h4⟩ := pre_at f pre k h
        exact ⟨m, by omega, h2, h3, h4⟩
    · rw [obTo_no f k hf] at h
      obtain ⟨m, h1, h2, h3, h4⟩ := pre_at f pre k h
      exact ⟨m, by omega, h2, h3, h4⟩
theorem lastOf_bd (f : Nat → Bool) (pre : List Int) (h : pre <+: obL f) : -1 ≤ lastOf pre ∧ lastOf pre ≤ 255 := by
  obtain ⟨m, h1, h2, _, _⟩ := pre_at f pre 256 h
  omega
/-- Which is the next one? -/
theorem next_iff (f : Nat → Bool) (pre : List Int) (x : Int) (h : pre <+: obL f) :
    pre ++ [x] <+: obL f ↔ lastOf pre < x ∧ x ≤ 255 ∧ f x.toNat = true ∧ ∀ p : Nat, lastOf pre < (p : Int) → (p : Int) < x → f p = false := by
  obtain ⟨m, h1, h2, h3, _⟩ := pre_at f pre 256 h
  constructor
  · intro hx
    obtain ⟨n, g1, g2, g3, g4⟩ := pre_at f (pre ++ [x]) 256 hx
    rw [lastOf_snoc] at g2
    have hn : 0 < n := by
      cases n with
      | zero => simp [obTo] at g3
      | succ n => omega
    obtain ⟨k, rfl⟩ : ∃ k, n = k + 1 := ⟨n - 1, by omega⟩
    have hk : f k = true := g4 hn
    have e1 : pre = obTo f k := by
      rw [obTo_yes f k hk] at g3
      exact List.append_inj_left' g3 rfl
    have lm : ∀ a c, a ≤ c → (obTo f a).length ≤ (obTo f c).length := fun a c hac => (obTo_pre f a c hac).length_le
    have lk : (obTo f (k + 1)).length = (obTo f k).length + 1 := by rw [obTo_yes f k hk]; simp
    have e2 : (obTo f m).length = (obTo f k).length := by rw [← h3, ← e1]
    have hmk : m ≤ k := by
      rcases Nat.lt_or_ge k m with hlt | hge
      · have := lm (k + 1) m (by omega)
        omega
      · exact hge
    refine ⟨by omega, by omega, by rw [show x.toNat = k from by omega]; exact hk, fun p hp1 hp2 => ?_⟩
    rcases two (f p) with hp | hp
    · have l1 : (obTo f (p + 1)).length = (obTo f p).length + 1 := by rw [obTo_yes f p hp]; simp
      have l2 := lm m p (by omega)
      have l3 := lm (p + 1) k (by omega)
      omega
    · exact hp
  · rintro ⟨a1, a2, a3, a4⟩
    obtain ⟨k, rfl⟩ : ∃ k : Nat, x = (k : Int) := ⟨x.toNat, by omega⟩
    have hk : f k = true := a3
    have e1 : obTo f k = obTo f m := obTo_gap f m k (by omega) (fun p p1 p2 => a4 p (by omega) (by omega))
    rw [h3, ← e1, ← obTo_yes f k hk]
    exact obTo_pre f (k + 1) 256 (by omega)

end Sp
end Go.Proofs.Ytbpgofgdlikedaa
namespace Go.Proofs.Ytbpgofgdlikedaa
open Go.RowKit

/-- All cells stay, but in the blocks from n₀ up to B. -/
def KeepC (n₀ B : Nat) (W W' : World) : Prop := W.heap.size ≤ W'.heap.size ∧ ∀ k o, W.heap[k]? = some o → o.isCells = true → (k < n₀ ∨ B ≤ k) → W'.heap[k]? = some o
section
variable {n₀ B : Nat} {W W' : World}
theorem KeepC.refl (n₀ B : Nat) (W : World) : KeepC n₀ B W W := ⟨Nat.le_refl _, fun _ _ h _ _ => h⟩
theorem KeepC.trans {X Y Z : World} (h : KeepC n₀ B X Y) (k : KeepC n₀ B Y Z) : KeepC n₀ B X Z := ⟨Nat.le_trans h.1 k.1, fun i o h1 h2 h3 => k.2 i o (h.2 i o h1 h2 h3) h2 h3⟩
theorem KeepC.below (h : Below W.heap.size W W') : KeepC n₀ B W W' := ⟨h.size, fun i _ h1 _ _ => (h.block i (Array.getElem?_eq_some_iff.1 h1).1).trans h1⟩
theorem KeepC.set (W : World) (a : Addr) (v : Value) (h1 : n₀ ≤ a.block) (h2 : a.block < B) : KeepC n₀ B W (W.setCell a v) :=
  ⟨(KeepsOthers.setCell W a v).size, fun i _ hi _ h3 => (Below.heap_setCell W a v i (by omega)).trans hi⟩
theorem KeepC.mark (W : World) (l : Nat) (o o' : Obj) (h : W.heap[l]? = some o) (ho : o.isCells = false) : KeepC n₀ B W (W.putObj l o') :=
  ⟨by simp, fun i u hi hu _ => by
    by_cases e : l = i
    · subst e
      rw [h] at hi
      cases hi
      rw [ho] at hu
      cases hu
    · exact (World.putObj_heap_other (fun h => e h.symm)).trans hi⟩
theorem KeepC.cell (h : KeepC n₀ B W W') {a : Addr} {v : Value} (hc : W.cell? a = some v) (ha : a.block < n₀ ∨ B ≤ a.block) : W'.cell? a = some v := by
  obtain ⟨o, ho, hoc⟩ := cells_of_cell hc
  exact (World.cell?_of_block ((h.2 _ _ ho hoc ha).trans ho.symm)).trans hc
end

/-- What a round is told: an object. -/
def told1 (x : Int) : Array Value := #[.int .i64 x]
def tellO (x : Fin 256) : Array Value := #[.int .i64 (x.val : Int)]

namespace Sp
theorem good_sorted {l : List (Int × Int)} (h : good 256 l) (i : Nat) : ∀ j, i < j → j < l.length → (l.getD i (0, 0)).2 + 1 < (l.getD j (0, 0)).1
  | 0, h1, _ => by omega
  | j + 1, h1, h2 => by
    have h3 : (l.getD j (0, 0)).2 + 1 < (l.getD (j + 1) (0, 0)).1 := (h (j + 1) h2).2.2.2 (by omega)
    rcases Nat.lt_or_ge i j with h4 | h4
    · have := good_sorted h i j h4 (by omega)
      have := (h j (by omega)).2.1
      omega
    · rw [show i = j from by omega]
      exact h3
theorem inL_at (l : List (Int × Int)) (o : Nat) : inL l o = true ↔ ∃ j, j < l.length ∧ (l.getD j (0, 0)).1 ≤ (o : Int) ∧ (o : Int) ≤ (l.getD j (0, 0)).2 := by
  rw [inL_iff]
  constructor
  · rintro ⟨s, h1, h2⟩
    obtain ⟨j, hj, rfl⟩ := List.getElem_of_mem h1
    exact ⟨j, hj, by rw [List.getD_eq_getElem?_getD, List.getElem?_eq_getElem hj]; exact h2⟩
  · rintro ⟨j, hj, h2⟩
    rw [List.getD_eq_getElem?_getD, List.getElem?_eq_getElem hj, Option.getD_some] at h2
    exact ⟨_, List.getElem_mem hj, h2⟩
/-- Where the first k spans of a formed list end. -/
def endTo (l : List (Int × Int)) : Nat → Nat
  | 0 => 0
  | k + 1 => ((l.getD k (0, 0)).2 + 1).toNat
theorem endTo_bd (f : Nat → Bool) : ∀ k, k ≤ (ofL f).length → endTo (ofL f) k ≤ 256
  | 0, _ => Nat.zero_le _
  | k + 1, h => by
    have := (good_ofL f k h).2.2.1
    show ((((ofL f)).getD k (0, 0)).2 + 1).toNat ≤ 256
    omega
theorem span_in (f : Nat → Bool) (k : Nat) (hk : k < (ofL f).length) (p : Nat) (h1 : ((ofL f).getD k (0, 0)).1 ≤ (p : Int)) (h2 : (p : Int) ≤ ((ofL f).getD k (0, 0)).2) : f p = true := by
  have h3 := (good_ofL f k hk).2.2.1
  rw [← inL_ofL f p (by omega)]
  exact (inL_at _ _).2 ⟨k, hk, h1, h2⟩
theorem gap_out (f : Nat → Bool) (k : Nat) (p : Nat) (hp : p < 256) (h1 : endTo (ofL f) k ≤ p) (h2 : k < (ofL f).length → (p : Int) < ((ofL f).getD k (0, 0)).1) (hk : k ≤ (ofL f).length) : f p = false := by
  rcases two (f p) with h | h
  · rw [← inL_ofL f p hp] at h
    obtain ⟨j, hj, q1, q2⟩ := (inL_at _ _).1 h
    rcases Nat.lt_or_ge j k with h3 | h3
    · obtain ⟨m, rfl⟩ : ∃ m, k = m + 1 := ⟨k - 1, by omega⟩
      have h4 : (((ofL f)).getD m (0, 0)).2 + 1 ≤ (p : Int) := by
        have : ((((ofL f)).getD m (0, 0)).2 + 1).toNat ≤ p := h1
        omega
      rcases Nat.lt_or_ge j m with h5 | h5
      · have := good_sorted (good_ofL f) j m h5 (by omega)
        have := (good_ofL f m (by omega)).2.1
        omega
      · rw [show j = m from by omega] at q2
        omega
    · have h4 := h2 (by omega)
      rcases Nat.lt_or_ge k j with h5 | h5
      · have := good_sorted (good_ofL f) k j h5 hj
        have := (good_ofL f k (by omega)).2.1
        omega
      · rw [show j = k from by omega] at q1
        omega
  · exact h
/-- What has come when the objects up to k are over. -/
def comesO {α : Type} (g : Nat → α) (f : Nat → Bool) : Nat → List α
  | 0 => []
  | k + 1 => comesO g f k ++ (if f k = true then [g k] else [])
section
variable {α : Type} (g : Nat → α) (f : Nat → Bool)
theorem comesO_yes (k : Nat) (h : f k = true) : comesO g f (k + 1) = comesO g f k ++ [g k] := by rw [comesO, if_pos h]
theorem comesO_no (k : Nat) (h : f k = false) : comesO g f (k + 1) = comesO g f k := by rw [comesO, if_neg (by rw [h]; simp), List.append_nil]
theorem comesO_short : ∀ k, (comesO g f k).length ≤ k
  | 0 => Nat.le_refl _
  | k + 1 => by
    have := comesO_short k
    unfold comesO
    split <;> simp <;> omega
theorem comesO_pre (k : Nat) : ∀ m, k ≤ m → comesO g f k <+: comesO g f m
  | 0, h => by rw [Nat.le_zero.1 h]; exact List.prefix_rfl
  | m + 1, h => by
    rcases Nat.lt_or_ge m k with h1 | h1
    · rw [show k = m + 1 from by omega]; exact List.prefix_rfl
    · exact (comesO_pre k m h1).trans ⟨_, rfl⟩
theorem comesO_gap (m : Nat) : ∀ n, m ≤ n → (∀ p, m ≤ p → p < n → f p = false) → comesO g f n = comesO g f m
  | 0, h, _ => by rw [Nat.le_zero.1 h]
  | n + 1, h, hf => by
    rcases Nat.lt_or_ge n m with h1 | h1
    · rw [show m = n + 1 from by omega]
    · rw [comesO_no g f n (hf n h1 (by omega)), comesO_gap m n h1 (fun p h2 h3 => hf p h2 (by omega))]
theorem comesO_start (k : Nat) (hk : k < (ofL f).length) (o : Nat) (ho : (o : Int) = ((ofL f).getD k (0, 0)).1) : comesO g f o = comesO g f (endTo (ofL f) k) := by
  obtain ⟨g1, g2, g3, g4⟩ := good_ofL f k hk
  refine comesO_gap g f _ o ?_ fun p h1 h2 => gap_out f k p (by omega) h1 (fun _ => by omega) (by omega)
  cases k with
  | zero => exact Nat.zero_le _
  | succ m =>
    have h3 : ((ofL f).getD m (0, 0)).2 + 1 < ((ofL f).getD (m + 1) (0, 0)).1 := g4 (by omega)
    show ((((ofL f)).getD m (0, 0)).2 + 1).toNat ≤ o
    omega
theorem comesO_step (k : Nat) (hk : k < (ofL f).length) (o : Nat) (h1 : ((ofL f).getD k (0, 0)).1 ≤ (o : Int)) (h2 : (o : Int) ≤ ((ofL f).getD k (0, 0)).2) : comesO g f (o + 1) = comesO g f o ++ [g o] := comesO_yes g f o (span_in f k hk o h1 h2)
theorem comesO_end : comesO g f (endTo (ofL f) (ofL f).length) = comesO g f 256 :=
  (comesO_gap g f _ 256 (endTo_bd f _ (Nat.le_refl _)) fun p h1 h2 => gap_out f _ p h2 h1 (fun h => absurd h (Nat.lt_irrefl _)) (Nat.le_refl _)).symm
end
theorem comesO_obTo (f : Nat → Bool) : ∀ k, comesO (fun k => (k : Int)) f k = obTo f k
  | 0 => rfl
  | k + 1 => by rw [comesO, obTo, comesO_obTo f k]
theorem comesO_obL (f : Nat → Bool) : comesO (fun k => (k : Int)) f 256 = obL f := comesO_obTo f 256
/-- Object k, as one of 256. -/
def objF (k : Nat) : Fin 256 := ⟨k % 256, Nat.mod_lt _ (by omega)⟩
theorem objF_val {k : Nat} (h : k < 256) : (objF k).val = k := Nat.mod_eq_of_lt h
theorem comesO_mem (f : Nat → Bool) (i : Fin 256) : ∀ k, k ≤ 256 → (i ∈ comesO objF f k ↔ i.val < k ∧ f i.val = true)
  | 0, _ => by simp [comesO]
  | k + 1, h => by
    have ih := comesO_mem f i k (by omega)
    have hv := objF_val (k := k) (by omega)
    rw [comesO, List.mem_append, ih]
    constructor
    · rintro (⟨h1, h2⟩ | h1)
      · exact ⟨by omega, h2⟩
      · split at h1
        · rename_i hp
          rw [List.mem_singleton] at h1
          rw [h1, hv]
          exact ⟨by omega, hp⟩
        · cases h1
    · rintro ⟨h1, h2⟩
      rcases Nat.lt_or_ge i.val k with h3 | h3
      · exact .inl ⟨h3, h2⟩
      · have h4 : i.val = k := by omega
        rw [h4] at h2
        rw [if_pos h2]
        exact .inr (List.mem_singleton.2 (Fin.ext (by rw [hv]; exact h4)))
/-- Is object j among those that have come? -/
def hasF (pre : List (Fin 256)) (j : Nat) : Bool := pre.any fun i => decide (i.val = j)
theorem hasF_snoc (pre : List (Fin 256)) (x : Fin 256) (j : Nat) : hasF (pre ++ [x]) j = (hasF pre j || decide (x.val = j)) := by
  unfold hasF
  rw [List.any_append]
  simp
theorem hasF_all (f : Nat → Bool) (j : Nat) (hj : j < 256) : hasF (comesO objF f 256) j = f j := by
  rw [Bool.eq_iff_iff]
  unfold hasF
  rw [List.any_eq_true]
  constructor
  · rintro ⟨i, h1, h2⟩
    have h3 := ((comesO_mem f i 256 (Nat.le_refl _)).1 h1).2
    rw [of_decide_eq_true h2] at h3
    exact h3
  · intro h
    exact ⟨⟨j, hj⟩, (comesO_mem f ⟨j, hj⟩ 256 (Nat.le_refl _)).2 ⟨hj, h⟩, decide_eq_true rfl⟩
end Sp

end Go.Proofs.Ytbpgofgdlikedaa
