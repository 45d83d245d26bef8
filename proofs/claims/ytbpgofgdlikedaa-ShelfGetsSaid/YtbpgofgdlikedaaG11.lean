/-
  The function that shelf's each answers: whatever the loop's body does, the writes of a list come, with their objects.
  What the functions of package stamp (Compare, and Right beside it), those of telltaleref01, and cmp.Compare at int answer, for all arguments; each leaves the memory that was there as it was.
  What shelf's functions answer: contracts, one a function; what stands in all of shelf's laws.
  What shelf's right and allRight answer.
-/
import Derived.Test.YtbpgofgdlikedaaG10
import Derived.RangeFuncFrom
import Derived.RangeFuncNested
import Derived.RangeFuncBound
import Derived.RangeFuncCalls
import Derived.RangeFuncLeaves
import Derived.RangeFuncWrites
import Derived.Shelf.Abstract
import Derived.Shelf.RegionOpen
import Derived.OwnWalkIn
import Derived.TacticsInMore
import Derived.LoopNIn
import Derived.LoopIn
import Derived.WalkMore
import Derived.Test.YtbpgofgdlikedaaProg
import Derived.Tactics
import Derived.Tactics2
import Derived.WalkKit
import Derived.WalkSpells
import Derived.OwnWalk
import Derived.Deep.QuietTactic
import Derived.BigQuiet
import Derived.Deep.RegionHeld3
import Derived.KernelRfl
import Derived.Lib.Hide
import Derived.Test.YtbpgofgdlikedaaG05
namespace Go.Proofs.Ytbpgofgdlikedaa
open Go.RowKit Go.Shelf
attribute [local go_sem] Oper.semAt_some

/-- What a round is told: an object, a write. -/
def toldW (x : Wr) : Array Value := #[.int .i64 x.2.2.1, Nt.wrV x]
/-- The list lies where it lay. -/
def KeepL (A : Option Addr) (c : Nat) (l : List Wr) (W W' : World) : Prop := OneW W A c l → OneW W' A c l
theorem KeepL.trans {A : Option Addr} {c : Nat} {l : List Wr} {X Y Z : World} (h : KeepL A c l X Y) (h' : KeepL A c l Y Z) : KeepL A c l X Z := fun k => h' (h k)
theorem oneW_own {β : Type} (A : Option Addr) (c : Nat) (l : List Wr) : Own (fun (_ : β) W => OneW W A c l) := fun s X Y row h hg hr =>
  ⟨h.1, h.2.1, h.2.2.1, fun hne => by
    obtain ⟨b, off, hA, hc⟩ := h.2.2.2 hne
    exact ⟨b, off, hA, fun j u hu => cell_kept (hc j u hu) hg hr⟩⟩
theorem KeepL.put {A : Option Addr} {c : Nat} {l : List Wr} (W : World) (k : Nat) (o o' : Obj) (ho : W.heap[k]? = some o) (hc : o.isCells = false) : KeepL A c l W (W.putObj k o') :=
  fun h => oneW_own A c l () W _ (some k) h (grownBy_putObj' W k o') (fun r e => by cases e; exact ⟨o, ho, hc⟩)

set_option maxRecDepth 100000 in
set_option maxHeartbeats 3200000 in
theorem eachW_in {α : Type} (val : α → Wr) (xs : List α) (l : List Wr) (hl : xs.map val = l) (n : Nat) (hn : 1 ≤ n)
    (lb bl c s : Nat) (A : Option Addr) (J Jx : List α → World → Prop) (hJa : AbidesFrom s J)
    (hY : ∀ pre x W, J pre W → pre.length < l.length → YieldAt Fence.wide (n - 1) Try.prog lb (toldW (val x)) W fun e W' => (e = .returned (.bool true) ∧ J (pre ++ [x]) W' ∧ KeepL A c l W W') ∨ (e = .returned (.bool false) ∧ Jx (pre ++ [x]) W'))
    (W : World) (hL : OneW W A c l) (hb : W.cell? ⟨bl, 0, none⟩ = some (.slice A l.length c)) (h0 : J [] W) :
    CallsIn Fence.wide n Try.prog 31 #[.func (.yield lb) #[] #[], .pointer (some ⟨bl, 0, none⟩)] W fun e W' => (∃ v, e = .returned v) ∧
      ((∃ ys, ys = xs ∧ J ys W') ∨ (∃ pre, pre <+: xs ∧ Jx pre W')) := by
  have hlen := hL.len
  have hxl : xs.length = l.length := by rw [← hl, List.length_map]
  have hat : ∀ k, k < l.length → ∃ a, l.getD k Nt.zeroW = val a ∧ xs.take k ++ [a] = xs.take (k + 1) := fun k hk => by
    have hk2 : k < xs.length := by omega
    refine ⟨xs[k], ?_, (List.take_succ_eq_append_getElem hk2).symm⟩
    subst hl
    rw [List.getD_eq_getElem?_getD, List.getElem?_map, List.getElem?_eq_getElem hk2]
    rfl
  have hpr : ∀ k, xs.take k <+: xs := fun k => List.take_prefix k xs
  have hall : xs.take l.length = xs := by rw [← hxl, List.take_length]
  have hls : ∀ k, k < l.length → (xs.take k).length < l.length := fun k hk => by rw [List.length_take]; omega
  have HAT := Lib.hid hat
  have HPR := Lib.hid hpr
  have HALL := Lib.hid hall
  have HLS := Lib.hid hls
  have HJA := Lib.hid hJa
  clear hat hpr hall hJa hl hls hxl
  refine callsIn_of_wp Try.func31 rfl trivial ?_ rfl
  simp only [Try.ntmps31, List.size_toArray, List.length_cons, List.length_nil, Nat.reduceAdd, Nat.reduceSub, Array.replicate_succ, Array.replicate_zero, List.push_toArray, List.append_toArray, List.nil_append, List.cons_append]
  gi_wp2_with fail
  gi_loopw [7] (fun s7 wr => ∃ k : Nat, k ≤ l.length ∧ s7 = .int .i64 (k : Int) ∧ J (xs.take k) wr ∧ OneW wr A c l) (fun s7 _ => l.length - (intOf s7).toNat)
  case atStart => exact ⟨0, Nat.zero_le _, rfl, h0, hL⟩
  case round =>
    obtain ⟨k, hk, rfl, hJs, hLs⟩ := hrel
    clear hL
    by_cases hlt : k < l.length
    · have hne : l ≠ [] := fun e => by subst e; simp at hlt
      obtain ⟨b, off, hA, hcs⟩ := hLs.at hne
      obtain ⟨e0, e1, e2, e3⟩ := hcs k hlt
      have hi0 : (0 : Int) ≤ (k : Int) := by omega
      have hi1 : (k : Int) < (l.length : Int) := by omega
      obtain ⟨a, ha, hta⟩ := HAT.out k hlt
      obtain ⟨fn, tmps, assign, body, hy, hR⟩ := hY _ a (wr.alloc (.cells (Nt.wrArr (l.getD k Nt.zeroW)) 27)) (HJA.out _ _ _ none hJs (World.grownBy_alloc _ _ none) (fun r e => by cases e)) (HLS.out k hlt)
      rw [hta] at hR
      rw [← ha] at hy
      clear ha hta
      have hLs1 := hLs.later (below_new (Below.refl wr.heap.size wr) (.cells (Nt.wrArr (l.getD k Nt.zeroW)) 27))
      obtain ⟨x, hx⟩ : ∃ x, l.getD k Nt.zeroW = x := ⟨_, rfl⟩
      rw [hx] at e0 e1 e2 e3 hy hR hLs1
      obtain ⟨x0, x1, x2, x3⟩ := x
      unfold toldW Nt.wrV at hy
      unfold Nt.wrArr at hy hR hLs1
      dsimp only at e0 e1 e2 e3 hy hR hLs1
      have B2 := Blk.new wr 27 #[.int .i64 x0, .int .i64 x1, .int .i64 x2, .bool x3]
      have g0 := B2.cell (i := 0) rfl
      have g1 := B2.cell (i := 1) rfl
      have g2 := B2.cell (i := 2) rfl
      have g3 := B2.cell (i := 3) rfl
      have HL1 := Lib.hid hLs1
      subst hA
      clear B2 hcs hJs hLs hx hLs1 hY
      gi_wp2_with fail
      refine hR.mono ?_
      rintro e W3 (⟨rfl, hJ3, hk3⟩ | ⟨rfl, hJx3⟩)
      · clear hy hR fn tmps assign body e0 e1 e2 e3 g0 g1 g2 g3
        have hL3 := hk3 HL1.out
        gi_wp2_with fail
        go_roundw
        case rel => exact ⟨k + 1, by omega, by first | trivial | go_num, hJ3, hL3⟩
        case measure => simp [intOf]; omega
      · gi_wp2_with fail
        refine bodyPost_ret (results_none rfl _ _ _) rfl ?_
        exact ⟨⟨_, rfl⟩, .inr ⟨_, HPR.out (k + 1), hJx3⟩⟩
    · obtain rfl : k = l.length := by omega
      have hJx : J xs wr := by rw [← HALL.out]; exact hJs
      clear hJs
      gi_wp2
      go_end0
      exact ⟨⟨_, rfl⟩, .inl ⟨_, rfl, hJx⟩⟩

/-- A function over writes is answered. -/
def WalkerW (A : Option Addr) (c : Nat) (l : List Wr) (w : World) (e : Ending) (w1 : World) : Prop :=
  ∃ bl, e = .returned (.func (.func 31) #[] #[.pointer (some ⟨bl, 0, none⟩)]) ∧ w1.cell? ⟨bl, 0, none⟩ = some (.slice A l.length c) ∧ Below w.heap.size w w1

theorem each_any (A : Option Addr) (c : Nat) (l : List Wr) (w : World) : Calls Try.prog 20 #[.slice A l.length c] w (WalkerW A c l w) := by
  have FIN := Lib.hid (⟨_, rfl, (Blk.new w 22 #[.slice A l.length c]).cell (i := 0) rfl, below_new (Below.refl _ _) _⟩ : WalkerW A c l w (.returned (.func (.func 31) #[] #[.pointer (some ⟨w.heap.size, 0, none⟩)])) _)
  go_enter Try.func20, Try.ntmps20
  go_wp2
  go_ret
  exact FIN.out

theorem enters_eachW : ∀ args w, (callFunc 31 args).run Try.prog w = .ok (.enter 31 args) w :=
  enters_of Try.func31 (by kernel_rfl) rfl

/-- The loop over such a function. -/
theorem eachW_stops {α : Type} (val : α → Wr) (xs : List α) (l : List Wr) (hl : xs.map val = l) (n : Nat) (hn : 1 ≤ n) (bl c : Nat) (A : Option Addr) (w : World) (hL : OneW w A c l) (hb : w.cell? ⟨bl, 0, none⟩ = some (.slice A l.length c)) :
    SeqStopsK Fence.wide n Try.prog 31 #[.pointer (some ⟨bl, 0, none⟩)] (fun x => toldW (val x)) (KeepL A c l) (· = xs) (· <+: xs) l.length w :=
  fun lb J Jx W hW hJ _ hY h0 => eachW_in val xs l hl n hn lb bl c W.heap.size A J Jx hJ hY W (hL.later hW) (cell_later hW hb) h0
end Go.Proofs.Ytbpgofgdlikedaa
namespace Go.Proofs.Ytbpgofgdlikedaa
open Go.RowKit

theorem isNaN_any (a : Int) (w : World) : Calls Try.prog 40 #[.int .i64 a] w fun e w' => e = .returned (.bool false) ∧ w = w' := by
  go_enter Try.func40, Try.ntmps40
  go_wp2
  go_ret
  simp

theorem cmp_any (a b : Int) (w : World) : Calls Try.prog 39 #[.int .i64 a, .int .i64 b] w fun e w' => e = .returned (.int .i64 (St.cmpI a b)) ∧ w = w' := by
  rcases Int.lt_trichotomy a b with h | h | h
  · go_enter Try.func39, Try.ntmps39
    go_wp2_with (go_at_call 40; refine (isNaN_any _ _).mono ?_; rintro e w' ⟨rfl, rfl⟩)
    go_ret
    rw [St.cmpI_lt h]; exact ⟨rfl, rfl⟩
  · subst h
    go_enter Try.func39, Try.ntmps39
    go_wp2_with (go_at_call 40; refine (isNaN_any _ _).mono ?_; rintro e w' ⟨rfl, rfl⟩)
    go_ret
    rw [St.cmpI_eq rfl]; exact ⟨rfl, rfl⟩
  · have h2 : ¬ a < b := by omega
    go_enter Try.func39, Try.ntmps39
    go_wp2_with (go_at_call 40; refine (isNaN_any _ _).mono ?_; rintro e w' ⟨rfl, rfl⟩)
    go_ret
    rw [St.cmpI_gt h]; exact ⟨rfl, rfl⟩

/-- stamp.Compare. -/
theorem compare_any (c n c' n' : Int) (w : World) :
    Calls Try.prog 34 #[.agg #[.int .i64 c, .int .i64 n], .agg #[.int .i64 c', .int .i64 n']] w fun e w' => e = .returned (.int .i64 (St.cmpS c n c' n')) ∧ Below w.heap.size w w' := by
  rcases Int.lt_trichotomy c c' with h | h | h
  · have h1 : (St.cmpI c c' != 0) = true := by rw [St.cmpI_lt h]; rfl
    go_enter Try.func34, Try.ntmps34
    go_wp2_with (go_at_call 39; refine (cmp_any _ _ _).mono ?_; rintro e w' ⟨rfl, rfl⟩)
    go_ret
    rw [St.cmpI_lt h, St.cmpS_lt h]
    exact ⟨rfl, by repeat (first | exact Below.refl _ _ | exact Nat.le_refl _ | (apply Below.drew) | (refine Below.alloc ?_ ?_ _) | (refine Below.setCell ?_ ?_ _) | (simp; done) | (simp; omega))⟩
  · subst h
    have h1 : (St.cmpI c c != 0) = false := by rw [St.cmpI_eq rfl]; rfl
    go_enter Try.func34, Try.ntmps34
    go_wp2_with (go_at_call 39; refine (cmp_any _ _ _).mono ?_; rintro e w' ⟨rfl, rfl⟩)
    go_ret
    rw [St.cmpS_eq rfl]
    exact ⟨rfl, by repeat (first | exact Below.refl _ _ | exact Nat.le_refl _ | (apply Below.drew) | (refine Below.alloc ?_ ?_ _) | (refine Below.setCell ?_ ?_ _) | (simp; done) | (simp; omega))⟩
  · have h1 : (St.cmpI c c' != 0) = true := by rw [St.cmpI_gt h]; rfl
    go_enter Try.func34, Try.ntmps34
    go_wp2_with (go_at_call 39; refine (cmp_any _ _ _).mono ?_; rintro e w' ⟨rfl, rfl⟩)
    go_ret
    rw [St.cmpI_gt h, St.cmpS_gt h]
    exact ⟨rfl, by repeat (first | exact Below.refl _ _ | exact Nat.le_refl _ | (apply Below.drew) | (refine Below.alloc ?_ ?_ _) | (refine Below.setCell ?_ ?_ _) | (simp; done) | (simp; omega))⟩

theorem rcompare_lt (c n c' n' : Int) (w : World) (h : c < c') :
    Calls Try.prog 19 #[.agg #[.int .i64 c, .int .i64 n], .agg #[.int .i64 c', .int .i64 n']] w fun e w' => e = .returned (.int .i64 (St.cmpS c n c' n')) ∧ Below w.heap.size w w' := by
  have h0 : St.cmpS c n c' n' = -1 := by (first | rw [St.cmpS_lt (by omega)] | rw [St.cmpS_gt (by omega)] | (rw [St.cmpS_eq (by omega)]; first | exact St.cmpI_lt (by omega) | exact St.cmpI_eq (by omega) | exact St.cmpI_gt (by omega)))
  have H0 := Lib.hid h0; clear h0
  have hd : decide (c < c') = true := decide_eq_true h
  go_enter Try.func19, Try.ntmps19
  go_wp2
  go_ret
  rw [H0.out]
  exact ⟨rfl, by repeat (first | exact Below.refl _ _ | exact Nat.le_refl _ | (apply Below.drew) | (refine Below.alloc ?_ ?_ _) | (refine Below.setCell ?_ ?_ _) | (simp; done) | (simp; omega))⟩

theorem rcompare_gt (c n c' n' : Int) (w : World) (h : c' < c) :
    Calls Try.prog 19 #[.agg #[.int .i64 c, .int .i64 n], .agg #[.int .i64 c', .int .i64 n']] w fun e w' => e = .returned (.int .i64 (St.cmpS c n c' n')) ∧ Below w.heap.size w w' := by
  have h0 : St.cmpS c n c' n' = 1 := by (first | rw [St.cmpS_lt (by omega)] | rw [St.cmpS_gt (by omega)] | (rw [St.cmpS_eq (by omega)]; first | exact St.cmpI_lt (by omega) | exact St.cmpI_eq (by omega) | exact St.cmpI_gt (by omega)))
  have H0 := Lib.hid h0; clear h0
  have hd : decide (c < c') = false := decide_eq_false (by omega)
  have hd2 : (c == c') = false := beq_eq_false_iff_ne.2 (by omega)
  go_enter Try.func19, Try.ntmps19
  go_wp2
  go_ret
  rw [H0.out]
  exact ⟨rfl, by repeat (first | exact Below.refl _ _ | exact Nat.le_refl _ | (apply Below.drew) | (refine Below.alloc ?_ ?_ _) | (refine Below.setCell ?_ ?_ _) | (simp; done) | (simp; omega))⟩

theorem rcompare_nlt (c n c' n' : Int) (w : World) (h : c = c') (hn : n < n') :
    Calls Try.prog 19 #[.agg #[.int .i64 c, .int .i64 n], .agg #[.int .i64 c', .int .i64 n']] w fun e w' => e = .returned (.int .i64 (St.cmpS c n c' n')) ∧ Below w.heap.size w w' := by
  have h0 : St.cmpS c n c' n' = -1 := by (first | rw [St.cmpS_lt (by omega)] | rw [St.cmpS_gt (by omega)] | (rw [St.cmpS_eq (by omega)]; first | exact St.cmpI_lt (by omega) | exact St.cmpI_eq (by omega) | exact St.cmpI_gt (by omega)))
  have H0 := Lib.hid h0; clear h0
  have hd : decide (c < c') = false := decide_eq_false (by omega)
  have hd2 : (c == c') = true := beq_iff_eq.2 h
  have hd3 : decide (n < n') = true := decide_eq_true hn
  clear h
  go_enter Try.func19, Try.ntmps19
  go_wp2
  go_ret
  rw [H0.out]
  exact ⟨rfl, by repeat (first | exact Below.refl _ _ | exact Nat.le_refl _ | (apply Below.drew) | (refine Below.alloc ?_ ?_ _) | (refine Below.setCell ?_ ?_ _) | (simp; done) | (simp; omega))⟩

theorem rcompare_ngt (c n c' n' : Int) (w : World) (h : c = c') (hn : n' < n) :
    Calls Try.prog 19 #[.agg #[.int .i64 c, .int .i64 n], .agg #[.int .i64 c', .int .i64 n']] w fun e w' => e = .returned (.int .i64 (St.cmpS c n c' n')) ∧ Below w.heap.size w w' := by
  have h0 : St.cmpS c n c' n' = 1 := by (first | rw [St.cmpS_lt (by omega)] | rw [St.cmpS_gt (by omega)] | (rw [St.cmpS_eq (by omega)]; first | exact St.cmpI_lt (by omega) | exact St.cmpI_eq (by omega) | exact St.cmpI_gt (by omega)))
  have H0 := Lib.hid h0; clear h0
  have hd : decide (c < c') = false := decide_eq_false (by omega)
  have hd2 : (c == c') = true := beq_iff_eq.2 h
  have hd3 : decide (n < n') = false := decide_eq_false (by omega)
  have hd4 : (n == n') = false := beq_eq_false_iff_ne.2 (by omega)
  clear h
  go_enter Try.func19, Try.ntmps19
  go_wp2
  go_ret
  rw [H0.out]
  exact ⟨rfl, by repeat (first | exact Below.refl _ _ | exact Nat.le_refl _ | (apply Below.drew) | (refine Below.alloc ?_ ?_ _) | (refine Below.setCell ?_ ?_ _) | (simp; done) | (simp; omega))⟩

theorem rcompare_eq (c n c' n' : Int) (w : World) (h : c = c') (hn : n = n') :
    Calls Try.prog 19 #[.agg #[.int .i64 c, .int .i64 n], .agg #[.int .i64 c', .int .i64 n']] w fun e w' => e = .returned (.int .i64 (St.cmpS c n c' n')) ∧ Below w.heap.size w w' := by
  have h0 : St.cmpS c n c' n' = 0 := by (first | rw [St.cmpS_lt (by omega)] | rw [St.cmpS_gt (by omega)] | (rw [St.cmpS_eq (by omega)]; first | exact St.cmpI_lt (by omega) | exact St.cmpI_eq (by omega) | exact St.cmpI_gt (by omega)))
  have H0 := Lib.hid h0; clear h0
  have hd : decide (c < c') = false := decide_eq_false (by omega)
  have hd2 : (c == c') = true := beq_iff_eq.2 h
  have hd3 : decide (n < n') = false := decide_eq_false (by omega)
  have hd4 : (n == n') = true := beq_iff_eq.2 hn
  clear h hn
  go_enter Try.func19, Try.ntmps19
  go_wp2
  go_ret
  rw [H0.out]
  exact ⟨rfl, by repeat (first | exact Below.refl _ _ | exact Nat.le_refl _ | (apply Below.drew) | (refine Below.alloc ?_ ?_ _) | (refine Below.setCell ?_ ?_ _) | (simp; done) | (simp; omega))⟩

/-- telltaleref01's Compare. -/
theorem rcompare_any (c n c' n' : Int) (w : World) :
    Calls Try.prog 19 #[.agg #[.int .i64 c, .int .i64 n], .agg #[.int .i64 c', .int .i64 n']] w fun e w' => e = .returned (.int .i64 (St.cmpS c n c' n')) ∧ Below w.heap.size w w' := by
  rcases Int.lt_trichotomy c c' with h | h | h
  · exact rcompare_lt c n c' n' w h
  · rcases Int.lt_trichotomy n n' with hn | hn | hn
    · exact rcompare_nlt c n c' n' w h hn
    · exact rcompare_eq c n c' n' w h hn
    · exact rcompare_ngt c n c' n' w h hn
  · exact rcompare_gt c n c' n' w h

end Go.Proofs.Ytbpgofgdlikedaa
namespace Go.Proofs.Ytbpgofgdlikedaa
open Go.RowKit

structure ShelfSpec : Prop where
  formed : ∀ (A : Option Addr) (c : Nat) (l : List Wr) (w : World), OneW w A c l → Calls Try.prog 11 #[.slice A l.length c] w (Says (.bool (Sf.fmd l)) w)
  get : ∀ (A : Option Addr) (c : Nat) (l : List Wr) (o : Int) (w : World), OneW w A c l → Calls Try.prog 9 #[.slice A l.length c, .int .i64 o] w (Says (.tuple #[Nt.wrV (Sf.getR l o).1, .int .i64 (Sf.getR l o).2]) w)
  put : ∀ (A B : Option Addr) (c d : Nat) (l r : List Wr) (w : World), r.length * 32 ≤ 140737488355328 → OneW w A c l → OneW w B d r → Calls Try.prog 13 #[.slice A l.length c, .slice B r.length d] w (AnsWE (Sf.putR l r).1 (Sf.putR l r).2 w)
  within : ∀ (A B : Option Addr) (c d : Nat) (l : List Wr) (s : List (Int × Int)) (w : World), OneW w A c l → OneL w B d s → Calls Try.prog 16 #[.slice A l.length c, .slice B s.length d] w (AnsWE (Sf.withR l s).1 (Sf.withR l s).2 w)

def aliveW : List Wr := [(5, 0, 3, false), (6, 1, 3, false), (6, 0, 3, false)]
theorem Sf.alive_put : Sf.putR [] aliveW = ([(6, 1, 3, false)], 0) := by decide +kernel

set_option maxRecDepth 100000 in
set_option maxHeartbeats 3200000 in
theorem sfalive_any (SS : ShelfSpec) (w : World) : Calls Try.prog 8 #[] w (Says (.bool true) w) := by
  obtain ⟨W, hW⟩ : ∃ W, w.alloc (.cells #[.int .i64 5, .int .i64 0, .int .i64 3, .bool false, .int .i64 6, .int .i64 1, .int .i64 3, .bool false, .int .i64 6, .int .i64 0, .int .i64 3, .bool false] 27) = W := ⟨_, rfl⟩
  have b1 : Below w.heap.size w W := by rw [← hW]; exact below_new (Below.refl _ _) _
  have hB : Blk W w.heap.size 27 #[.int .i64 5, .int .i64 0, .int .i64 3, .bool false, .int .i64 6, .int .i64 1, .int .i64 3, .bool false, .int .i64 6, .int .i64 0, .int .i64 3, .bool false] := by rw [← hW]; exact Blk.new w _ _
  have hO : OneW W (some ⟨w.heap.size, 0, none⟩) 3 aliveW := ⟨Nat.le_refl _, by unfold maxLen; omega, (fun h => by cases h), fun _ => ⟨w.heap.size, 0, rfl, fun j u hu => by
    rw [Nat.zero_add]
    exact hB.cell (by simpa [Nt.wrCells, Nt.wrCell, aliveW] using hu)⟩⟩
  have n1 := SS.put none _ 0 3 [] aliveW W (by decide) OneW.nil hO
  rw [Sf.alive_put] at n1
  have N1 := Lib.hid (show Calls Try.prog 13 #[.slice none 0 0, .slice (some ⟨w.heap.size, 0, none⟩) 3 3] W (AnsWE [(6, 1, 3, false)] 0 W) from n1)
  have BB := Lib.hid b1
  have HW := Lib.hid hW
  clear n1 b1 hB hO hW
  go_enter Try.func8, Try.ntmps8
  go_wp2_with fail
  rw [HW.out]
  refine N1.out.mono ?_
  intro e w2 h
  obtain ⟨A, c, rfl, hO, b2⟩ := h
  have BB2 := Lib.hid (below_on BB.out b2)
  obtain ⟨b, off, hA, hc⟩ := hO.at (by simp)
  obtain ⟨e0, e1, e2, e3⟩ := hc 0 (by simp)
  subst hA
  simp only [Nat.zero_mul, Nat.add_zero] at e0 e1 e2 e3
  clear hO hc b2 N1 BB HW
  go_wp2
  go_ret
  exact ⟨rfl, BB2.out⟩
end Go.Proofs.Ytbpgofgdlikedaa
namespace Go.Proofs.Ytbpgofgdlikedaa
open Go.RowKit Go.Shelf
attribute [local go_sem] Oper.semAt_some

set_option maxHeartbeats 1600000 in
theorem sdright_any (x : Wr) (w : World) : Calls Try.prog 22 #[Nt.wrV x] w (Says (.bool (Sf.right x)) w) := by
  obtain ⟨x0, x1, x2, x3⟩ := x
  unfold Nt.wrV
  have b0 := below_new (Below.refl w.heap.size w) (.cells #[.int .i64 x0, .int .i64 x1, .int .i64 x2, .bool x3] 27)
  by_cases h0 : 0 ≤ x2
  · have d0 : decide (0 ≤ x2) = true := decide_eq_true h0
    by_cases h1 : x2 < 256
    · have d1 : decide (x2 < 256) = true := decide_eq_true h1
      have hR : Sf.right (x0, x1, x2, x3) = St.rgt x0 x1 := by unfold Sf.right; dsimp only; rw [d0, decide_eq_true (show x2 ≤ 255 by omega)]; rfl
      rw [hR]
      have BB := Lib.hid b0
      have N1 := Lib.hid (fun wx => right_any x0 x1 wx)
      clear hR b0
      go_enter Try.func22, Try.ntmps22
      go_wp2_with fail
      refine (N1.out _).mono ?_
      rintro e w1 ⟨rfl, b1⟩
      have FB := Lib.hid (below_on BB.out b1)
      clear N1 BB b1
      go_wp2
      go_ret
      exact ⟨rfl, FB.out⟩
    · have d1 : decide (x2 < 256) = false := decide_eq_false h1
      have hR : Sf.right (x0, x1, x2, x3) = false := by unfold Sf.right; dsimp only; rw [d0, decide_eq_false (show ¬ x2 ≤ 255 by omega)]; rfl
      rw [hR]
      have BB := Lib.hid b0
      clear hR b0
      go_enter Try.func22, Try.ntmps22
      go_wp2
      go_ret
      exact ⟨rfl, BB.out⟩
  · have d0 : decide (0 ≤ x2) = false := decide_eq_false h0
    have hR : Sf.right (x0, x1, x2, x3) = false := by unfold Sf.right; dsimp only; rw [d0]; rfl
    rw [hR]
    have BB := Lib.hid b0
    clear hR b0
    go_enter Try.func22, Try.ntmps22
    go_wp2
    go_ret
    exact ⟨rfl, BB.out⟩

theorem keepsF_below {n0 : Nat} {W W' : World} (hb : Below W.heap.size W W') : KeepsFrom n0 W W' := ⟨hb.size, fun k _ _ hk _ => (hb.block k (Array.getElem?_eq_some_iff.1 hk).1).trans hk⟩

set_option maxRecDepth 100000 in
set_option maxHeartbeats 3200000 in
theorem allRight_any (A : Option Addr) (c : Nat) (l : List Wr) (w : World) (h : OneW w A c l) :
    Calls Try.prog 24 #[.slice A l.length c] w (Says (.bool (l.all Sf.right)) w) := by
  have HL := Lib.hid h
  have b0 := below_new (Below.refl w.heap.size w) (.cells #[.bool false] 4)
  have B0 := Blk.new w 4 #[.bool false]
  obtain ⟨W, hW⟩ : ∃ W, w.alloc (.cells #[.bool false] 4) = W := ⟨_, rfl⟩
  rw [hW] at b0 B0
  have HW := Lib.hid hW
  clear h hW
  refine (callsIn_wide (n := 3)).1 ?_
  refine callsIn_of_wp_marks Try.func24 rfl trivial ?_ rfl
  simp only [Try.ntmps24, List.size_toArray, List.length_cons, List.length_nil, Nat.reduceAdd, Nat.reduceSub, Array.replicate_succ, Array.replicate_zero, List.push_toArray, List.append_toArray, List.nil_append, List.cons_append]
  gi_wp2_with fail
  rw [HW.out]
  refine ⟨trivial, (callsIn_wide.2 (each_any A c l W)).mono ?_⟩
  rintro e w1 ⟨bl, rfl, hbl, b1⟩
  have bb1 := below_on b0 b1
  have B1 := B0.later b1
  have hz1 := bb1.size
  have hlt1 := B1.lt
  have SEQ := eachW_stops id l l (List.map_id l) 2 (by omega) bl c A w1 (HL.out.later bb1) hbl
  clear b0 B0 b1 HW hbl
  gi_wp2_with fail
  refine wpIn_rangeFunc_ownH rfl (by omega) (gf := 31) (lb := #[.pointer (some ⟨bl, 0, none⟩)]) rfl trivial enters_eachW SEQ KeepL.trans (fun W l' o o' _ h1 h2 _ => KeepL.put W l' o o' h1 h2) (Below.refl _ _) (fun _ => rfl)
    (fun pre W => (pre.all Sf.right = true ∧ Blk W w.heap.size 4 #[.bool false]) ∧ Below w.heap.size w W)
    (fun c pre W => ((c = .ret ∧ pre.all Sf.right = false) ∧ Blk W w.heap.size 4 #[.bool false]) ∧ Below w.heap.size w W)
    ?hI ?hIx ⟨⟨rfl, B1⟩, bb1⟩
    (fun x a' W => ∃ Bx, Blk W Bx 27 (Nt.wrArr x) ∧ a' = { tmps := #[.slice A l.length c, undef, .pointer (some ⟨w.heap.size, 0, none⟩), undef, .pointer (some ⟨Bx, 0, none⟩), .slice A l.length c, .func (.func 31) #[] #[.pointer (some ⟨bl, 0, none⟩)], .int .i64 x.2.2.1, Nt.wrV x, undef, undef, undef], defers := [] })
    ?hAx ?assign ?body ?done ?stop
  case hI => exact OwnFrom.and (OwnFrom.and (ownFrom_pure _ _) (Own.from (blk_own _ _ fun _ => #[.bool false]) _)) (ownFrom_below (Nat.le_refl _) hz1)
  case hIx => exact fun c' => OwnFrom.and (OwnFrom.and (ownFrom_pure _ _) (Own.from (blk_own _ _ fun _ => #[.bool false]) _)) (ownFrom_below (Nat.le_refl _) hz1)
  case hAx => exact fun x a' _ X Y row ⟨Bx, h1, h2⟩ hg hr => ⟨Bx, blk_own _ _ (fun (_ : Unit) => Nt.wrArr x) () X Y row h1 hg (fun r e => (hr r e).2), h2⟩
  case assign =>
    rintro l' pre x W K ⟨⟨i0, i1⟩, i2⟩ hK
    obtain ⟨x0, x1, x2, x3⟩ := x
    unfold toldW Nt.wrV
    unfold Nt.wrV Nt.wrArr at hK
    dsimp only [id] at hK ⊢
    have bN := below_new (Below.refl W.heap.size W) (.cells #[.int .i64 x0, .int .i64 x1, .int .i64 x2, .bool x3] 27)
    have HK := Lib.hid hK
    have F1 := Lib.hid (i1.later bN)
    have F2 := Lib.hid (below_on i2 bN)
    have F3 := Lib.hid (Blk.new W 27 #[.int .i64 x0, .int .i64 x1, .int .i64 x2, .bool x3])
    have F4 := Lib.hid i0
    have F5 := Lib.hid bN
    clear hK i0 i1 i2 bN
    gi_wp2
    exact HK.out _ _ (keepsF_below F5.out) (fun h => h.later F5.out) ⟨⟨F4.out, F1.out⟩, F2.out⟩ ⟨_, F3.out, rfl⟩
  case body =>
    rintro l' pre x a' W hl _ ⟨⟨i0, i1⟩, i2⟩ ⟨Bx, hX, rfl⟩ hlt
    have hlx := HL.out.later i2
    obtain ⟨x0, x1, x2, x3⟩ := x
    have N1 := Lib.hid (sdright_any (x0, x1, x2, x3) W)
    have hsn : (pre ++ [(x0, x1, x2, x3)]).all Sf.right = Sf.right (x0, x1, x2, x3) := by rw [List.all_append, i0]; simp
    unfold Nt.wrV at N1 ⊢
    unfold Nt.wrArr at hX
    dsimp only at N1 hX ⊢
    have g0 := hX.cell (i := 0) rfl
    have g1 := hX.cell (i := 1) rfl
    have g2 := hX.cell (i := 2) rfl
    have g3 := hX.cell (i := 3) rfl
    obtain ⟨q, hq⟩ : ∃ q, Sf.right (x0, x1, x2, x3) = q := ⟨_, rfl⟩
    rw [hq] at N1 hsn
    have HSN := Lib.hid hsn
    have I1 := Lib.hid i1
    have I2 := Lib.hid i2
    have HLX := Lib.hid hlx
    clear hX i0 i1 i2 hlx hq hsn SEQ B1 hl
    gi_wp2_with fail
    refine ⟨trivial, (CallsIn.inRound l' (callsIn_wide.2 N1.out)).mono ?_⟩
    rintro e w2 ⟨rfl, b2⟩
    have C1 := I1.out.later b2
    have c1 := C1.cell (i := 0) rfl
    have f1 := C1.free 0
    have hb2 := below_on I2.out b2
    cases q with
    | true =>
      have FIN := Lib.hid (show KeepsFrom w1.heap.size W w2 ∧ KeepL A c l W w2 ∧ ((pre ++ [(x0, x1, x2, x3)]).all Sf.right = true ∧ Blk w2 w.heap.size 4 #[.bool false]) ∧ Below w.heap.size w w2 from
        ⟨keepsF_below b2, fun h => h.later b2, ⟨HSN.out, C1⟩, hb2⟩)
      clear b2 C1 c1 f1 hb2 N1 g0 g1 g2 g3
      gi_wp2
      exact FIN.out
    | false =>
      have FIN := Lib.hid (show KeepsFrom w1.heap.size W (w2.setCell ⟨w.heap.size, 0, none⟩ (.bool false)) ∧ ((Code.ret = .ret ∧ (pre ++ [(x0, x1, x2, x3)]).all Sf.right = false) ∧ Blk (w2.setCell ⟨w.heap.size, 0, none⟩ (.bool false)) w.heap.size 4 #[.bool false]) ∧ Below w.heap.size w (w2.setCell ⟨w.heap.size, 0, none⟩ (.bool false)) from
        ⟨(keepsF_below b2).trans ((KeepsOthers.setCell _ _ _).from _), ⟨⟨rfl, HSN.out⟩, C1.put 0 (.bool false)⟩, hb2.setCell (p := ⟨w.heap.size, 0, none⟩) (Nat.le_refl _) _⟩)
      clear b2 C1 hb2 N1 g0 g1 g2 g3
      gi_wp2
      exact ⟨FIN.out.1, ⟨⟨rfl, FIN.out.2.1.1.2⟩, FIN.out.2.1.2⟩, FIN.out.2.2⟩
  case done =>
    rintro DD ys W hDD hys ⟨⟨i0, i1⟩, i2⟩ hK
    subst hys
    have c1 := i1.cell (i := 0) rfl
    have f1 := i1.free 0
    have C2 := i1.put 0 (.bool true)
    have hK' := (KeepsOthers.setCell W ⟨w.heap.size, 0, none⟩ (.bool true)).same DD _ hK rfl
    have hb3 := i2.setCell (p := ⟨w.heap.size, 0, none⟩) (Nat.le_refl _) (.bool true)
    have HC2 := Lib.hid C2
    have HB3 := Lib.hid hb3
    have HK' := Lib.hid hK'
    have H0 := Lib.hid i0
    clear SEQ i0 i1 i2 hb3 C2 B1
    gi_wp2
    refine ⟨by simp, .inl ⟨_, _, rfl, run_takeDeferred HK'.out, ?_⟩⟩
    have hc5 := cell_kept (HC2.out.cell (i := 0) rfl) (grownBy_putObj' _ DD (.deferred none)) (fun r e => by cases e; exact ⟨_, HK'.out, rfl⟩)
    refine ⟨.bool true, ?_, by rw [H0.out], HB3.out.trans (belowK_b (w := w) (Nat.le_refl _) _ DD _ _ (by omega) HK'.out rfl rfl)⟩
    simp [results, Try.f24, go_sem, hc5]
  case stop =>
    rintro DD c' pre W hDD hpre ⟨⟨⟨rfl, i0⟩, i1⟩, i2⟩ hK
    have hall : l.all Sf.right = false := by
      obtain ⟨t, rfl⟩ := hpre
      rw [List.all_append, i0]
      rfl
    have H0 := Lib.hid hall
    have c1 := i1.cell (i := 0) rfl
    clear SEQ i0 hall B1
    gi_wp2
    refine ⟨by simp, .inl ⟨_, _, rfl, run_takeDeferred hK, ?_⟩⟩
    have hc5 := cell_kept c1 (grownBy_putObj' _ DD (.deferred none)) (fun r e => by cases e; exact ⟨_, hK, rfl⟩)
    refine ⟨.bool false, ?_, by rw [H0.out], i2.trans (belowK_b (w := w) (Nat.le_refl _) W DD _ _ (by omega) hK rfl rfl)⟩
    simp [results, Try.f24, go_sem, hc5]
end Go.Proofs.Ytbpgofgdlikedaa
