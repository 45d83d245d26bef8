/-
  What slices.IndexFunc and slices.DeleteFunc do at a list of writes, whatever the predicate, as long as that leaves all memory as it was.
  What slices.Clone answers of stamps and of writes; note's outside and its closure.
  What note's Of answers.
  What note's Told and written answer.
-/
import Derived.Test.YtoaclofobfaflaaG19
import Derived.Shelf.Abstract
import Derived.Test.YtoaclofobfaflaaG14
import Derived.Test.YtoaclofobfaflaaG15
import Derived.Lib.SliceRun
namespace Go.Proofs.Ytoaclofobfaflaa
open Go.RowKit

/-- A function value that says of each element whether p holds of it, in every world that is as wb was below. -/
def PredW (wb : World) (fn : Nat) (lb : Array Value) (p : Wr → Bool) : Prop := ∀ (W : World) (x : Wr), Below wb.heap.size wb W → Calls Try.prog fn (#[.agg #[.int .i64 x.1, .int .i64 x.2.1, .int .i64 x.2.2.1, .bool x.2.2.2]] ++ lb) W fun e w' => e = .returned (.bool (p x)) ∧ Below W.heap.size W w'
theorem PredW.later {wb w' : World} {fn : Nat} {lb : Array Value} {p : Wr → Bool} (h : PredW wb fn lb p) (hb : Below wb.heap.size wb w') : PredW w' fn lb p := fun W x hW => h W x (below_on hb hW)

set_option maxHeartbeats 1600000 in
theorem indexFuncW_any (p : Wr → Bool) (fn : Nat) (lb : Array Value) (eg : ∀ args w, (callFunc fn args).run Try.prog w = .ok (.enter fn args) w) (wb : World) (b off cap : Nat) (D : List Wr) (w : World)
    (hp : PredW wb fn lb p) (hB : Below wb.heap.size wb w) (hlt : b < w.heap.size) (hL : Lay w b off (Nt.wrCells D)) (hmax : D.length ≤ 9223372036854775807) (r : Int)
    (hr : (r = -1 ∧ ∀ t (h : t < D.length), p D[t] = false) ∨ ∃ t, ∃ h : t < D.length, r = (t : Int) ∧ p D[t] = true ∧ ∀ u (h : u < t), p (D[u]'(by omega)) = false) :
    Calls Try.prog 95 #[.slice (some ⟨b, off, none⟩) D.length cap, .func (.func fn) #[] lb] w fun e w' => e = .returned (.int .i64 r) ∧ Below w.heap.size w w' := by
  have HL := Lib.hid hL
  have HP := Lib.hid hp
  have HR := Lib.hid hr
  have HB := Lib.hid hB
  clear hL hp hr hB
  go_enter Try.func95, Try.ntmps95
  go_wp2_with fail
  go_loopw [5, 8] (fun _ s8 wr => ∃ k : Nat, k ≤ D.length ∧ s8 = .int .i64 (k : Int) ∧ (∀ u, u < k → ∀ h : u < D.length, p D[u] = false) ∧ Below w.heap.size w wr) (fun _ s8 _ => D.length - (intOf s8).toNat)
  case atStart => exact ⟨0, Nat.zero_le _, rfl, (fun u hu => by omega), Below.refl _ _⟩
  case round =>
    obtain ⟨k, hk, rfl, hall, hbw⟩ := hrel
    have HALL := Lib.hid hall
    clear hall
    by_cases hlt2 : k < D.length
    · have hi0 : (0 : Int) ≤ (k : Int) := by omega
      have hi1 : (k : Int) < (D.length : Int) := by omega
      obtain ⟨x, hx⟩ : ∃ x, D[k] = x := ⟨_, rfl⟩
      have hx2 : D[k]? = some x := by rw [List.getElem?_eq_getElem hlt2, hx]
      obtain ⟨g0, g1, g2, g3⟩ := wr_get D x k hx2
      have L2 := HL.out.later hlt hbw
      have e0 := (L2 _ _ g0).1
      have e1 := (L2 _ _ g1).1
      have e2 := (L2 _ _ g2).1
      have e3 := (L2 _ _ g3).1
      rw [← Nat.add_assoc] at e1
      rw [← Nat.add_assoc] at e2
      rw [← Nat.add_assoc] at e3
      have cl := HP.out wr x (below_on HB.out hbw)
      have hpx : p D[k] = p x := by rw [hx]
      obtain ⟨px, hpxx⟩ : ∃ px, p x = px := ⟨_, rfl⟩
      rw [hpxx] at cl hpx
      obtain ⟨x1, x2, x3, x4⟩ := x
      have CL := Lib.hid cl
      have HX := Lib.hid hpx
      clear cl hpx hx hx2 hpxx L2 g0 g1 g2 g3
      cases px with
      | true =>
        go_wp2_with (go_at_fn fn; refine CL.out.mono ?_; rintro e w1 ⟨rfl, b1⟩)
        go_ret
        have hrk : r = (k : Int) := by
          rcases HR.out with ⟨_, h2⟩ | ⟨t, ht, h1, h2, h3⟩
          · have := h2 k hlt2; rw [HX.out] at this; cases this
          · rw [h1]
            rcases Nat.lt_trichotomy t k with h4 | h4 | h4
            · have := HALL.out t h4 ht; rw [h2] at this; cases this
            · rw [h4]
            · have := h3 k h4; rw [HX.out] at this; cases this
        exact ⟨by rw [hrk]; rfl, below_on hbw b1⟩
      | false =>
        go_wp2_with (go_at_fn fn; refine CL.out.mono ?_; rintro e w1 ⟨rfl, b1⟩)
        go_roundw
        case rel => exact ⟨k + 1, by omega, by go_num, (fun u hu h => by
          by_cases e : u = k
          · subst e; exact HX.out
          · exact HALL.out u (by omega) h), below_on hbw b1⟩
        case measure => simp [intOf]; omega
    · have hkl : k = D.length := by omega
      subst hkl
      go_wp2
      go_ret
      have hrk : r = -1 := by
        rcases HR.out with ⟨h1, _⟩ | ⟨t, ht, h1, h2, h3⟩
        · exact h1
        · have := HALL.out t ht ht; rw [h2] at this; cases this
      exact ⟨by rw [hrk]; rfl, hbw⟩

theorem zeroCellsW (m : Nat) : (Builtin.zeroCells (Value.cells (.agg #[.int .i64 0, .int .i64 0, .int .i64 0, .bool false])) m).toList.length = m * 4 ∧ ∀ u ∈ (Builtin.zeroCells (Value.cells (.agg #[.int .i64 0, .int .i64 0, .int .i64 0, .bool false])) m).toList, u.oneCell' = true := by
  refine ⟨by rw [Array.length_toList, size_zeroCells]; rfl, fun u hu => ?_⟩
  unfold Builtin.zeroCells at hu
  simp [Value.cells] at hu
  obtain ⟨a, _, rfl⟩ := hu
  have h4 : a % 4 < 4 := Nat.mod_lt _ (by omega)
  rcases (show a % 4 = 0 ∨ a % 4 = 1 ∨ a % 4 = 2 ∨ a % 4 = 3 from by omega) with h | h | h | h <;> simp [h, Value.oneCell']

set_option maxRecDepth 100000 in
set_option maxHeartbeats 6400000 in
/-- DeleteFunc: the kept ones, in their order, at the head of the same memory. -/
theorem deleteFuncW_any (p : Wr → Bool) (fn : Nat) (lb : Array Value) (eg : ∀ args w, (callFunc fn args).run Try.prog w = .ok (.enter fn args) w) (wb : World) (b off cap : Nat) (D : List Wr) (w : World)
    (hp : PredW wb fn lb p) (hB : Below wb.heap.size wb w) (hlt : b < w.heap.size) (hbb : wb.heap.size ≤ b) (hL : Lay w b off (Nt.wrCells D)) (hcap : D.length ≤ cap) (hmax : cap ≤ 9223372036854775807) :
    Calls Try.prog 78 #[.slice (some ⟨b, off, none⟩) D.length cap, .func (.func fn) #[] lb] w fun e w' => e = .returned (.slice (some ⟨b, off, none⟩) (D.filter fun x => !p x).length cap) ∧ Lay w' b off (Nt.wrCells (D.filter fun x => !p x)) ∧ Below wb.heap.size wb w' := by
  have hfind : (∀ t (h : t < D.length), p D[t] = false) ∨ ∃ t, ∃ h : t < D.length, p D[t] = true ∧ ∀ u (h : u < t), p (D[u]'(by omega)) = false := by
    cases hf : D.findIdx? p with
    | none =>
      rw [List.findIdx?_eq_none_iff] at hf
      exact .inl fun t h => by simpa using hf D[t] (List.getElem_mem h)
    | some t =>
      rw [List.findIdx?_eq_some_iff_getElem] at hf
      obtain ⟨h1, h2, h3⟩ := hf
      exact .inr ⟨t, h1, h2, fun u hu => by simpa using h3 u hu⟩
  rcases hfind with hall | ⟨t0, ht0, hyes, hno⟩
  · have hfil : (D.filter fun x => !p x) = D := List.filter_eq_self.2 fun x hx => by
      obtain ⟨t, ht, rfl⟩ := List.mem_iff_getElem.1 hx
      rw [hall t ht]; rfl
    rw [hfil]
    have N := Lib.hid (indexFuncW_any p fn lb eg wb b off cap D w hp hB hlt hL (by omega) (-1) (.inl ⟨rfl, hall⟩))
    have HL := Lib.hid hL
    clear hL hp hall hfil
    go_enter Try.func78, Try.ntmps78
    go_wp2_with fail
    refine N.out.mono ?_
    rintro e w1 ⟨rfl, b1⟩
    go_wp2
    go_ret
    exact ⟨rfl, HL.out.later hlt b1, below_on hB b1⟩
  · have N := Lib.hid (indexFuncW_any p fn lb eg wb b off cap D w hp hB hlt hL (by omega) (t0 : Int) (.inr ⟨t0, ht0, rfl, hyes, hno⟩))
    have HL := Lib.hid hL
    have HP := Lib.hid hp
    have HS := Lib.hid (KeptL.start (q := fun x => !p x) ht0 (fun u hu => by show (!p D[u]) = true; rw [hno u hu]; rfl) (by show (!p D[t0]) = false; rw [hyes]; rfl))
    have HBW := Lib.hid hB
    clear hL hp hyes hno hB
    have ht1 : ((t0 : Int) == -1) = false := beq_eq_false_iff_ne.2 (by omega)
    go_enter Try.func78, Try.ntmps78
    go_wp2_with fail
    refine N.out.mono ?_
    rintro e w1 ⟨rfl, b1⟩
    go_wp2_with fail
    go_loopw [5, 6, 7] (fun s5 s6 _ wr => ∃ (i j : Nat) (Dk : List Wr), s5 = .int .i64 (i : Int) ∧ s6 = .int .i64 (j : Int) ∧ KeptL (fun x => !p x) D j i Dk ∧ Lay wr b off (Nt.wrCells Dk) ∧ b < wr.heap.size ∧ Below wb.heap.size wb wr) (fun _ s6 _ _ => D.length - (intOf s6).toNat)
    case atStart => exact ⟨t0, t0 + 1, D, rfl, by go_num, HS.out, HL.out.later hlt b1, Nat.lt_of_lt_of_le hlt b1.size, below_on HBW.out b1⟩
    case round =>
      obtain ⟨i, j, Dk, rfl, rfl, hK, hLk, hlk, hbk⟩ := hrel
      have hij := hK.lt
      have hjD := hK.le
      have hlD := hK.len
      have KK := Lib.hid hK
      have LK := Lib.hid hLk
      have HBK := Lib.hid hbk
      clear hK hLk hbk
      by_cases hlt2 : j < D.length
      · have hi0 : (0 : Int) ≤ (j : Int) := by omega
        have hi1 : (j : Int) < (D.length : Int) := by omega
        have hi2 : (0 : Int) ≤ (i : Int) := by omega
        have hi3 : (i : Int) < (D.length : Int) := by omega
        obtain ⟨x, hx⟩ : ∃ x, D[j] = x := ⟨_, rfl⟩
        have hx2 : Dk[j]? = some x := by rw [KK.out.get hlt2, hx]
        obtain ⟨g0, g1, g2, g3⟩ := wr_get Dk x j hx2
        have e0 := (LK.out _ _ g0).1
        have e1 := (LK.out _ _ g1).1
        have e2 := (LK.out _ _ g2).1
        have e3 := (LK.out _ _ g3).1
        rw [← Nat.add_assoc] at e1
        rw [← Nat.add_assoc] at e2
        rw [← Nat.add_assoc] at e3
        have hkp := fun h => KK.out.keep (j := j) hlt2 h
        have hsk := fun h => KK.out.skip (j := j) hlt2 h
        rw [hx] at hkp hsk
        obtain ⟨px, hpxx⟩ : ∃ px, p x = px := ⟨_, rfl⟩
        obtain ⟨W1, hW1⟩ : ∃ W1, wr.alloc (.cells #[.int .i64 x.1, .int .i64 x.2.1, .int .i64 x.2.2.1, .bool x.2.2.2] 35) = W1 := ⟨_, rfl⟩
        have hbn : Below wr.heap.size wr W1 := by rw [← hW1]; exact below_new (Below.refl _ _) _
        have hB1 : Blk W1 wr.heap.size 35 #[.int .i64 x.1, .int .i64 x.2.1, .int .i64 x.2.2.1, .bool x.2.2.2] := by rw [← hW1]; exact Blk.new wr _ _
        have cl := HP.out W1 x (below_on HBK.out hbn)
        have hset := wr_set Dk x i (by omega)
        rw [hpxx] at cl
        have hkp2 : px = false → KeptL (fun x => !p x) D (j + 1) (i + 1) (Dk.set i x) := fun h => hkp (by show (!p x) = true; rw [hpxx, h]; rfl)
        have hsk2 : px = true → KeptL (fun x => !p x) D (j + 1) i Dk := fun h => hsk (by show (!p x) = false; rw [hpxx, h]; rfl)
        obtain ⟨old, hold⟩ : ∃ old, Dk[i]? = some old := ⟨Dk[i], List.getElem?_eq_getElem (by omega)⟩
        obtain ⟨og0, og1, og2, og3⟩ := wr_get Dk old i hold
        have LK1 := LK.out.later hlk hbn
        have hlk1 : b < W1.heap.size := Nat.lt_of_lt_of_le hlk hbn.size
        have CL := Lib.hid cl
        have HB1 := Lib.hid hB1
        have HLK1 := Lib.hid LK1
        have HW1 := Lib.hid hW1
        have HK2 := Lib.hid hkp2
        have HS2 := Lib.hid hsk2
        have HSET := Lib.hid hset
        have OG0 := Lib.hid og0
        have OG1 := Lib.hid og1
        have OG2 := Lib.hid og2
        have OG3 := Lib.hid og3
        clear cl hB1 LK1 hW1 hkp2 hsk2 hset hkp hsk hpxx hx hx2 hold g0 g1 g2 g3 og0 og1 og2 og3
        obtain ⟨x1, x2, x3, x4⟩ := x
        have q := HB1.out
        have q0 := q.cell (i := 0) rfl
        have q1 := q.cell (i := 1) rfl
        have q2 := q.cell (i := 2) rfl
        have q3 := q.cell (i := 3) rfl
        clear q
        cases px with
        | true =>
          go_wp2_with fail
          rw [HW1.out]
          go_wp2_with (go_at_fn fn; refine CL.out.mono ?_; rintro e w2 ⟨rfl, b2⟩)
          go_roundw
          case rel => exact ⟨i, j + 1, Dk, rfl, by go_num, HS2.out (by first | rfl | trivial), HLK1.out.later hlk1 b2, Nat.lt_of_lt_of_le hlk1 b2.size, below_on HBK.out (below_on hbn b2)⟩
          case measure => simp [intOf]; omega
        | false =>
          go_wp2_with fail
          rw [HW1.out]
          go_wp2_with fail
          refine CL.out.mono ?_
          rintro e w2 ⟨rfl, b2⟩
          have L2 := HLK1.out.later hlk1 b2
          have r0 := cell_later b2 q0
          have r1 := cell_later b2 q1
          have r2 := cell_later b2 q2
          have r3 := cell_later b2 q3
          have u0 := (L2 _ _ OG0.out).1
          have f0 := (L2 _ _ OG0.out).2
          have u1 := (L2 _ _ OG1.out).1
          have f1 := (L2 _ _ OG1.out).2
          rw [← Nat.add_assoc] at u1 f1
          have u2 := (L2 _ _ OG2.out).1
          have f2 := (L2 _ _ OG2.out).2
          rw [← Nat.add_assoc] at u2 f2
          have u3 := (L2 _ _ OG3.out).1
          have f3 := (L2 _ _ OG3.out).2
          rw [← Nat.add_assoc] at u3 f3
          have HL2 := Lib.hid L2
          clear L2 q0 q1 q2 q3
          go_wp2_with fail
          go_roundw
          case rel =>
            have h := ((((HL2.out.put (i * 4) (.int .i64 (x1, x2, x3, x4).1)).put (i * 4 + 1) (.int .i64 (x1, x2, x3, x4).2.1)).put (i * 4 + 2) (.int .i64 (x1, x2, x3, x4).2.2.1)).put (i * 4 + 3) (.bool (x1, x2, x3, x4).2.2.2))
            rw [HSET.out] at h
            exact ⟨i + 1, j + 1, _, by go_num, by go_num, HK2.out (by first | rfl | trivial), h, by simpa using Nat.lt_of_lt_of_le hlk1 b2.size, ((((below_on HBK.out (below_on hbn b2)).setCell (p := ⟨b, _, none⟩) hbb _).setCell (p := ⟨b, _, none⟩) hbb _).setCell (p := ⟨b, _, none⟩) hbb _).setCell (p := ⟨b, _, none⟩) hbb _⟩
          case measure => simp [intOf]; omega
      · have hkl : j = D.length := by omega
        subst hkl
        have hin : i < D.length := by omega
        have hlen : (Nt.wrCells Dk).length = D.length * 4 := by rw [Nt.wrCells_length, hlD]
        have hzl := zeroCellsW (D.length - i)
        have hcl : ∀ ty, (Builtin.clear_ #[24] ty #[.slice (some ⟨b, off + i * 4, none⟩) (D.length - i) (cap - i)]).run Try.prog wr = .ok (.tuple #[]) (wr.setCells b (off + i * 4) (Builtin.zeroCells (Value.cells (.agg #[.int .i64 0, .int .i64 0, .int .i64 0, .bool false])) (D.length - i)).toList) := fun ty =>
          run_clear_cells wr 24 35 ty (.agg #[.int .i64 0, .int .i64 0, .int .i64 0, .bool false]) Try.underlying24 Try.zeroValue35 b (off + i * 4) (D.length - i) (cap - i) (by omega) hzl.2
            (fun t ht => by rw [hzl.1] at ht; have hx : i * 4 + t < (Nt.wrCells Dk).length := Nat.lt_of_lt_of_eq (by omega) hlen.symm; rw [Nat.add_assoc, (LK.out _ _ (List.getElem?_eq_getElem hx)).1]; rfl)
            (fun t ht => by rw [hzl.1] at ht; have hx : i * 4 + t < (Nt.wrCells Dk).length := Nat.lt_of_lt_of_eq (by omega) hlen.symm; rw [Nat.add_assoc]; exact (LK.out _ _ (List.getElem?_eq_getElem hx)).2)
        have hdone := KK.out.done
        have HD := Lib.hid hdone
        clear hdone hlen hzl
        have hi2 : (0 : Int) ≤ (i : Int) := by omega
        have hi3 : (i : Int) ≤ (D.length : Int) := by omega
        have hi4 : (D.length : Int) ≤ (cap : Int) := by omega
        go_wp2
        go_ret
        refine ⟨by rw [← HD.out.1]; rfl, ?_, below_cells hbb _ _ _ HBK.out⟩
        refine Lay.behind ?_ (i * 4) (by rw [Nt.wrCells_length, ← HD.out.1]; exact Nat.le_refl _) _
        rw [← HD.out.2]
        exact LK.out.sub (wr_take Dk i)

set_option maxHeartbeats 800000 in
theorem indexFuncW_nil (p : Fn) (ca lb : Array Value) (w : World) : Calls Try.prog 95 #[.slice none 0 0, .func p ca lb] w fun e w' => e = .returned (.int .i64 (-1)) ∧ Below w.heap.size w w' := by
  go_enter Try.func95, Try.ntmps95
  go_wp2_with fail
  go_loopw [8] (fun s8 wr => s8 = .int .i64 0 ∧ Below w.heap.size w wr) (fun _ _ => 0)
  case atStart => exact ⟨rfl, Below.refl _ _⟩
  case round =>
    obtain ⟨rfl, hb⟩ := hrel
    go_wp2
    go_ret
    exact ⟨rfl, hb⟩
set_option maxHeartbeats 800000 in
theorem deleteFuncW_nil (p : Fn) (ca lb : Array Value) (w : World) : Calls Try.prog 78 #[.slice none 0 0, .func p ca lb] w fun e w' => e = .returned (.slice none 0 0) ∧ Below w.heap.size w w' := by
  have N := Lib.hid (indexFuncW_nil p ca lb w)
  go_enter Try.func78, Try.ntmps78
  go_wp2_with fail
  refine N.out.mono ?_
  rintro e w1 ⟨rfl, b1⟩
  go_wp2
  go_ret
  exact ⟨rfl, b1⟩


end Go.Proofs.Ytoaclofobfaflaa
namespace Go.Proofs.Ytoaclofobfaflaa
open Go.RowKit Fb

/-- A list of writes is answered, in memory of the call's own; what was there before is as it was. -/
def GivesW (l : List Wr) (w : World) (e : Ending) (w' : World) : Prop :=
  ∃ v, e = .returned v ∧ w'.ownsRow w.heap.size 35 4 v l.length (Nt.wrCells l) ∧ Below w.heap.size w w'
/-- The same, wherever it lies. -/
def AnsW (l : List Wr) (w : World) (e : Ending) (w' : World) : Prop := ∃ A c, e = .returned (.slice A l.length c) ∧ OneW w' A c l ∧ Below w.heap.size w w'
theorem GivesW.one {l : List Wr} {w w' : World} {e : Ending} (h : GivesW l w e w') : AnsW l w e w' := by
  obtain ⟨v, rfl, ho, hb⟩ := h
  obtain ⟨A, c, rfl, h1⟩ := OneW.of_own ho
  exact ⟨A, c, rfl, h1, hb⟩

set_option maxHeartbeats 1600000 in
theorem cloneS_any (A : Option Addr) (c : Nat) (l : List (Int × Int)) (w : World) (hl : l.length * 16 ≤ 140737488355328) (h : OneL w A c l) :
    Calls Try.prog 47 #[.slice A l.length c] w (Gives l w) := by
  obtain ⟨i0, hI, hz0, hz1, hz2⟩ := info_parts infoSt
  cases A with
  | none =>
    obtain ⟨h1, h2⟩ := h.2.2.1 rfl
    have hl0 : l = [] := List.eq_nil_of_length_eq_zero h1
    subst hl0
    subst h2
    clear h
    have hq := Lib.run_eql_slice_nil (P := Try.prog) w 22 33 none 0 0 0 0 Try.underlying22
    go_enter Try.func47, Try.ntmps47
    go_wp2
    go_ret
    exact ⟨_, rfl, ⟨rfl, .inl ⟨rfl, rfl⟩⟩, Below.refl _ _⟩
  | some a =>
    have hq := Lib.run_eql_slice_nil (P := Try.prog) w 22 33 (some a) l.length c 0 0 Try.underlying22
    have HL := Lib.hid (h.2.2.2.alloc (.cells #[] 33))
    have HB := Lib.hid (Blk.new w 33 #[])
    have b0 := below_new (Below.refl w.heap.size w) (.cells #[] 33)
    have hlen := h.len
    clear h
    go_enter Try.func47, Try.ntmps47
    go_wp2_with (at_builtin; refine wpList_append_fresh _ rfl _ _ 22 rfl w.heap.size w.heap.size 33 i0 (.agg #[.int .i64 0, .int .i64 0]) 2 16 Try.underlying22 hI hz0 hz1 hz2 rfl (by decide) rfl HB.out (Nat.le_refl _) (some a) l.length c (fun h => by cases h) (stCells l) rfl (stCells_length l) HL.out (stCells_one l) (by unfold maxLen; omega) hl ?_)
    intro v' w' ho hb
    have HO := Lib.hid ho
    clear ho
    go_wp2
    go_ret
    exact ⟨v', rfl, HO.out, below_on b0 (by rw [show (w.alloc (.cells #[] 33)).heap.size = w.heap.size + 1 from by simp]; exact hb)⟩

set_option maxHeartbeats 1600000 in
theorem cloneW_any (A : Option Addr) (c : Nat) (l : List Wr) (w : World) (hl : l.length * 32 ≤ 140737488355328) (h : OneW w A c l) :
    Calls Try.prog 79 #[.slice A l.length c] w (GivesW l w) := by
  obtain ⟨i0, hI, hz0, hz1, hz2⟩ := info_parts infoWr
  cases A with
  | none =>
    obtain ⟨h1, h2⟩ := h.2.2.1 rfl
    have hl0 : l = [] := List.eq_nil_of_length_eq_zero h1
    subst hl0
    subst h2
    clear h
    have hq := Lib.run_eql_slice_nil (P := Try.prog) w 24 35 none 0 0 0 0 Try.underlying24
    go_enter Try.func79, Try.ntmps79
    go_wp2
    go_ret
    exact ⟨_, rfl, ⟨rfl, .inl ⟨rfl, rfl⟩⟩, Below.refl _ _⟩
  | some a =>
    have hq := Lib.run_eql_slice_nil (P := Try.prog) w 24 35 (some a) l.length c 0 0 Try.underlying24
    have HL := Lib.hid (h.2.2.2.alloc (.cells #[] 35))
    have HB := Lib.hid (Blk.new w 35 #[])
    have b0 := below_new (Below.refl w.heap.size w) (.cells #[] 35)
    have hlen := h.len
    clear h
    go_enter Try.func79, Try.ntmps79
    go_wp2_with (at_builtin; refine wpList_append_fresh _ rfl _ _ 24 rfl w.heap.size w.heap.size 35 i0 (.agg #[.int .i64 0, .int .i64 0, .int .i64 0, .bool false]) 4 32 Try.underlying24 hI hz0 hz1 hz2 rfl (by decide) rfl HB.out (Nat.le_refl _) (some a) l.length c (fun h => by cases h) (Nt.wrCells l) rfl (Nt.wrCells_length l) HL.out (Nt.wrCells_one l) (by unfold maxLen; omega) hl ?_)
    intro v' w' ho hb
    have HO := Lib.hid ho
    clear ho
    go_wp2
    go_ret
    exact ⟨v', rfl, HO.out, below_on b0 (by rw [show (w.alloc (.cells #[] 35)).heap.size = w.heap.size + 1 from by simp]; exact hb)⟩

set_option maxHeartbeats 800000 in
/-- The closure: is the write's object in the blur? -/
theorem outside1_any (g : Nat) (B : Option Addr) (c : Nat) (bl : List (Int × Int)) (x : Wr) (W : World) (hB : Blk W g 23 #[.slice B bl.length c]) (h : OneL W B c bl) :
    Calls Try.prog 80 #[.agg #[.int .i64 x.1, .int .i64 x.2.1, .int .i64 x.2.2.1, .bool x.2.2.2], .pointer (some ⟨g, 0, none⟩)] W (Says (.bool (inOf bl x.2.2.1)) W) := by
  obtain ⟨x1, x2, x3, x4⟩ := x
  obtain ⟨W1, hW1⟩ : ∃ W1, W.alloc (.cells #[.int .i64 x1, .int .i64 x2, .int .i64 x3, .bool x4] 35) = W1 := ⟨_, rfl⟩
  have hbn : Below W.heap.size W W1 := by rw [← hW1]; exact below_new (Below.refl _ _) _
  have hB1 : Blk W1 W.heap.size 35 #[.int .i64 x1, .int .i64 x2, .int .i64 x3, .bool x4] := by rw [← hW1]; exact Blk.new W _ _
  have g2 := hB1.cell (i := 2) rfl
  have gb := (hB.later hbn).cell (i := 0) rfl
  have N := Lib.hid (sphas_any B c bl x3 W1 (h.later hbn))
  have HW1 := Lib.hid hW1
  have g2' := g2
  have gb' := gb
  rw [← hW1] at g2' gb'
  clear hW1 hB1 hB h
  go_enter Try.func80, Try.ntmps80
  go_wp2_with fail
  rw [HW1.out]
  refine N.out.mono ?_
  rintro e w1 ⟨rfl, b1⟩
  go_wp2
  go_ret
  exact ⟨rfl, below_on hbn b1⟩

set_option maxHeartbeats 1600000 in
theorem outside_any (V B : Option Addr) (cv cb : Nat) (ws : List Wr) (bl : List (Int × Int)) (w : World) (hl : ws.length * 32 ≤ 140737488355328) (h1 : OneW w V cv ws) (h2 : OneL w B cb bl) :
    Calls Try.prog 56 #[.slice V ws.length cv, .slice B bl.length cb] w (AnsW (ws.filter fun x => !inOf bl x.2.2.1) w) := by
  obtain ⟨W1, hW1⟩ : ∃ W1, w.alloc (.cells #[.slice B bl.length cb] 23) = W1 := ⟨_, rfl⟩
  have hbn : Below w.heap.size w W1 := by rw [← hW1]; exact below_new (Below.refl _ _) _
  have hB1 : Blk W1 w.heap.size 23 #[.slice B bl.length cb] := by rw [← hW1]; exact Blk.new w _ _
  have N := Lib.hid (cloneW_any V cv ws W1 hl (h1.later hbn))
  have hp : PredW W1 80 #[.pointer (some ⟨w.heap.size, 0, none⟩)] (fun x => inOf bl x.2.2.1) := fun W x hb => outside1_any w.heap.size B cb bl x W (hB1.later hb) ((h2.later hbn).later hb)
  have HP := Lib.hid hp
  have HW1 := Lib.hid hW1
  have eg : ∀ args w, (callFunc 80 args).run Try.prog w = .ok (.enter 80 args) w := enters_of Try.func80 (by kernel_rfl) rfl
  have EG := Lib.hid eg
  clear hW1 hp hB1 h1 h2 eg
  go_enter Try.func56, Try.ntmps56
  go_wp2_with fail
  rw [HW1.out]
  refine N.out.mono ?_
  rintro e w1 ⟨v, rfl, ho, b1⟩
  rcases ho.2 with ⟨rfl, hl0⟩ | ⟨g, cap, cur, rfl, hg, hh, hc1, hc2, _, _⟩
  · have hws : ws = [] := List.eq_nil_of_length_eq_zero hl0
    clear ho
    subst hws
    go_wp2_with fail
    refine (deleteFuncW_nil _ _ _ _).mono ?_
    rintro e w2 ⟨rfl, b2⟩
    go_wp2
    go_ret
    exact ⟨none, 0, rfl, OneW.nil, below_on hbn (below_on b1 b2)⟩
  · have hL := Lay.of_own ho
    have hglt : g < w1.heap.size := Blk.lt hh
    have D := Lib.hid (deleteFuncW_any _ _ _ EG.out W1 g 0 cap ws w1 HP.out b1 hglt hg hL hc1 (by unfold maxLen at hc2; exact hc2))
    have hcm := Lib.hid hc2
    clear hL ho hh hc2
    go_wp2_with fail
    refine D.out.mono ?_
    rintro e w2 ⟨rfl, hL2, b2⟩
    have HL2 := Lib.hid hL2
    clear hL2
    go_wp2
    go_ret
    exact ⟨_, cap, rfl, OneW.of_lay HL2.out (Nat.le_trans (List.length_filter_le _ _) hc1) hcm.out, below_on hbn b2⟩

end Go.Proofs.Ytoaclofobfaflaa
namespace Go.Proofs.Ytoaclofobfaflaa
open Go.RowKit Fb

set_option maxRecDepth 100000 in
set_option maxHeartbeats 6400000 in
theorem dnof_any (A : Option Addr) (c : Nat) (l : List (Int × Int)) (y : Wr) (w : World) (hl16 : l.length * 16 ≤ 140737488355328) (h1 : OneL w A c l) :
    Calls Try.prog 20 #[.slice A l.length c, .agg (Nt.wrArr y)] w (AnsNE (ofN l y).1 (ofN l y).2 w) := by
  obtain ⟨W, hW⟩ : ∃ W, (w.alloc (.cells (Nt.wrArr y) 35)).alloc (.cells #[.slice none 0 0, .slice none 0 0, .slice none 0 0, .slice none 0 0] 26) = W := ⟨_, rfl⟩
  have hb0 : Below w.heap.size w W := by rw [← hW]; exact below_new (below_new (Below.refl _ _) _) _
  have hB0 : Blk W w.heap.size 35 (Nt.wrArr y) := by rw [← hW]; exact (Blk.new w _ _).alloc _
  have hB1 : Blk W (w.heap.size + 1) 26 #[.slice none 0 0, .slice none 0 0, .slice none 0 0, .slice none 0 0] := by
    rw [← hW, show w.heap.size + 1 = (w.alloc (.cells (Nt.wrArr y) 35)).heap.size from by simp]
    exact Blk.new _ _ _
  obtain ⟨⟨c0, c1, c2, c3⟩, -⟩ := wr_cells hB0
  have HB1 := Lib.hid hB1
  have hL := h1.later hb0
  have N0 := Lib.hid (formed_any A c l W hL)
  have N1 := Lib.hid (fun wx => right_any y.1 y.2.1 wx)
  have N2 := Lib.hid (fun wx (hb : Below W.heap.size W wx) => has_any A c l y.1 y.2.1 wx (hL.later hb))
  have HL := Lib.hid hL
  have HT := Lib.hid (show ofN l y = if (Ve.fmd l = true ∧ St.rgt y.1 y.2.1 = true) ∧ (0 ≤ y.2.2.1 ∧ y.2.2.1 ≤ 255) ∧ hasOf l y.1 y.2.1 = false then (⟨l, Ve.joinL [l, [(y.1, y.2.1)]], [], [y]⟩, 0) else (noNote, 1) from rfl)
  obtain ⟨x0, hx0⟩ : ∃ x, Ve.fmd l = x := ⟨_, rfl⟩
  obtain ⟨x1, hx1⟩ : ∃ x, St.rgt y.1 y.2.1 = x := ⟨_, rfl⟩
  obtain ⟨x2, hx2⟩ : ∃ x, hasOf l y.1 y.2.1 = x := ⟨_, rfl⟩
  rw [hx0] at N0 HT
  rw [hx1] at N1 HT
  rw [hx2] at N2 HT
  have HW0 := Lib.hid hW
  clear hW hB0 hB1 h1 hL hx0 hx1 hx2
  have fin : ∀ w1, Below W.heap.size W w1 → ofN l y = (noNote, 1) → AnsNE (ofN l y).1 (ofN l y).2 w (.returned (.tuple #[.agg (noteCells none none none none 0 0 0 0 noNote), .int .i64 1])) ((((w1.setCell ⟨w.heap.size + 1, 0, none⟩ (.slice none 0 0)).setCell ⟨w.heap.size + 1, 1, none⟩ (.slice none 0 0)).setCell ⟨w.heap.size + 1, 2, none⟩ (.slice none 0 0)).setCell ⟨w.heap.size + 1, 3, none⟩ (.slice none 0 0)) := fun w1 hb he => by
    rw [he]
    exact ⟨_, _, _, _, _, _, _, _, rfl, noNote_at _, below_puts (below_on hb0 hb) (by omega) _ _ _ _⟩
  have FIN := Lib.hid fin
  clear fin
  have NO := Lib.hid (fun wx => nisObject_any y.2.2.1 wx)
  have HOB := Lib.hid (show (0 ≤ y.2.2.1 ∧ y.2.2.1 ≤ 255) ↔ decide (0 ≤ y.2.2.1 ∧ y.2.2.1 ≤ 255) = true from decide_eq_true_iff.symm)
  obtain ⟨xo, hxo⟩ : ∃ x, decide (0 ≤ y.2.2.1 ∧ y.2.2.1 ≤ 255) = x := ⟨_, rfl⟩
  rw [hxo] at NO HOB
  clear hxo
  have hcs : (x0 = false) ∨ (x0 = true ∧ x1 = false) ∨ (x0 = true ∧ x1 = true ∧ xo = false) ∨ (x0 = true ∧ x1 = true ∧ xo = true ∧ x2 = true) ∨ (x0 = true ∧ x1 = true ∧ xo = true ∧ x2 = false) := by
    cases x0 <;> cases x1 <;> cases xo <;> cases x2 <;> simp
  rcases hcs with rfl | ⟨rfl, rfl⟩ | ⟨rfl, rfl, rfl⟩ | ⟨rfl, rfl, rfl, rfl⟩ | ⟨rfl, rfl, rfl, rfl⟩
  · have HT2 := Lib.hid (HT.out.trans (if_neg (fun h => by cases h.1.1)))
    go_enter Try.func20, Try.ntmps20
    go_wp2_with fail
    rw [HW0.out]
    refine N0.out.mono ?_
    rintro e w1 ⟨rfl, b1⟩
    have hq := HB1.out.later b1
    obtain ⟨⟨z0, z1, z2, z3⟩, r0, r1, r2, r3⟩ := nt_cells hq
    have HQ := Lib.hid hq
    clear hq
    go_wp2
    exact bodyPost_ret (results_cell_tmp (p := 4) (t1 := 5) (ty := 26) rfl _ _ (w.heap.size + 1) 26 (noteCells none none none none 0 0 0 0 noNote) _ rfl (nt_puts HQ.out none none none none 0 0 0 0 noNote) Try.underlying26 rfl infoNt) rfl (FIN.out _ b1 HT2.out)
  · have HT2 := Lib.hid (HT.out.trans (if_neg (fun h => by cases h.1.2)))
    go_enter Try.func20, Try.ntmps20
    go_wp2_with fail
    rw [HW0.out]
    refine N0.out.mono ?_
    rintro e w1 ⟨rfl, b1⟩
    have m0 := cell_later b1 c0
    have m1 := cell_later b1 c1
    go_wp2_with fail
    refine (N1.out _).mono ?_
    rintro e w2 ⟨rfl, b2⟩
    have bb2 := below_on b1 b2
    have hq := HB1.out.later bb2
    obtain ⟨⟨z0, z1, z2, z3⟩, r0, r1, r2, r3⟩ := nt_cells hq
    have HQ := Lib.hid hq
    clear hq
    go_wp2
    exact bodyPost_ret (results_cell_tmp (p := 4) (t1 := 5) (ty := 26) rfl _ _ (w.heap.size + 1) 26 (noteCells none none none none 0 0 0 0 noNote) _ rfl (nt_puts HQ.out none none none none 0 0 0 0 noNote) Try.underlying26 rfl infoNt) rfl (FIN.out _ bb2 HT2.out)
  · have HT2 := Lib.hid (HT.out.trans (if_neg (fun h => by have := HOB.out.1 h.2.1; cases this)))
    go_enter Try.func20, Try.ntmps20
    go_wp2_with fail
    rw [HW0.out]
    refine N0.out.mono ?_
    rintro e w1 ⟨rfl, b1⟩
    have m0 := cell_later b1 c0
    have m1 := cell_later b1 c1
    go_wp2_with fail
    refine (N1.out _).mono ?_
    rintro e w2 ⟨rfl, b2⟩
    have bb2 := below_on b1 b2
    have m2 := cell_later bb2 c2
    go_wp2_with fail
    refine (NO.out _).mono ?_
    rintro e w3 ⟨rfl, b3⟩
    have bb3 := below_on bb2 b3
    have hq := HB1.out.later bb3
    obtain ⟨⟨z0, z1, z2, z3⟩, r0, r1, r2, r3⟩ := nt_cells hq
    have HQ := Lib.hid hq
    clear hq
    go_wp2
    exact bodyPost_ret (results_cell_tmp (p := 4) (t1 := 5) (ty := 26) rfl _ _ (w.heap.size + 1) 26 (noteCells none none none none 0 0 0 0 noNote) _ rfl (nt_puts HQ.out none none none none 0 0 0 0 noNote) Try.underlying26 rfl infoNt) rfl (FIN.out _ bb3 HT2.out)
  · have HT2 := Lib.hid (HT.out.trans (if_neg (fun h => by cases h.2.2)))
    go_enter Try.func20, Try.ntmps20
    go_wp2_with fail
    rw [HW0.out]
    refine N0.out.mono ?_
    rintro e w1 ⟨rfl, b1⟩
    have m0 := cell_later b1 c0
    have m1 := cell_later b1 c1
    go_wp2_with fail
    refine (N1.out _).mono ?_
    rintro e w2 ⟨rfl, b2⟩
    have bb2 := below_on b1 b2
    have m2 := cell_later bb2 c2
    go_wp2_with fail
    refine (NO.out _).mono ?_
    rintro e w3 ⟨rfl, b3⟩
    have bb3 := below_on bb2 b3
    have m00 := cell_later bb3 c0
    have m11 := cell_later bb3 c1
    go_wp2_with fail
    refine (N2.out _ bb3).mono ?_
    rintro e w4 ⟨rfl, b4⟩
    have bb4 := below_on bb3 b4
    have hq := HB1.out.later bb4
    obtain ⟨⟨z0, z1, z2, z3⟩, r0, r1, r2, r3⟩ := nt_cells hq
    have HQ := Lib.hid hq
    clear hq
    go_wp2
    exact bodyPost_ret (results_cell_tmp (p := 4) (t1 := 5) (ty := 26) rfl _ _ (w.heap.size + 1) 26 (noteCells none none none none 0 0 0 0 noNote) _ rfl (nt_puts HQ.out none none none none 0 0 0 0 noNote) Try.underlying26 rfl infoNt) rfl (FIN.out _ bb4 HT2.out)
  · have HT2 := Lib.hid (HT.out.trans (if_pos ⟨⟨rfl, rfl⟩, HOB.out.2 rfl, rfl⟩))
    go_enter Try.func20, Try.ntmps20
    go_wp2_with fail
    rw [HW0.out]
    refine N0.out.mono ?_
    rintro e w1 ⟨rfl, b1⟩
    have m0 := cell_later b1 c0
    have m1 := cell_later b1 c1
    go_wp2_with fail
    refine (N1.out _).mono ?_
    rintro e w2 ⟨rfl, b2⟩
    have bb2 := below_on b1 b2
    have m2 := cell_later bb2 c2
    go_wp2_with fail
    refine (NO.out _).mono ?_
    rintro e w3 ⟨rfl, b3⟩
    have bb3 := below_on bb2 b3
    have m00 := cell_later bb3 c0
    have m11 := cell_later bb3 c1
    go_wp2_with fail
    refine (N2.out _ bb3).mono ?_
    rintro e w4 ⟨rfl, b4⟩
    have bb4 := below_on bb3 b4
    go_wp2_with fail
    have p0 := cell_later bb4 c0
    have p1 := cell_later bb4 c1
    have p2 := cell_later bb4 c2
    have p3 := cell_later bb4 c3
    have hL3 := HL.out.later bb4
    have NC := Lib.hid (fun wx (hb : Below w4.heap.size w4 wx) => (cloneS_any A c l wx hl16 (hL3.later hb)).mono fun _ _ hg => hg.one)
    have NW := Lib.hid (fun wx (hb : Below w4.heap.size w4 wx) => (with_any A c l y.1 y.2.1 wx (hL3.later hb)).mono fun _ _ hg => hg.one)
    clear hL3
    refine wp_region_facts 8 (by kernel_rfl) (by kernel_rfl)
      (fun v => { tmps := #[.slice A l.length c, .agg (Nt.wrArr y), undef, .pointer (some ⟨w.heap.size, 0, none⟩), .pointer (some ⟨w.heap.size + 1, 0, none⟩), .int .i64 0, .slice A l.length c, .bool true, .bool false, .bool false, .pointer (some ⟨w.heap.size, 0, none⟩), .agg #[.int .i64 y.1, .int .i64 y.2.1], .bool true, .bool false, .bool false, .bool false, .pointer (some ⟨w.heap.size, 2, none⟩), .int .i64 y.2.2.1, .bool true, .bool false, .bool false, .bool false, .slice A l.length c, .pointer (some ⟨w.heap.size, 0, none⟩), .agg #[.int .i64 y.1, .int .i64 y.2.1], .bool false, .bool false, undef, v 0, v 1, v 2, v 3, v 4, v 5, v 6, v 7, undef], defers := [] }) (fun _ => undef)
      (fun i x wx => match i with
        | 0 => x = .slice A l.length c
        | 1 => ∃ A' c', x = .slice A' l.length c' ∧ OneL wx A' c' l
        | 2 => x = .slice A l.length c
        | 3 => x = .pointer (some ⟨w.heap.size, 0, none⟩)
        | 4 => x = .agg #[.int .i64 y.1, .int .i64 y.2.1]
        | 5 => ∃ A' c', x = .slice A' (Ve.joinL [l, [(y.1, y.2.1)]]).length c' ∧ OneL wx A' c' (Ve.joinL [l, [(y.1, y.2.1)]])
        | 6 => x = .agg #[.int .i64 y.1, .int .i64 y.2.1, .int .i64 y.2.2.1, .bool y.2.2.2]
        | 7 => ∃ A c, x = .slice A [y].length c ∧ OneW wx A c [y]
        | _ => True)
      (fun w1 w2 => Below w1.heap.size w1 w2) (fun h1 h2 => below_on h1 h2) (fun _ => Below.refl _ _) (Below.drew (Below.refl _ _)) ?stab ?step ?done
    case stab =>
      rintro i x w1 w2 h hb
      match i, h with
      | 0, h => exact h
      | 1, h => obtain ⟨A, c, h1, h2⟩ := h; exact ⟨A, c, h1, h2.later hb⟩
      | 2, h => exact h
      | 3, h => exact h
      | 4, h => exact h
      | 5, h => obtain ⟨A, c, h1, h2⟩ := h; exact ⟨A, c, h1, h2.later hb⟩
      | 6, h => exact h
      | 7, h => obtain ⟨A, c, h1, h2⟩ := h; exact ⟨A, c, h1, h2.later hb⟩
      | i + 8, _ => trivial
    case step =>
      intro i hi v w' hb hd
      match i, hi with
      | 0, _ =>
        refine wpOp_one rfl ?_
        clear hd
        go_wp2
        first | exact ⟨_, (by simp [upd]; done), Below.refl _ _, rfl⟩ | exact ⟨(by simp [upd]; done), Below.refl _ _⟩
      | 1, _ =>
        have h0 : v 0 = _ := hd 0 (List.elem_iff.1 (by kernel_rfl))
        refine wpOp_one rfl ?_
        clear hd
        rw [h0]
        go_wp2_with fail
        refine (NC.out _ hb).mono ?_
        rintro e w'' hg
        obtain ⟨A, c, rfl, ho, b⟩ := hg
        go_wp2
        exact ⟨_, (by simp [upd, h0]; done), b, A, c, rfl, ho⟩
      | 2, _ =>
        refine wpOp_one rfl ?_
        clear hd
        go_wp2
        first | exact ⟨_, (by simp [upd]; done), Below.refl _ _, rfl⟩ | exact ⟨(by simp [upd]; done), Below.refl _ _⟩
      | 3, _ =>
        refine wpOp_one rfl ?_
        clear hd
        go_wp2
        first | exact ⟨_, (by simp [upd]; done), Below.refl _ _, rfl⟩ | exact ⟨(by simp [upd]; done), Below.refl _ _⟩
      | 4, _ =>
        have h3 : v 3 = _ := hd 3 (List.elem_iff.1 (by kernel_rfl))
        refine wpOp_one rfl ?_
        clear hd
        rw [h3]
        have q0 := cell_later hb p0
        have q1 := cell_later hb p1
        go_wp2
        first | exact ⟨_, (by simp [upd, h3]; done), Below.refl _ _, rfl⟩ | exact ⟨(by simp [upd, h3]; done), Below.refl _ _⟩
      | 5, _ =>
        have h2 : v 2 = _ := hd 2 (List.elem_iff.1 (by kernel_rfl))
        have h4 : v 4 = _ := hd 4 (List.elem_iff.1 (by kernel_rfl))
        refine wpOp_one rfl ?_
        clear hd
        rw [h2, h4]
        go_wp2_with fail
        refine (NW.out _ hb).mono ?_
        rintro e w'' hg
        obtain ⟨A, c, rfl, ho, b⟩ := hg
        go_wp2
        exact ⟨_, (by simp [upd, h2, h4]; done), b, A, c, rfl, ho⟩
      | 6, _ =>
        refine wpOp_one rfl ?_
        clear hd
        have q0 := cell_later hb p0
        have q1 := cell_later hb p1
        have q2 := cell_later hb p2
        have q3 := cell_later hb p3
        go_wp2
        first | exact ⟨_, (by simp [upd]; done), Below.refl _ _, rfl⟩ | exact ⟨(by simp [upd]; done), Below.refl _ _⟩
      | 7, _ =>
        have h6 : v 6 = _ := hd 6 (List.elem_iff.1 (by kernel_rfl))
        refine wpOp_one rfl ?_
        clear hd
        rw [h6]
        have hz := hb.size
        go_wp2
        exact ⟨_, (by simp [upd, h6]; done), below_new (Below.refl _ _) _, some ⟨w'.heap.size, 0, none⟩, 1, rfl, one_write (Blk.new w' _ _)⟩
    case done =>
      intro v w' hb hf
      obtain ⟨A2, k2, h2, o2⟩ := hf 1 (by omega)
      obtain ⟨A5, k5, h5, o5⟩ := hf 5 (by omega)
      obtain ⟨A7, k7, h7, o7⟩ := hf 7 (by omega)
      have HO := Lib.hid (show NoteAt w' A2 A5 none A7 k2 k5 0 k7 ⟨l, Ve.joinL [l, [(y.1, y.2.1)]], [], [y]⟩ from NoteAt.mk o2 o5 OneL.nil o7)
      have hB := HB1.out.later (below_on bb4 hb)
      have hbw := below_on hb0 (below_on bb4 hb)
      clear o2 o5 o7 hf
      simp only [List.drop_succ_cons, List.drop_zero]
      rw [h2, h5, h7]
      obtain ⟨⟨z0, z1, z2, z3⟩, r0, r1, r2, r3⟩ := nt_cells hB
      go_wp2
      have hN4 := HO.out.puts hB ⟨rfl, rfl, rfl, rfl⟩ (.slice A2 l.length k2) (.slice A5 (Ve.joinL [l, [(y.1, y.2.1)]]).length k5) (.slice none 0 0) (.slice A7 1 k7) ⟨rfl, rfl, rfl⟩
      refine bodyPost_ret (results_cell_tmp (p := 4) (t1 := 5) (ty := 26) rfl _ _ (w.heap.size + 1) 26 (noteCells A2 A5 none A7 k2 k5 0 k7 ⟨l, Ve.joinL [l, [(y.1, y.2.1)]], [], [y]⟩) _ rfl (nt_puts hB A2 A5 none A7 k2 k5 0 k7 ⟨l, Ve.joinL [l, [(y.1, y.2.1)]], [], [y]⟩) Try.underlying26 rfl infoNt) rfl ?_
      rw [HT2.out]
      exact ⟨_, _, _, _, _, _, _, _, rfl, hN4, below_puts hbw (by omega) _ _ _ _⟩

end Go.Proofs.Ytoaclofobfaflaa
namespace Go.Proofs.Ytoaclofobfaflaa
open Go.RowKit Fb

set_option maxRecDepth 100000 in
set_option maxHeartbeats 6400000 in
theorem dntold_any (S E B V : Option Addr) (cs ce cb cv : Nat) (n : Note) (o : Int) (w : World) (h1 : NoteAt w S E B V cs ce cb cv n) :
    Calls Try.prog 23 #[.agg (noteCells S E B V cs ce cb cv n), .int .i64 o] w (Says (Nt.toldV (Nt.told n o)) w) := by
  obtain ⟨W, hW⟩ : ∃ W, (w.alloc (.cells (noteCells S E B V cs ce cb cv n) 26)).alloc (.cells #[.int .i64 0, .int .i64 0, .int .i64 0, .bool false] 35) = W := ⟨_, rfl⟩
  have hb0 : Below w.heap.size w W := by rw [← hW]; exact below_new (below_new (Below.refl _ _) _) _
  have hB0 : Blk W w.heap.size 26 (noteCells S E B V cs ce cb cv n) := by rw [← hW]; exact (Blk.new w _ _).alloc _
  have hB1 : Blk W (w.heap.size + 1) 35 (Nt.wrArr Nt.zeroW) := by
    rw [← hW, show w.heap.size + 1 = (w.alloc (.cells (noteCells S E B V cs ce cb cv n) 26)).heap.size from by simp]
    exact Blk.new _ _ _
  obtain ⟨c0, c1, c2, c3⟩ := note_cells hB0
  have p0 := c0
  have p1 := c1
  have p2 := c2
  have p3 := c3
  rw [← hW] at p0 p1 p2 p3
  have HN := Lib.hid (h1.later hb0)
  have HB1 := Lib.hid hB1
  have N0 := Lib.hid (show Calls Try.prog 12 #[.agg #[.slice S n.s.length cs, .slice E n.e.length ce, .slice B n.b.length cb, .slice V n.ws.length cv]] W (Says (.bool (Nt.fmd n)) W) from dnformed_any S E B V cs ce cb cv n W (h1.later hb0))
  have NO := Lib.hid (fun wx => nisObject_any o wx)
  have HOB := Lib.hid (show (0 ≤ o ∧ o ≤ 255) ↔ decide (0 ≤ o ∧ o ≤ 255) = true from decide_eq_true_iff.symm)
  obtain ⟨xo, hxo⟩ : ∃ x, decide (0 ≤ o ∧ o ≤ 255) = x := ⟨_, rfl⟩
  rw [hxo] at NO HOB
  have HT := Lib.hid (show Nt.told n o = if Nt.fmd n = true ∧ 0 ≤ o ∧ o ≤ 255 then (if (Nt.at_ n.ws o).2 = true then ((Nt.at_ n.ws o).1, true, 0) else (Nt.zeroW, !inOf n.b o, 8)) else (Nt.zeroW, false, 1) from rfl)
  obtain ⟨x0, hx0⟩ : ∃ x, Nt.fmd n = x := ⟨_, rfl⟩
  rw [hx0] at N0 HT
  have HW := Lib.hid hW
  clear hW hB0 hB1 h1 hx0 hxo
  have hcs : (x0 = false) ∨ (x0 = true ∧ xo = false) ∨ (x0 = true ∧ xo = true) := by
    cases x0 <;> cases xo <;> simp
  rcases hcs with rfl | ⟨rfl, rfl⟩ | ⟨rfl, rfl⟩
  · have HT2 := Lib.hid (HT.out.trans (if_neg (fun h => by cases h.1)))
    go_enter Try.func23, Try.ntmps23
    go_wp2_with fail
    rw [HW.out]
    refine N0.out.mono ?_
    rintro e w1 ⟨rfl, b1⟩
    have hq := HB1.out.later b1
    obtain ⟨⟨z0, z1, z2, z3⟩, y0, y1, y2, y3⟩ := wr_cells hq
    have HQ := Lib.hid hq
    clear hq
    go_wp2
    exact bodyPost_ret (v := Nt.toldV (Nt.zeroW, false, 1)) (results_cell_tmp2 (p := 4) (t1 := 5) (t2 := 6) (ty := 35) rfl _ _ (w.heap.size + 1) 35 (Nt.wrArr Nt.zeroW) _ rfl (wr_puts HQ.out Nt.zeroW) Try.underlying35 rfl infoW4) rfl ⟨by rw [HT2.out], below_puts (below_on hb0 b1) (by omega) _ _ _ _⟩
  · have HT2 := Lib.hid (HT.out.trans (if_neg (fun h => by have := HOB.out.1 h.2; cases this)))
    go_enter Try.func23, Try.ntmps23
    go_wp2_with fail
    rw [HW.out]
    refine N0.out.mono ?_
    rintro e w1 ⟨rfl, b1⟩
    go_wp2_with fail
    refine (NO.out _).mono ?_
    rintro e w2 ⟨rfl, b2⟩
    have bb2 := below_on b1 b2
    have hq := HB1.out.later bb2
    obtain ⟨⟨z0, z1, z2, z3⟩, y0, y1, y2, y3⟩ := wr_cells hq
    have HQ := Lib.hid hq
    clear hq
    go_wp2
    exact bodyPost_ret (v := Nt.toldV (Nt.zeroW, false, 1)) (results_cell_tmp2 (p := 4) (t1 := 5) (t2 := 6) (ty := 35) rfl _ _ (w.heap.size + 1) 35 (Nt.wrArr Nt.zeroW) _ rfl (wr_puts HQ.out Nt.zeroW) Try.underlying35 rfl infoW4) rfl ⟨by rw [HT2.out], below_puts (below_on hb0 bb2) (by omega) _ _ _ _⟩
  have HT2 := Lib.hid (HT.out.trans (if_pos ⟨rfl, HOB.out.2 rfl⟩))
  have NH := Lib.hid (fun wx (hb : Below W.heap.size W wx) => sphas_any B cb n.b o wx (HN.out.hb.later hb))
  obtain ⟨ib, hib⟩ : ∃ ib, inOf n.b o = ib := ⟨_, rfl⟩
  rw [hib] at NH HT2
  clear hib
  have hlenw := HN.out.hv.len
  go_enter Try.func23, Try.ntmps23
  go_wp2_with fail
  rw [HW.out]
  refine N0.out.mono ?_
  rintro e w1 ⟨rfl, b1⟩
  go_wp2_with fail
  refine (NO.out _).mono ?_
  rintro e w2 ⟨rfl, b2⟩
  have bb2 := below_on b1 b2
  have q3 := cell_later bb2 c3
  go_wp2_with fail
  go_loopw [21] (fun s21 wr => ∃ k : Nat, k ≤ n.ws.length ∧ s21 = .int .i64 (k : Int) ∧ (∀ j, j < k → Nt.obj n.ws j ≠ o) ∧ Below W.heap.size W wr) (fun s21 _ => n.ws.length - (intOf s21).toNat)
  case atStart => exact ⟨0, Nat.zero_le _, rfl, (fun j hj => by omega), bb2⟩
  case round =>
    obtain ⟨k, hk, rfl, hall, hbw⟩ := hrel
    have HALL := Lib.hid hall
    clear hall p0 p1 p2 p3 q3
    by_cases hlt : k < n.ws.length
    · have hne : n.ws ≠ [] := fun e => by rw [e] at hlt; simp at hlt
      obtain ⟨b, off, hA, hcA⟩ := (HN.out.hv.later hbw).at hne
      subst hA
      obtain ⟨e0, e1, e2, e3⟩ := hcA k hlt
      clear hcA
      have hi0 : (0 : Int) ≤ (k : Int) := by omega
      have hi1 : (k : Int) < (n.ws.length : Int) := by omega
      have hob : (n.ws.getD k Nt.zeroW).2.2.1 = Nt.obj n.ws k := rfl
      have hat := fun h => Nt.at_some hlt h HALL.out
      obtain ⟨x, hx⟩ : ∃ x, n.ws.getD k Nt.zeroW = x := ⟨_, rfl⟩
      rw [hx] at e0 e1 e2 e3 hob hat
      obtain ⟨x1, x2, x3, x4⟩ := x
      have HX := Lib.hid (show x3 = Nt.obj n.ws k from hob)
      have HAT := Lib.hid hat
      obtain ⟨W1, hW1⟩ : ∃ W1, wr.alloc (.cells #[.int .i64 x1, .int .i64 x2, .int .i64 x3, .bool x4] 35) = W1 := ⟨_, rfl⟩
      have hbn : Below wr.heap.size wr W1 := by rw [← hW1]; exact below_new (Below.refl _ _) _
      have hBx : Blk W1 wr.heap.size 35 #[.int .i64 x1, .int .i64 x2, .int .i64 x3, .bool x4] := by rw [← hW1]; exact Blk.new wr _ _
      have hbw1 := below_on hbw hbn
      have hq := HB1.out.later hbw1
      obtain ⟨⟨z0, z1, z2, z3⟩, y0, y1, y2, y3⟩ := wr_cells hq
      have r0 := hBx.cell (i := 0) rfl
      have r1 := hBx.cell (i := 1) rfl
      have r2 := hBx.cell (i := 2) rfl
      have r3 := hBx.cell (i := 3) rfl
      have hq0 := hq
      rw [← hW1] at r0 r1 r2 r3 z0 z1 z2 z3 y0 y1 y2 y3 hq0
      have hbw0 := hbw1
      rw [← hW1] at hbw0
      have HQ := Lib.hid hq0
      have HBW := Lib.hid hbw0
      have hneq : w.heap.size + 1 ≠ wr.heap.size := by have := hbw.size; have := HB1.out.lt; omega
      have hneq2 : wr.heap.size ≠ w.heap.size + 1 := Ne.symm hneq
      clear hx hob hat hBx hW1 hq hq0 hbw0 hbw1
      by_cases heq : x3 = o
      · have hd : (x3 == o) = true := beq_iff_eq.2 heq
        have HA2 := Lib.hid (HAT.out (by rw [← HX.out]; exact heq))
        clear heq
        go_wp2
        exact bodyPost_ret (v := Nt.toldV ((x1, x2, x3, x4), true, 0)) (results_cell_tmp2 (p := 4) (t1 := 5) (t2 := 6) (ty := 35) rfl _ _ (w.heap.size + 1) 35 (Nt.wrArr (x1, x2, x3, x4)) _ rfl (wr_puts HQ.out (x1, x2, x3, x4)) Try.underlying35 rfl infoW4) rfl ⟨by rw [HT2.out, HA2.out]; rfl, below_puts (below_on hb0 HBW.out) (by omega) _ _ _ _⟩
      · have hd : (x3 == o) = false := beq_eq_false_iff_ne.2 heq
        have HT3 := Lib.hid (show ∀ j, j < k + 1 → Nt.obj n.ws j ≠ o from fun j hj => by
          by_cases e : j = k
          · subst e; rw [← HX.out]; exact heq
          · exact HALL.out j (by omega))
        clear heq
        go_wp2_with fail
        go_roundw
        case rel => exact ⟨k + 1, by omega, by go_num, HT3.out, HBW.out⟩
        case measure => simp [intOf]; omega
    · have hkl : k = n.ws.length := by omega
      have HA2 := Lib.hid (Nt.at_none (l := n.ws) (o := o) (fun j hj => HALL.out j (by omega)))
      have q2 := cell_later hbw c2
      subst hkl
      go_wp2_with fail
      refine (NH.out _ hbw).mono ?_
      rintro e w4 ⟨rfl, b4⟩
      have hbw4 := below_on hbw b4
      have hq := HB1.out.later hbw4
      obtain ⟨⟨z0, z1, z2, z3⟩, y0, y1, y2, y3⟩ := wr_cells hq
      have HQ := Lib.hid hq
      clear hq
      go_wp2
      exact bodyPost_ret (v := Nt.toldV (Nt.zeroW, !ib, 8)) (results_cell_tmp2 (p := 4) (t1 := 5) (t2 := 6) (ty := 35) rfl _ _ (w.heap.size + 1) 35 (Nt.wrArr Nt.zeroW) _ rfl (wr_puts HQ.out Nt.zeroW) Try.underlying35 rfl infoW4) rfl ⟨by rw [HT2.out, HA2.out]; rfl, below_puts (below_on hb0 hbw4) (by omega) _ _ _ _⟩

theorem infoInt1 : (Try.prog.info? 3).map (fun i => (i.zero, i.size, i.bytes)) = some (some (.int .i64 0), 1, 8) := by kernel_rfl

/-- The objects of the first k writes. -/
def Nt.objs (ws : List Wr) (k : Nat) : List Int := (ws.take k).map (·.2.2.1)
theorem Nt.objs_step (ws : List Wr) (k : Nat) (h : k < ws.length) : Nt.objs ws (k + 1) = Nt.objs ws k ++ [(ws.getD k Nt.zeroW).2.2.1] := by
  unfold Nt.objs
  rw [List.take_succ_eq_append_getElem h, List.map_append, List.getD_eq_getElem?_getD, List.getElem?_eq_getElem h]
  rfl
theorem Nt.objs_len (ws : List Wr) (k : Nat) (h : k ≤ ws.length) : (Nt.objs ws k).length = k := by
  unfold Nt.objs
  rw [List.length_map, List.length_take]
  omega

set_option maxRecDepth 100000 in
set_option maxHeartbeats 1600000 in
theorem written_any (V : Option Addr) (cv : Nat) (ws : List Wr) (w : World) (hl8 : ws.length * 8 ≤ 140737488355328) (h : OneW w V cv ws) :
    Calls Try.prog 55 #[.slice V ws.length cv] w (GivesS (Sp.ofL (Sp.someOf (ws.map (·.2.2.1)))) w) := by
  obtain ⟨i0, hi, hz0, hz1, hz2⟩ := info_parts infoInt1
  have hlen := h.len
  have HV := Lib.hid h
  obtain ⟨R, hR⟩ : ∃ R, Sp.ofL (Sp.someOf (ws.map (·.2.2.1))) = R := ⟨_, rfl⟩
  rw [hR]
  have HR := Lib.hid hR
  clear h hR
  go_enter Try.func55, Try.ntmps55
  go_wp2_with fail
  go_loopw [3, 8] (fun s3 s8 wr => ∃ k : Nat, k ≤ ws.length ∧ s8 = .int .i64 (k : Int) ∧ wr.ownsRow w.heap.size 3 1 s3 (Nt.objs ws k).length ((Nt.objs ws k).map (Value.int .i64)) ∧ Below w.heap.size w wr) (fun _ s8 _ => ws.length - (intOf s8).toNat)
  case atStart => exact ⟨0, Nat.zero_le _, rfl, ⟨rfl, .inl ⟨rfl, rfl⟩⟩, Below.refl _ _⟩
  case round =>
    obtain ⟨k, hk, rfl, hown, hbw⟩ := hrel
    by_cases hlt : k < ws.length
    · have hne : ws ≠ [] := fun e => by subst e; simp at hlt
      obtain ⟨b, off, hA, hcA⟩ := (HV.out.later hbw).at hne
      subst hA
      obtain ⟨e0, e1, e2, e3⟩ := hcA k hlt
      clear hcA
      have hi0 : (0 : Int) ≤ (k : Int) := by omega
      have hi1 : (k : Int) < (ws.length : Int) := by omega
      have hst := Nt.objs_step ws k hlt
      have hln := Nt.objs_len ws k hk
      obtain ⟨x, hx⟩ : ∃ x, ws.getD k Nt.zeroW = x := ⟨_, rfl⟩
      rw [hx] at e0 e1 e2 e3 hst
      obtain ⟨x1, x2, x3, x4⟩ := x
      have HST := Lib.hid (show Nt.objs ws (k + 1) = Nt.objs ws k ++ [x3] from hst)
      have hbw1 := below_new hbw (.cells #[.int .i64 x1, .int .i64 x2, .int .i64 x3, .bool x4] 35)
      have ho1 := hown.alloc (.cells #[.int .i64 x1, .int .i64 x2, .int .i64 x3, .bool x4] 35)
      have hsz := hbw.size
      clear hx hst hown
      go_wp2_with (at_builtin; refine wpList_append_lies _ rfl _ _ 94 rfl w.heap.size 3 i0 (.int .i64 0) 1 8 Try.underlying94 hi hz0 hz1 hz2 rfl (by decide) _ (Nt.objs ws k).length ((Nt.objs ws k).map (Value.int .i64)) rfl (ho1.alloc _) (some ⟨wr.heap.size + 1, 0, none⟩) 1 1 (fun h => by cases h) [.int .i64 x3] rfl rfl ?c1 (by intro u hu; simp at hu; subst hu; rfl) ?c3 ?c4 ?c5 ?_)
      case c1 =>
        intro _
        refine ⟨wr.heap.size + 1, 0, rfl, fun j u hu => ?_⟩
        rw [Nat.zero_add]
        have hn := Blk.new (wr.alloc (.cells #[.int .i64 x1, .int .i64 x2, .int .i64 x3, .bool x4] 35)) 3 #[.int .i64 x3]
        rw [show (wr.alloc (.cells #[.int .i64 x1, .int .i64 x2, .int .i64 x3, .bool x4] 35)).heap.size = wr.heap.size + 1 from by simp] at hn
        exact hn.cell (by simpa using hu)
      case c3 => first | (unfold maxLen; omega) | (rw [hln]; unfold maxLen; omega)
      case c4 => first | omega | (rw [hln]; omega)
      case c5 => first | omega | (simp; omega)
      intro v' w1 hown1 hg1 _
      have hb1 : Below w.heap.size w w1 := (below_new hbw1 _).grown hg1 (by simp; omega) (fun k' hk' => own_ge ho1 _ hk')
      rw [show ((Nt.objs ws k).map (Value.int .i64)) ++ [Value.int .i64 x3] = (Nt.objs ws k ++ [x3]).map (Value.int .i64) from by simp, show k + 1 = (Nt.objs ws k ++ [x3]).length from by simp [hln], ← HST.out] at hown1
      have HO := Lib.hid hown1
      clear hown1 ho1 hg1
      go_wp2_with fail
      go_roundw
      case rel => exact ⟨k + 1, by omega, by go_num, HO.out, hb1⟩
      case measure => simp [intOf]; omega
    · have hkl : k = ws.length := by omega
      subst hkl
      have hob : Nt.objs ws ws.length = ws.map (·.2.2.1) := by unfold Nt.objs; rw [List.take_length]
      rw [hob] at hown
      obtain ⟨A, c, rfl, h1, h2, h3, h4⟩ := own_form hown
      have hxl : (ws.map (·.2.2.1)).length ≤ 9223372036854775807 := by rw [List.length_map]; exact hlen
      have n := spof_any A c (ws.map (·.2.2.1)) wr hxl h4
      rw [HR.out] at n
      obtain ⟨xs, hxs⟩ : ∃ xs, ws.map (·.2.2.1) = xs := ⟨_, rfl⟩
      rw [hxs] at n
      have N := Lib.hid n
      clear hown hob h4 n h1 hxl
      rw [hxs]
      clear hxs
      go_wp2_with fail
      refine N.out.mono ?_
      rintro e w1 ⟨v, rfl, ho, b1⟩
      have HO := Lib.hid ho
      have hz := hbw.size
      clear ho
      go_wp2
      go_ret
      exact ⟨_, rfl, own_base HO.out (by omega), below_on hbw b1⟩

end Go.Proofs.Ytoaclofobfaflaa
