/-
  What slices.IndexFunc and slices.DeleteFunc do at a list of files, whatever the predicate, as long as that leaves all memory as it was.
-/
import Derived.Test.YtgjcpdcepmgafaaDkCopy
import Derived.Shelf.Abstract
namespace Go.Proofs.Ytgjcpdcepmgafaa
open Go.RowKit

/-- All blocks but one are as they were. -/
structure Oth (w w' : World) (b : Nat) : Prop where
  size : w.heap.size ≤ w'.heap.size
  same : ∀ k, k < w.heap.size → k ≠ b → w'.heap[k]? = w.heap[k]?
theorem Oth.of_below {w w' : World} {b : Nat} (h : Below w.heap.size w w') : Oth w w' b := ⟨h.size, fun k hk _ => h.block k hk⟩
theorem Oth.later {w w1 w2 : World} {b : Nat} (h : Oth w w1 b) (hb : Below w1.heap.size w1 w2) : Oth w w2 b := ⟨Nat.le_trans h.size hb.size, fun k hk hne => (hb.block k (Nat.lt_of_lt_of_le hk h.size)).trans (h.same k hk hne)⟩
theorem Oth.put {w w1 : World} {b o : Nat} (h : Oth w w1 b) (u : Value) : Oth w (w1.setCell ⟨b, o, none⟩ u) b := ⟨by simpa using h.size, fun k hk hne => (Below.heap_setCell w1 ⟨b, o, none⟩ u k hne).trans (h.same k hk hne)⟩
theorem Oth.cells {w : World} {b : Nat} : ∀ (vs : List Value) (o : Nat) (w1 : World), Oth w w1 b → Oth w (w1.setCells b o vs) b
  | [], _, _, h => h
  | v :: r, o, _, h => Oth.cells r (o + 1) _ (h.put v)

/-- A function value that says of each element whether p holds of it, in every world that is as wb was below. -/
def PredF (wb : World) (fn : Nat) (lb : Array Value) (p : Fc → Bool) : Prop := ∀ (W : World) (x : Fc), Below wb.heap.size wb W → Calls Try.prog fn (#[.agg #[.int .i64 x.num, .slice x.X x.l.length x.c, .int .i64 x.s]] ++ lb) W fun e w' => e = .returned (.bool (p x)) ∧ Below W.heap.size W w'
theorem PredF.later {wb w' : World} {fn : Nat} {lb : Array Value} {p : Fc → Bool} (h : PredF wb fn lb p) (hb : Below wb.heap.size wb w') : PredF w' fn lb p := fun W x hW => h W x (below_on hb hW)

set_option maxHeartbeats 1600000 in
theorem indexFuncF_any (p : Fc → Bool) (fn : Nat) (lb : Array Value) (eg : ∀ args w, (callFunc fn args).run Try.prog w = .ok (.enter fn args) w) (wb : World) (b off cap : Nat) (D : List Fc) (w : World)
    (hp : PredF wb fn lb p) (hB : Below wb.heap.size wb w) (hlt : b < w.heap.size) (hL : Lay w b off (fCells D)) (hmax : D.length ≤ 9223372036854775807) (r : Int)
    (hr : (r = -1 ∧ ∀ t (h : t < D.length), p D[t] = false) ∨ ∃ t, ∃ h : t < D.length, r = (t : Int) ∧ p D[t] = true ∧ ∀ u (h : u < t), p (D[u]'(by omega)) = false) :
    Calls Try.prog 48 #[.slice (some ⟨b, off, none⟩) D.length cap, .func (.func fn) #[] lb] w fun e w' => e = .returned (.int .i64 r) ∧ Below w.heap.size w w' := by
  have HL := Lib.hid hL
  have HP := Lib.hid hp
  have HR := Lib.hid hr
  have HB := Lib.hid hB
  clear hL hp hr hB
  go_enter Try.func48, Try.ntmps48
  go_wp2_with fail
  go_loopw [5, 8] (fun _ s8 wr => ∃ k : Nat, k ≤ D.length ∧ s8 = .int .i64 (k : Int) ∧ (∀ u, u < k → ∀ h : u < D.length, p D[u] = false) ∧ Below w.heap.size w wr) (fun _ s8 _ => D.length - (intOf s8).toNat)
  case atStart => exact ⟨0, Nat.zero_le _, rfl, (fun u hu => by omega), Below.refl _ _⟩
  case round =>
    obtain ⟨k, hk, rfl, hall, hbw⟩ := hrel
    have HALL := Lib.hid hall
    clear hall
    by_cases hlt2 : k < D.length
    · have hi0 : (0 : Int) ≤ (k : Int) := by omega
      have hi1 : (k : Int) < (D.length : Int) := by omega
      obtain ⟨x, hx⟩ : ∃ x, D[k] = x := ⟨_, rfl⟩
      have hx2 : D[k]? = some x := by rw [List.getElem?_eq_getElem hlt2, hx]
      obtain ⟨g0, g1, g2⟩ := fCells_get D x k hx2
      have L2 := HL.out.later hlt hbw
      have e0 := (L2 _ _ g0).1
      have e1 := (L2 _ _ g1).1
      have e2 := (L2 _ _ g2).1
      rw [← Nat.add_assoc] at e1
      rw [← Nat.add_assoc] at e2
      have cl := HP.out wr x (below_on HB.out hbw)
      have hpx : p D[k] = p x := by rw [hx]
      obtain ⟨px, hpxx⟩ : ∃ px, p x = px := ⟨_, rfl⟩
      rw [hpxx] at cl hpx
      obtain ⟨num, X, cx, l, sr⟩ := x
      have CL := Lib.hid cl
      have HX := Lib.hid hpx
      clear cl hpx hx hx2 hpxx L2 g0 g1 g2
      cases px with
      | true =>
        go_wp2_with (go_at_fn fn; refine CL.out.mono ?_; rintro e w1 ⟨rfl, b1⟩)
        go_ret
        have hrk : r = (k : Int) := by
          rcases HR.out with ⟨_, h2⟩ | ⟨t, ht, h1, h2, h3⟩
          · have := h2 k hlt2; rw [HX.out] at this; cases this
          · rw [h1]
            rcases Nat.lt_trichotomy t k with h4 | h4 | h4
            · have := HALL.out t h4 ht; rw [h2] at this; cases this
            · rw [h4]
            · have := h3 k h4; rw [HX.out] at this; cases this
        exact ⟨by rw [hrk]; rfl, below_on hbw b1⟩
      | false =>
        go_wp2_with (go_at_fn fn; refine CL.out.mono ?_; rintro e w1 ⟨rfl, b1⟩)
        go_roundw
        case rel => exact ⟨k + 1, by omega, by go_num, (fun u hu h => by
          by_cases e : u = k
          · subst e; exact HX.out
          · exact HALL.out u (by omega) h), below_on hbw b1⟩
        case measure => simp [intOf]; omega
    · have hkl : k = D.length := by omega
      subst hkl
      go_wp2
      go_ret
      have hrk : r = -1 := by
        rcases HR.out with ⟨h1, _⟩ | ⟨t, ht, h1, h2, h3⟩
        · exact h1
        · have := HALL.out t ht ht; rw [h2] at this; cases this
      exact ⟨by rw [hrk]; rfl, hbw⟩

theorem zeroCellsF (m : Nat) : (Builtin.zeroCells (Value.cells (.agg #[.int .i64 0, .slice none 0 0, .int .i64 0])) m).toList.length = m * 3 ∧ ∀ u ∈ (Builtin.zeroCells (Value.cells (.agg #[.int .i64 0, .slice none 0 0, .int .i64 0])) m).toList, u.oneCell' = true := by
  refine ⟨by rw [Array.length_toList, size_zeroCells]; rfl, fun u hu => ?_⟩
  unfold Builtin.zeroCells at hu
  simp [Value.cells] at hu
  obtain ⟨a, _, rfl⟩ := hu
  have h3 : a % 3 < 3 := Nat.mod_lt _ (by omega)
  rcases (show a % 3 = 0 ∨ a % 3 = 1 ∨ a % 3 = 2 from by omega) with h | h | h <;> simp [h, Value.oneCell']

theorem f_take (l : List Fc) (n : Nat) : ∀ (j : Nat) (u : Value), (fCells (l.take n))[j]? = some u → (fCells l)[j]? = some u := by
  intro j u hu
  rw [← List.take_append_drop n l, fCells_append, List.getElem?_append_left (List.getElem?_eq_some_iff.1 hu).1]
  exact hu

set_option maxRecDepth 100000 in
set_option maxHeartbeats 6400000 in
/-- DeleteFunc: the kept ones, in their order, at the head of the same memory. -/
theorem deleteFuncF_any (p : Fc → Bool) (fn : Nat) (lb : Array Value) (eg : ∀ args w, (callFunc fn args).run Try.prog w = .ok (.enter fn args) w) (wb : World) (b off cap : Nat) (D : List Fc) (w : World)
    (hp : PredF wb fn lb p) (hB : Below wb.heap.size wb w) (hlt : b < w.heap.size) (hbb : wb.heap.size ≤ b) (hL : Lay w b off (fCells D)) (hcap : D.length ≤ cap) (hmax : cap ≤ 9223372036854775807) :
    Calls Try.prog 40 #[.slice (some ⟨b, off, none⟩) D.length cap, .func (.func fn) #[] lb] w fun e w' => e = .returned (.slice (some ⟨b, off, none⟩) (D.filter fun x => !p x).length cap) ∧ Lay w' b off (fCells (D.filter fun x => !p x)) ∧ Below wb.heap.size wb w' ∧ Oth w w' b := by
  have hfind : (∀ t (h : t < D.length), p D[t] = false) ∨ ∃ t, ∃ h : t < D.length, p D[t] = true ∧ ∀ u (h : u < t), p (D[u]'(by omega)) = false := by
    cases hf : D.findIdx? p with
    | none =>
      rw [List.findIdx?_eq_none_iff] at hf
      exact .inl fun t h => by simpa using hf D[t] (List.getElem_mem h)
    | some t =>
      rw [List.findIdx?_eq_some_iff_getElem] at hf
      obtain ⟨h1, h2, h3⟩ := hf
      exact .inr ⟨t, h1, h2, fun u hu => by simpa using h3 u hu⟩
  rcases hfind with hall | ⟨t0, ht0, hyes, hno⟩
  · have hfil : (D.filter fun x => !p x) = D := List.filter_eq_self.2 fun x hx => by
      obtain ⟨t, ht, rfl⟩ := List.mem_iff_getElem.1 hx
      rw [hall t ht]; rfl
    rw [hfil]
    have N := Lib.hid (indexFuncF_any p fn lb eg wb b off cap D w hp hB hlt hL (by omega) (-1) (.inl ⟨rfl, hall⟩))
    have HL := Lib.hid hL
    clear hL hp hall hfil
    go_enter Try.func40, Try.ntmps40
    go_wp2_with fail
    refine N.out.mono ?_
    rintro e w1 ⟨rfl, b1⟩
    go_wp2
    go_ret
    exact ⟨rfl, HL.out.later hlt b1, below_on hB b1, Oth.of_below b1⟩
  · have N := Lib.hid (indexFuncF_any p fn lb eg wb b off cap D w hp hB hlt hL (by omega) (t0 : Int) (.inr ⟨t0, ht0, rfl, hyes, hno⟩))
    have HL := Lib.hid hL
    have HP := Lib.hid hp
    have HS := Lib.hid (KeptL.start (q := fun x => !p x) ht0 (fun u hu => by show (!p D[u]) = true; rw [hno u hu]; rfl) (by show (!p D[t0]) = false; rw [hyes]; rfl))
    have HBW := Lib.hid hB
    clear hL hp hyes hno hB
    have ht1 : ((t0 : Int) == -1) = false := beq_eq_false_iff_ne.2 (by omega)
    go_enter Try.func40, Try.ntmps40
    go_wp2_with fail
    refine N.out.mono ?_
    rintro e w1 ⟨rfl, b1⟩
    go_wp2_with fail
    go_loopw [5, 6, 7] (fun s5 s6 _ wr => ∃ (i j : Nat) (Dk : List Fc), s5 = .int .i64 (i : Int) ∧ s6 = .int .i64 (j : Int) ∧ KeptL (fun x => !p x) D j i Dk ∧ Lay wr b off (fCells Dk) ∧ b < wr.heap.size ∧ Below wb.heap.size wb wr ∧ Oth w wr b) (fun _ s6 _ _ => D.length - (intOf s6).toNat)
    case atStart => exact ⟨t0, t0 + 1, D, rfl, by go_num, HS.out, HL.out.later hlt b1, Nat.lt_of_lt_of_le hlt b1.size, below_on HBW.out b1, Oth.of_below b1⟩
    case round =>
      obtain ⟨i, j, Dk, rfl, rfl, hK, hLk, hlk, hbk, hoth⟩ := hrel
      have hij := hK.lt
      have hjD := hK.le
      have hlD := hK.len
      have KK := Lib.hid hK
      have LK := Lib.hid hLk
      have HBK := Lib.hid hbk
      have HOT := Lib.hid hoth
      clear hK hLk hbk hoth
      by_cases hlt2 : j < D.length
      · have hi0 : (0 : Int) ≤ (j : Int) := by omega
        have hi1 : (j : Int) < (D.length : Int) := by omega
        have hi2 : (0 : Int) ≤ (i : Int) := by omega
        have hi3 : (i : Int) < (D.length : Int) := by omega
        obtain ⟨x, hx⟩ : ∃ x, D[j] = x := ⟨_, rfl⟩
        have hx2 : Dk[j]? = some x := by rw [KK.out.get hlt2, hx]
        obtain ⟨g0, g1, g2⟩ := fCells_get Dk x j hx2
        have e0 := (LK.out _ _ g0).1
        have e1 := (LK.out _ _ g1).1
        have e2 := (LK.out _ _ g2).1
        rw [← Nat.add_assoc] at e1
        rw [← Nat.add_assoc] at e2
        have hkp := fun h => KK.out.keep (j := j) hlt2 h
        have hsk := fun h => KK.out.skip (j := j) hlt2 h
        rw [hx] at hkp hsk
        obtain ⟨px, hpxx⟩ : ∃ px, p x = px := ⟨_, rfl⟩
        obtain ⟨W1, hW1⟩ : ∃ W1, wr.alloc (.cells #[.int .i64 x.num, .slice x.X x.l.length x.c, .int .i64 x.s] 43) = W1 := ⟨_, rfl⟩
        have hbn : Below wr.heap.size wr W1 := by rw [← hW1]; exact below_new (Below.refl _ _) _
        have hB1 : Blk W1 wr.heap.size 43 #[.int .i64 x.num, .slice x.X x.l.length x.c, .int .i64 x.s] := by rw [← hW1]; exact Blk.new wr _ _
        have cl := HP.out W1 x (below_on HBK.out hbn)
        have hset := fCells_set Dk x i (by omega)
        rw [hpxx] at cl
        have hkp2 : px = false → KeptL (fun x => !p x) D (j + 1) (i + 1) (Dk.set i x) := fun h => hkp (by show (!p x) = true; rw [hpxx, h]; rfl)
        have hsk2 : px = true → KeptL (fun x => !p x) D (j + 1) i Dk := fun h => hsk (by show (!p x) = false; rw [hpxx, h]; rfl)
        obtain ⟨old, hold⟩ : ∃ old, Dk[i]? = some old := ⟨Dk[i], List.getElem?_eq_getElem (by omega)⟩
        obtain ⟨og0, og1, og2⟩ := fCells_get Dk old i hold
        have LK1 := LK.out.later hlk hbn
        have hlk1 : b < W1.heap.size := Nat.lt_of_lt_of_le hlk hbn.size
        have CL := Lib.hid cl
        have HB1 := Lib.hid hB1
        have HLK1 := Lib.hid LK1
        have HW1 := Lib.hid hW1
        have HK2 := Lib.hid hkp2
        have HS2 := Lib.hid hsk2
        have HSET := Lib.hid hset
        have OG0 := Lib.hid og0
        have OG1 := Lib.hid og1
        have OG2 := Lib.hid og2
        clear cl hB1 LK1 hW1 hkp2 hsk2 hset hkp hsk hpxx hx hx2 hold g0 g1 g2 og0 og1 og2
        obtain ⟨num, X, cx, l, sr⟩ := x
        have q := HB1.out
        have q0 := q.cell (i := 0) rfl
        have q1 := q.cell (i := 1) rfl
        have q2 := q.cell (i := 2) rfl
        clear q
        cases px with
        | true =>
          go_wp2_with fail
          rw [HW1.out]
          go_wp2_with (go_at_fn fn; refine CL.out.mono ?_; rintro e w2 ⟨rfl, b2⟩)
          go_roundw
          case rel => exact ⟨i, j + 1, Dk, rfl, by go_num, HS2.out (by first | rfl | trivial), HLK1.out.later hlk1 b2, Nat.lt_of_lt_of_le hlk1 b2.size, below_on HBK.out (below_on hbn b2), (HOT.out.later hbn).later b2⟩
          case measure => simp [intOf]; omega
        | false =>
          go_wp2_with fail
          rw [HW1.out]
          go_wp2_with fail
          refine CL.out.mono ?_
          rintro e w2 ⟨rfl, b2⟩
          have L2 := HLK1.out.later hlk1 b2
          have r0 := cell_later b2 q0
          have r1 := cell_later b2 q1
          have r2 := cell_later b2 q2
          have u0 := (L2 _ _ OG0.out).1
          have f0 := (L2 _ _ OG0.out).2
          have u1 := (L2 _ _ OG1.out).1
          have f1 := (L2 _ _ OG1.out).2
          rw [← Nat.add_assoc] at u1 f1
          have u2 := (L2 _ _ OG2.out).1
          have f2 := (L2 _ _ OG2.out).2
          rw [← Nat.add_assoc] at u2 f2
          have HL2 := Lib.hid L2
          clear L2 q0 q1 q2
          go_wp2_with fail
          go_roundw
          case rel =>
            have h := (((HL2.out.put (i * 3) (.int .i64 num)).put (i * 3 + 1) (.slice X l.length cx)).put (i * 3 + 2) (.int .i64 sr))
            rw [HSET.out] at h
            exact ⟨i + 1, j + 1, _, by go_num, by go_num, HK2.out (by first | rfl | trivial), h, by simpa using Nat.lt_of_lt_of_le hlk1 b2.size, (((below_on HBK.out (below_on hbn b2)).setCell (p := ⟨b, _, none⟩) hbb _).setCell (p := ⟨b, _, none⟩) hbb _).setCell (p := ⟨b, _, none⟩) hbb _, ((((HOT.out.later hbn).later b2).put _).put _).put _⟩
          case measure => simp [intOf]; omega
      · have hkl : j = D.length := by omega
        subst hkl
        have hin : i < D.length := by omega
        have hlen : (fCells Dk).length = D.length * 3 := by rw [fCells_length, hlD]
        have hzl := zeroCellsF (D.length - i)
        have hcl : ∀ ty, (Builtin.clear_ #[22] ty #[.slice (some ⟨b, off + i * 3, none⟩) (D.length - i) (cap - i)]).run Try.prog wr = .ok (.tuple #[]) (wr.setCells b (off + i * 3) (Builtin.zeroCells (Value.cells (.agg #[.int .i64 0, .slice none 0 0, .int .i64 0])) (D.length - i)).toList) := fun ty =>
          run_clear_cells wr 22 43 ty (.agg #[.int .i64 0, .slice none 0 0, .int .i64 0]) Try.underlying22 Try.zeroValue43 b (off + i * 3) (D.length - i) (cap - i) (by omega) hzl.2
            (fun t ht => by rw [hzl.1] at ht; have hx : i * 3 + t < (fCells Dk).length := Nat.lt_of_lt_of_eq (by omega) hlen.symm; rw [Nat.add_assoc, (LK.out _ _ (List.getElem?_eq_getElem hx)).1]; rfl)
            (fun t ht => by rw [hzl.1] at ht; have hx : i * 3 + t < (fCells Dk).length := Nat.lt_of_lt_of_eq (by omega) hlen.symm; rw [Nat.add_assoc]; exact (LK.out _ _ (List.getElem?_eq_getElem hx)).2)
        have hdone := KK.out.done
        have HD := Lib.hid hdone
        clear hdone hlen hzl
        have hi2 : (0 : Int) ≤ (i : Int) := by omega
        have hi3 : (i : Int) ≤ (D.length : Int) := by omega
        have hi4 : (D.length : Int) ≤ (cap : Int) := by omega
        go_wp2
        go_ret
        refine ⟨by rw [← HD.out.1]; rfl, ?_, below_cells hbb _ _ _ HBK.out, Oth.cells _ _ _ HOT.out⟩
        refine Lay.behind ?_ (i * 3) (by rw [fCells_length, ← HD.out.1]; exact Nat.le_refl _) _
        rw [← HD.out.2]
        exact LK.out.sub (f_take Dk i)

set_option maxHeartbeats 800000 in
theorem indexFuncF_nil (p : Fn) (ca lb : Array Value) (w : World) : Calls Try.prog 48 #[.slice none 0 0, .func p ca lb] w fun e w' => e = .returned (.int .i64 (-1)) ∧ Below w.heap.size w w' := by
  go_enter Try.func48, Try.ntmps48
  go_wp2_with fail
  go_loopw [8] (fun s8 wr => s8 = .int .i64 0 ∧ Below w.heap.size w wr) (fun _ _ => 0)
  case atStart => exact ⟨rfl, Below.refl _ _⟩
  case round =>
    obtain ⟨rfl, hb⟩ := hrel
    go_wp2
    go_ret
    exact ⟨rfl, hb⟩
set_option maxHeartbeats 800000 in
theorem deleteFuncF_nil (p : Fn) (ca lb : Array Value) (w : World) : Calls Try.prog 40 #[.slice none 0 0, .func p ca lb] w fun e w' => e = .returned (.slice none 0 0) ∧ Below w.heap.size w w' := by
  have N := Lib.hid (indexFuncF_nil p ca lb w)
  go_enter Try.func40, Try.ntmps40
  go_wp2_with fail
  refine N.out.mono ?_
  rintro e w1 ⟨rfl, b1⟩
  go_wp2
  go_ret
  exact ⟨rfl, b1⟩


end Go.Proofs.Ytgjcpdcepmgafaa
