/-
  What slices.IndexFunc and slices.DeleteFunc do at a list of stamps, whatever the predicate, as long as that leaves all memory as it was.
  What trust's stretched answers: a reach led on from a note's Start to its End.
  A region that draws its order, whose operations make memory, with no last one that waits for all others. Nothing of the program is imported.
  What trust's staying answers: the objects of a piece whose reach a note leaves as it is, as zones.
-/
import Derived.Test.YtcfkpjbakccgiaaG22
import Derived.Test.YtcfkpjbakccgiaaG23
import Derived.Shelf.Abstract
import Derived.Test.YtcfkpjbakccgiaaG14
import Derived.Test.YtcfkpjbakccgiaaG19
import Derived.Test.YtcfkpjbakccgiaaG11
import Derived.Lib.QuietBelow
import Derived.Test.YtcfkpjbakccgiaaG20
import Derived.Test.YtcfkpjbakccgiaaG24
namespace Go.Proofs.Ytcfkpjbakccgiaa
open Go.RowKit

/-- A function value that says of each element whether p holds of it, in every world that is as wb was below. -/
def PredS (wb : World) (fn : Nat) (lb : Array Value) (p : (Int × Int) → Bool) : Prop := ∀ (W : World) (x : (Int × Int)), Below wb.heap.size wb W → Calls Try.prog fn (#[.agg #[.int .i64 x.1, .int .i64 x.2]] ++ lb) W fun e w' => e = .returned (.bool (p x)) ∧ Below W.heap.size W w'
theorem PredS.later {wb w' : World} {fn : Nat} {lb : Array Value} {p : (Int × Int) → Bool} (h : PredS wb fn lb p) (hb : Below wb.heap.size wb w') : PredS w' fn lb p := fun W x hW => h W x (below_on hb hW)

set_option maxHeartbeats 1600000 in
theorem indexFuncS_any (p : (Int × Int) → Bool) (fn : Nat) (lb : Array Value) (eg : ∀ args w, (callFunc fn args).run Try.prog w = .ok (.enter fn args) w) (wb : World) (b off cap : Nat) (D : List (Int × Int)) (w : World)
    (hp : PredS wb fn lb p) (hB : Below wb.heap.size wb w) (hlt : b < w.heap.size) (hL : Lay w b off (stCells D)) (hmax : D.length ≤ 9223372036854775807) (r : Int)
    (hr : (r = -1 ∧ ∀ t (h : t < D.length), p D[t] = false) ∨ ∃ t, ∃ h : t < D.length, r = (t : Int) ∧ p D[t] = true ∧ ∀ u (h : u < t), p (D[u]'(by omega)) = false) :
    Calls Try.prog 91 #[.slice (some ⟨b, off, none⟩) D.length cap, .func (.func fn) #[] lb] w fun e w' => e = .returned (.int .i64 r) ∧ Below w.heap.size w w' := by
  have HL := Lib.hid hL
  have HP := Lib.hid hp
  have HR := Lib.hid hr
  have HB := Lib.hid hB
  clear hL hp hr hB
  go_enter Try.func91, Try.ntmps91
  go_wp2_with fail
  go_loopw [5, 8] (fun _ s8 wr => ∃ k : Nat, k ≤ D.length ∧ s8 = .int .i64 (k : Int) ∧ (∀ u, u < k → ∀ h : u < D.length, p D[u] = false) ∧ Below w.heap.size w wr) (fun _ s8 _ => D.length - (intOf s8).toNat)
  case atStart => exact ⟨0, Nat.zero_le _, rfl, (fun u hu => by omega), Below.refl _ _⟩
  case round =>
    obtain ⟨k, hk, rfl, hall, hbw⟩ := hrel
    have HALL := Lib.hid hall
    clear hall
    by_cases hlt2 : k < D.length
    · have hi0 : (0 : Int) ≤ (k : Int) := by omega
      have hi1 : (k : Int) < (D.length : Int) := by omega
      obtain ⟨x, hx⟩ : ∃ x, D[k] = x := ⟨_, rfl⟩
      have hx2 : D[k]? = some x := by rw [List.getElem?_eq_getElem hlt2, hx]
      obtain ⟨g0, g1⟩ := st_get D x k hx2
      have L2 := HL.out.later hlt hbw
      have e0 := (L2 _ _ g0).1
      have e1 := (L2 _ _ g1).1
      rw [← Nat.add_assoc] at e1
      have cl := HP.out wr x (below_on HB.out hbw)
      have hpx : p D[k] = p x := by rw [hx]
      obtain ⟨px, hpxx⟩ : ∃ px, p x = px := ⟨_, rfl⟩
      rw [hpxx] at cl hpx
      obtain ⟨x1, x2⟩ := x
      have CL := Lib.hid cl
      have HX := Lib.hid hpx
      clear cl hpx hx hx2 hpxx L2 g0 g1
      cases px with
      | true =>
        go_wp2_with (go_at_fn fn; refine CL.out.mono ?_; rintro e w1 ⟨rfl, b1⟩)
        go_ret
        have hrk : r = (k : Int) := by
          rcases HR.out with ⟨_, h2⟩ | ⟨t, ht, h1, h2, h3⟩
          · have := h2 k hlt2; rw [HX.out] at this; cases this
          · rw [h1]
            rcases Nat.lt_trichotomy t k with h4 | h4 | h4
            · have := HALL.out t h4 ht; rw [h2] at this; cases this
            · rw [h4]
            · have := h3 k h4; rw [HX.out] at this; cases this
        exact ⟨by rw [hrk]; rfl, below_on hbw b1⟩
      | false =>
        go_wp2_with (go_at_fn fn; refine CL.out.mono ?_; rintro e w1 ⟨rfl, b1⟩)
        go_roundw
        case rel => exact ⟨k + 1, by omega, by go_num, (fun u hu h => by
          by_cases e : u = k
          · subst e; exact HX.out
          · exact HALL.out u (by omega) h), below_on hbw b1⟩
        case measure => simp [intOf]; omega
    · have hkl : k = D.length := by omega
      subst hkl
      go_wp2
      go_ret
      have hrk : r = -1 := by
        rcases HR.out with ⟨h1, _⟩ | ⟨t, ht, h1, h2, h3⟩
        · exact h1
        · have := HALL.out t ht ht; rw [h2] at this; cases this
      exact ⟨by rw [hrk]; rfl, hbw⟩

theorem zeroCellsS (m : Nat) : (Builtin.zeroCells (Value.cells (.agg #[.int .i64 0, .int .i64 0])) m).toList.length = m * 2 ∧ ∀ u ∈ (Builtin.zeroCells (Value.cells (.agg #[.int .i64 0, .int .i64 0])) m).toList, u.oneCell' = true := by
  refine ⟨by rw [Array.length_toList, size_zeroCells]; rfl, fun u hu => ?_⟩
  unfold Builtin.zeroCells at hu
  simp [Value.cells] at hu
  obtain ⟨a, _, rfl⟩ := hu
  have h4 : a % 2 < 2 := Nat.mod_lt _ (by omega)
  rcases (show a % 2 = 0 ∨ a % 2 = 1 from by omega) with h | h <;> simp [h, Value.oneCell']

set_option maxRecDepth 100000 in
set_option maxHeartbeats 6400000 in
/-- DeleteFunc: the kept ones, in their order, at the head of the same memory. -/
theorem deleteFuncS_any (p : (Int × Int) → Bool) (fn : Nat) (lb : Array Value) (eg : ∀ args w, (callFunc fn args).run Try.prog w = .ok (.enter fn args) w) (wb : World) (b off cap : Nat) (D : List (Int × Int)) (w : World)
    (hp : PredS wb fn lb p) (hB : Below wb.heap.size wb w) (hlt : b < w.heap.size) (hbb : wb.heap.size ≤ b) (hL : Lay w b off (stCells D)) (hcap : D.length ≤ cap) (hmax : cap ≤ 9223372036854775807) :
    Calls Try.prog 78 #[.slice (some ⟨b, off, none⟩) D.length cap, .func (.func fn) #[] lb] w fun e w' => e = .returned (.slice (some ⟨b, off, none⟩) (D.filter fun x => !p x).length cap) ∧ Lay w' b off (stCells (D.filter fun x => !p x)) ∧ Below wb.heap.size wb w' := by
  have hfind : (∀ t (h : t < D.length), p D[t] = false) ∨ ∃ t, ∃ h : t < D.length, p D[t] = true ∧ ∀ u (h : u < t), p (D[u]'(by omega)) = false := by
    cases hf : D.findIdx? p with
    | none =>
      rw [List.findIdx?_eq_none_iff] at hf
      exact .inl fun t h => by simpa using hf D[t] (List.getElem_mem h)
    | some t =>
      rw [List.findIdx?_eq_some_iff_getElem] at hf
      obtain ⟨h1, h2, h3⟩ := hf
      exact .inr ⟨t, h1, h2, fun u hu => by simpa using h3 u hu⟩
  rcases hfind with hall | ⟨t0, ht0, hyes, hno⟩
  · have hfil : (D.filter fun x => !p x) = D := List.filter_eq_self.2 fun x hx => by
      obtain ⟨t, ht, rfl⟩ := List.mem_iff_getElem.1 hx
      rw [hall t ht]; rfl
    rw [hfil]
    have N := Lib.hid (indexFuncS_any p fn lb eg wb b off cap D w hp hB hlt hL (by omega) (-1) (.inl ⟨rfl, hall⟩))
    have HL := Lib.hid hL
    clear hL hp hall hfil
    go_enter Try.func78, Try.ntmps78
    go_wp2_with fail
    refine N.out.mono ?_
    rintro e w1 ⟨rfl, b1⟩
    go_wp2
    go_ret
    exact ⟨rfl, HL.out.later hlt b1, below_on hB b1⟩
  · have N := Lib.hid (indexFuncS_any p fn lb eg wb b off cap D w hp hB hlt hL (by omega) (t0 : Int) (.inr ⟨t0, ht0, rfl, hyes, hno⟩))
    have HL := Lib.hid hL
    have HP := Lib.hid hp
    have HS := Lib.hid (KeptL.start (q := fun x => !p x) ht0 (fun u hu => by show (!p D[u]) = true; rw [hno u hu]; rfl) (by show (!p D[t0]) = false; rw [hyes]; rfl))
    have HBW := Lib.hid hB
    clear hL hp hyes hno hB
    have ht1 : ((t0 : Int) == -1) = false := beq_eq_false_iff_ne.2 (by omega)
    go_enter Try.func78, Try.ntmps78
    go_wp2_with fail
    refine N.out.mono ?_
    rintro e w1 ⟨rfl, b1⟩
    go_wp2_with fail
    go_loopw [5, 6, 7] (fun s5 s6 _ wr => ∃ (i j : Nat) (Dk : List (Int × Int)), s5 = .int .i64 (i : Int) ∧ s6 = .int .i64 (j : Int) ∧ KeptL (fun x => !p x) D j i Dk ∧ Lay wr b off (stCells Dk) ∧ b < wr.heap.size ∧ Below wb.heap.size wb wr) (fun _ s6 _ _ => D.length - (intOf s6).toNat)
    case atStart => exact ⟨t0, t0 + 1, D, rfl, by go_num, HS.out, HL.out.later hlt b1, Nat.lt_of_lt_of_le hlt b1.size, below_on HBW.out b1⟩
    case round =>
      obtain ⟨i, j, Dk, rfl, rfl, hK, hLk, hlk, hbk⟩ := hrel
      have hij := hK.lt
      have hjD := hK.le
      have hlD := hK.len
      have KK := Lib.hid hK
      have LK := Lib.hid hLk
      have HBK := Lib.hid hbk
      clear hK hLk hbk
      by_cases hlt2 : j < D.length
      · have hi0 : (0 : Int) ≤ (j : Int) := by omega
        have hi1 : (j : Int) < (D.length : Int) := by omega
        have hi2 : (0 : Int) ≤ (i : Int) := by omega
        have hi3 : (i : Int) < (D.length : Int) := by omega
        obtain ⟨x, hx⟩ : ∃ x, D[j] = x := ⟨_, rfl⟩
        have hx2 : Dk[j]? = some x := by rw [KK.out.get hlt2, hx]
        obtain ⟨g0, g1⟩ := st_get Dk x j hx2
        have e0 := (LK.out _ _ g0).1
        have e1 := (LK.out _ _ g1).1
        rw [← Nat.add_assoc] at e1
        have hkp := fun h => KK.out.keep (j := j) hlt2 h
        have hsk := fun h => KK.out.skip (j := j) hlt2 h
        rw [hx] at hkp hsk
        obtain ⟨px, hpxx⟩ : ∃ px, p x = px := ⟨_, rfl⟩
        obtain ⟨W1, hW1⟩ : ∃ W1, wr.alloc (.cells #[.int .i64 x.1, .int .i64 x.2] 53) = W1 := ⟨_, rfl⟩
        have hbn : Below wr.heap.size wr W1 := by rw [← hW1]; exact below_new (Below.refl _ _) _
        have hB1 : Blk W1 wr.heap.size 53 #[.int .i64 x.1, .int .i64 x.2] := by rw [← hW1]; exact Blk.new wr _ _
        have cl := HP.out W1 x (below_on HBK.out hbn)
        have hset := st_set Dk x i (by omega)
        rw [hpxx] at cl
        have hkp2 : px = false → KeptL (fun x => !p x) D (j + 1) (i + 1) (Dk.set i x) := fun h => hkp (by show (!p x) = true; rw [hpxx, h]; rfl)
        have hsk2 : px = true → KeptL (fun x => !p x) D (j + 1) i Dk := fun h => hsk (by show (!p x) = false; rw [hpxx, h]; rfl)
        obtain ⟨old, hold⟩ : ∃ old, Dk[i]? = some old := ⟨Dk[i], List.getElem?_eq_getElem (by omega)⟩
        obtain ⟨og0, og1⟩ := st_get Dk old i hold
        have LK1 := LK.out.later hlk hbn
        have hlk1 : b < W1.heap.size := Nat.lt_of_lt_of_le hlk hbn.size
        have CL := Lib.hid cl
        have HB1 := Lib.hid hB1
        have HLK1 := Lib.hid LK1
        have HW1 := Lib.hid hW1
        have HK2 := Lib.hid hkp2
        have HS2 := Lib.hid hsk2
        have HSET := Lib.hid hset
        have OG0 := Lib.hid og0
        have OG1 := Lib.hid og1
        clear cl hB1 LK1 hW1 hkp2 hsk2 hset hkp hsk hpxx hx hx2 hold g0 g1 og0 og1
        obtain ⟨x1, x2⟩ := x
        have q := HB1.out
        have q0 := q.cell (i := 0) rfl
        have q1 := q.cell (i := 1) rfl
        clear q
        cases px with
        | true =>
          go_wp2_with fail
          rw [HW1.out]
          go_wp2_with (go_at_fn fn; refine CL.out.mono ?_; rintro e w2 ⟨rfl, b2⟩)
          go_roundw
          case rel => exact ⟨i, j + 1, Dk, rfl, by go_num, HS2.out (by first | rfl | trivial), HLK1.out.later hlk1 b2, Nat.lt_of_lt_of_le hlk1 b2.size, below_on HBK.out (below_on hbn b2)⟩
          case measure => simp [intOf]; omega
        | false =>
          go_wp2_with fail
          rw [HW1.out]
          go_wp2_with fail
          refine CL.out.mono ?_
          rintro e w2 ⟨rfl, b2⟩
          have L2 := HLK1.out.later hlk1 b2
          have r0 := cell_later b2 q0
          have r1 := cell_later b2 q1
          have u0 := (L2 _ _ OG0.out).1
          have f0 := (L2 _ _ OG0.out).2
          have u1 := (L2 _ _ OG1.out).1
          have f1 := (L2 _ _ OG1.out).2
          rw [← Nat.add_assoc] at u1 f1
          have HL2 := Lib.hid L2
          clear L2 q0 q1
          go_wp2_with fail
          go_roundw
          case rel =>
            have h := ((HL2.out.put (i * 2) (.int .i64 (x1, x2).1)).put (i * 2 + 1) (.int .i64 (x1, x2).2))
            rw [HSET.out] at h
            exact ⟨i + 1, j + 1, _, by go_num, by go_num, HK2.out (by first | rfl | trivial), h, by simpa using Nat.lt_of_lt_of_le hlk1 b2.size, ((below_on HBK.out (below_on hbn b2)).setCell (p := ⟨b, _, none⟩) hbb _).setCell (p := ⟨b, _, none⟩) hbb _⟩
          case measure => simp [intOf]; omega
      · have hkl : j = D.length := by omega
        subst hkl
        have hin : i < D.length := by omega
        have hlen : (stCells Dk).length = D.length * 2 := by rw [stCells_length, hlD]
        have hzl := zeroCellsS (D.length - i)
        have hcl : ∀ ty, (Builtin.clear_ #[23] ty #[.slice (some ⟨b, off + i * 2, none⟩) (D.length - i) (cap - i)]).run Try.prog wr = .ok (.tuple #[]) (wr.setCells b (off + i * 2) (Builtin.zeroCells (Value.cells (.agg #[.int .i64 0, .int .i64 0])) (D.length - i)).toList) := fun ty =>
          run_clear_cells wr 23 53 ty (.agg #[.int .i64 0, .int .i64 0]) Try.underlying23 Try.zeroValue53 b (off + i * 2) (D.length - i) (cap - i) (by omega) hzl.2
            (fun t ht => by rw [hzl.1] at ht; have hx : i * 2 + t < (stCells Dk).length := Nat.lt_of_lt_of_eq (by omega) hlen.symm; rw [Nat.add_assoc, (LK.out _ _ (List.getElem?_eq_getElem hx)).1]; rfl)
            (fun t ht => by rw [hzl.1] at ht; have hx : i * 2 + t < (stCells Dk).length := Nat.lt_of_lt_of_eq (by omega) hlen.symm; rw [Nat.add_assoc]; exact (LK.out _ _ (List.getElem?_eq_getElem hx)).2)
        have hdone := KK.out.done
        have HD := Lib.hid hdone
        clear hdone hlen hzl
        have hi2 : (0 : Int) ≤ (i : Int) := by omega
        have hi3 : (i : Int) ≤ (D.length : Int) := by omega
        have hi4 : (D.length : Int) ≤ (cap : Int) := by omega
        go_wp2
        go_ret
        refine ⟨by rw [← HD.out.1]; rfl, ?_, below_cells hbb _ _ _ HBK.out⟩
        refine Lay.behind ?_ (i * 2) (by rw [stCells_length, ← HD.out.1]; exact Nat.le_refl _) _
        rw [← HD.out.2]
        exact LK.out.sub (st_take Dk i)

set_option maxHeartbeats 800000 in
theorem indexFuncS_nil (p : Fn) (ca lb : Array Value) (w : World) : Calls Try.prog 91 #[.slice none 0 0, .func p ca lb] w fun e w' => e = .returned (.int .i64 (-1)) ∧ Below w.heap.size w w' := by
  go_enter Try.func91, Try.ntmps91
  go_wp2_with fail
  go_loopw [8] (fun s8 wr => s8 = .int .i64 0 ∧ Below w.heap.size w wr) (fun _ _ => 0)
  case atStart => exact ⟨rfl, Below.refl _ _⟩
  case round =>
    obtain ⟨rfl, hb⟩ := hrel
    go_wp2
    go_ret
    exact ⟨rfl, hb⟩
set_option maxHeartbeats 800000 in
theorem deleteFuncS_nil (p : Fn) (ca lb : Array Value) (w : World) : Calls Try.prog 78 #[.slice none 0 0, .func p ca lb] w fun e w' => e = .returned (.slice none 0 0) ∧ Below w.heap.size w w' := by
  have N := Lib.hid (indexFuncS_nil p ca lb w)
  go_enter Try.func78, Try.ntmps78
  go_wp2_with fail
  refine N.out.mono ?_
  rintro e w1 ⟨rfl, b1⟩
  go_wp2
  go_ret
  exact ⟨rfl, b1⟩


end Go.Proofs.Ytcfkpjbakccgiaa
namespace Go.Proofs.Ytcfkpjbakccgiaa
open Go.RowKit

/-- A stamp of a note's End up to which a reach doesn't go on. -/
def notOn (v : List (Int × Int)) (n : Note) (x : Int × Int) : Bool := decide (countOf v x.2 < countOf n.s x.2)

set_option maxRecDepth 100000 in
set_option maxHeartbeats 3200000 in
theorem stretched1_any (wb : World) (gv gn : Nat) (X S E Bl V : Option Addr) (c cs ce cl cv : Nat) (v : List (Int × Int)) (n : Note) (hv : Blk wb gv 23 #[.slice X v.length c]) (hn : Blk wb gn 38 (noteCells S E Bl V cs ce cl cv n)) (h1 : OneL wb X c v) (h2 : OneL wb S cs n.s) :
    PredS wb 79 #[.pointer (some ⟨gv, 0, none⟩), .pointer (some ⟨gn, 0, none⟩)] (notOn v n) := by
  intro W x hW
  obtain ⟨a, m⟩ := x
  show Calls Try.prog 79 #[.agg #[.int .i64 a, .int .i64 m], .pointer (some ⟨gv, 0, none⟩), .pointer (some ⟨gn, 0, none⟩)] W _
  obtain ⟨q1, hq1⟩ : ∃ q, countOf v m = q := ⟨_, rfl⟩
  obtain ⟨q2, hq2⟩ : ∃ q, countOf n.s m = q := ⟨_, rfl⟩
  have hres : notOn v n (a, m) = decide (q1 < q2) := by unfold notOn; rw [hq1, hq2]
  rw [hres]
  have b0 := below_new (Below.refl W.heap.size W) (.cells #[.int .i64 a, .int .i64 m] 53)
  have b1 := below_on hW b0
  have B3 := Blk.new W 53 #[.int .i64 a, .int .i64 m]
  obtain ⟨W1, hW1⟩ : ∃ W1, W.alloc (.cells #[.int .i64 a, .int .i64 m] 53) = W1 := ⟨_, rfl⟩
  rw [hW1] at b0 b1 B3
  have hn' := hn.later b1
  obtain ⟨c0, -, -, -⟩ := note_cells hn'
  have m0 : ∀ d os, (Sort.grow (redrawn W1 d) os).cell? ⟨gv, 0, none⟩ = some (.slice X v.length c) := cell_regrown ((hv.later b1).cell rfl)
  have m1 : ∀ d os, (Sort.grow (redrawn W1 d) os).cell? ⟨gn, 0, none⟩ = some (.slice S n.s.length cs) := cell_regrown c0
  have m2 : ∀ d os, (Sort.grow (redrawn W1 d) os).cell? ⟨W.heap.size, 1, none⟩ = some (.int .i64 m) := cell_regrown (B3.cell rfl)
  have C1 := Lib.hid (fun d os => (show Calls Try.prog 80 #[.slice X v.length c, .int .i64 m] (Sort.grow (redrawn W1 d) os) (fun e w'' => e = .returned (.int .i64 q1) ∧ ∃ p : Regrown, w'' = Sort.grow (redrawn W1 p.d) p.os) from by
    rw [← hq1]
    exact Calls.regrown_of (count_any X c v m _ ((h1.later b1).later (below_regrown W1 d os)))))
  have C2 := Lib.hid (fun d os => (show Calls Try.prog 80 #[.slice S n.s.length cs, .int .i64 m] (Sort.grow (redrawn W1 d) os) (fun e w'' => e = .returned (.int .i64 q2) ∧ ∃ p : Regrown, w'' = Sort.grow (redrawn W1 p.d) p.os) from by
    rw [← hq2]
    exact Calls.regrown_of (count_any S cs n.s m _ ((h2.later b1).later (below_regrown W1 d os)))))
  have FB := Lib.hid (fun d os => below_on b0 (below_regrown W1 d os))
  have HW1 := Lib.hid hW1
  clear hq1 hq2 hres hn' c0 hn hv h1 h2 hW b0 b1 B3 hW1
  go_enter Try.func79, Try.ntmps79
  go_upto_region 1 with (fail)
  rw [HW1.out]
  clear HW1
  refine wp_region_quiet_below (by kernel_rfl) (by kernel_rfl) ?_
  iterate 3 (first | go_big_quiet_step (fail) | quiet_step (fail))
  first | go_big_quiet_step (exact C1.out _ _) | quiet_step (exact C1.out _ _)
  iterate 4 (first | go_big_quiet_step (fail) | quiet_step (fail))
  first | go_big_quiet_step (exact C2.out _ _) | quiet_step (exact C2.out _ _)
  repeat (first | go_big_quiet_step (fail) | quiet_step (fail))
  refine wpQuiet_nil ?_
  intro _ hw'
  obtain ⟨⟨dq, osq⟩, hw''⟩ := hw'
  subst hw''
  go_wp2
  go_ret
  exact ⟨rfl, FB.out _ _⟩

set_option maxRecDepth 100000 in
set_option maxHeartbeats 3200000 in
theorem tstretched_any (X S E Bl V : Option Addr) (c cs ce cl cv : Nat) (v : List (Int × Int)) (n : Note) (w : World) (h1 : OneL w X c v) (h2 : NoteAt w S E Bl V cs ce cl cv n) (he : n.e.length ≤ 64) :
    Calls Try.prog 55 #[.slice X v.length c, .agg (noteCells S E Bl V cs ce cl cv n)] w (Gives (Tr.fur v n) w) := by
  obtain ⟨W1, hW1⟩ : ∃ W1, (w.alloc (.cells #[.slice X v.length c] 23)).alloc (.cells (noteCells S E Bl V cs ce cl cv n) 38) = W1 := ⟨_, rfl⟩
  have hbn : Below w.heap.size w W1 := by rw [← hW1]; exact below_new (below_new (Below.refl _ _) _) _
  have B2 : Blk W1 w.heap.size 23 #[.slice X v.length c] := by rw [← hW1]; exact (Blk.new w _ _).alloc _
  have B3 : Blk W1 (w.heap.size + 1) 38 (noteCells S E Bl V cs ce cl cv n) := by rw [← hW1]; simpa using Blk.new (w.alloc (.cells #[.slice X v.length c] 23)) 38 (noteCells S E Bl V cs ce cl cv n)
  have N := Lib.hid (cloneS_any E ce n.e W1 (by omega) (h2.he.later hbn))
  have HP := Lib.hid (stretched1_any W1 w.heap.size (w.heap.size + 1) X S E Bl V c cs ce cl cv v n B2 B3 (h1.later hbn) (h2.hs.later hbn))
  obtain ⟨-, c1, -, -⟩ := note_cells B3
  have p1 := c1
  rw [← hW1] at p1
  have eg : ∀ args w, (callFunc 79 args).run Try.prog w = .ok (.enter 79 args) w := enters_of Try.func79 (by kernel_rfl) rfl
  have EG := Lib.hid eg
  have HW1 := Lib.hid hW1
  have HX := Lib.hid (h1.later hbn)
  have HB2 := Lib.hid B2
  have JN := Lib.hid (fun (w' : World) (g : Nat) (Y : Option Addr) (d : Nat) (l : List (Int × Int)) (hB : Blk w' g 23 #[.slice X v.length c, .slice Y l.length d]) (q1 : OneL w' X c v) (q2 : OneL w' Y d l) => join_any (some ⟨g, 0, none⟩) 2 [v, l] w' (by simp) (rows_two hB q1 q2))
  have hfil : (n.e.filter fun x => !notOn v n x) = Tr.ends v n := rfl
  have hfu : Tr.fur v n = Ve.joinL [v, Tr.ends v n] := rfl
  have hz1 : w.heap.size + 2 ≤ W1.heap.size := by rw [← hW1]; simp
  rw [hfu]
  obtain ⟨es, hes⟩ : ∃ es, Tr.ends v n = es := ⟨_, rfl⟩
  rw [hes] at hfil ⊢
  have HES := Lib.hid hes
  unfold noteCells at p1 ⊢
  clear hW1 eg h1 h2 B2 B3 c1 hfu he hes
  go_enter Try.func55, Try.ntmps55
  go_wp2_with fail
  rw [show ((w.alloc (.cells #[.slice X v.length c] 23)).alloc (.cells #[.slice S n.s.length cs, .slice E n.e.length ce, .slice Bl n.b.length cl, .slice V n.ws.length cv] 38)) = W1 from HW1.out]
  clear HW1 p1
  refine N.out.mono ?_
  rintro e w1 ⟨u, rfl, ho, b1⟩
  rcases ho.2 with ⟨rfl, hl0⟩ | ⟨g, cap, cur, rfl, hg, hh, hc1, hc2, _, _⟩
  · have hws : n.e = [] := List.eq_nil_of_length_eq_zero hl0
    have hE : es = [] := by rw [← HES.out]; unfold Tr.ends; rw [hws]; rfl
    subst hE
    clear ho hl0 hws hfil N HP EG HES
    go_wp2_with fail
    refine (deleteFuncS_nil _ _ _ _).mono ?_
    rintro e w2 ⟨rfl, b2⟩
    have b12 := below_on b1 b2
    have B2 := HB2.out.later b12
    have c2 := B2.cell (i := 0) rfl
    have b3 := below_new (Below.refl w2.heap.size w2) (.cells #[.slice X v.length c, .slice none 0 0] 23)
    have NJ := JN.out _ w2.heap.size none 0 [] (Blk.new w2 23 #[.slice X v.length c, .slice none 0 0]) (HX.out.later (below_on b12 b3)) OneL.nil
    have HJ := Lib.hid NJ
    have FB := Lib.hid (below_on (below_on hbn b12) b3)
    clear NJ JN b3 B2 b2 b1
    go_wp2_with fail
    refine HJ.out.mono ?_
    rintro e w4 ⟨u4, rfl, ho4, b4⟩
    have HO := Lib.hid ho4
    clear ho4
    go_wp2
    go_ret
    exact ⟨_, rfl, own_base HO.out FB.out.size, below_on FB.out b4⟩
  · have hL := Lay.of_own ho
    have hglt : g < w1.heap.size := Blk.lt hh
    have D := Lib.hid (deleteFuncS_any _ _ _ EG.out W1 g 0 cap n.e w1 HP.out b1 hglt hg hL hc1 (by unfold maxLen at hc2; exact hc2))
    rw [hfil] at D
    have hcl : es.length ≤ cap := by rw [← HES.out]; exact Nat.le_trans (List.length_filter_le _ _) hc1
    have hcm := Lib.hid hc2
    clear hL ho hh hc2 hfil N HP EG hc1 HES
    go_wp2_with fail
    refine D.out.mono ?_
    rintro e w2 ⟨rfl, hL2, b2⟩
    have B2 := HB2.out.later b2
    have c2 := B2.cell (i := 0) rfl
    have b3 := below_new (Below.refl w2.heap.size w2) (.cells #[.slice X v.length c, .slice (some ⟨g, 0, none⟩) es.length cap] 23)
    have NJ := JN.out _ w2.heap.size (some ⟨g, 0, none⟩) cap es (Blk.new w2 23 #[.slice X v.length c, .slice (some ⟨g, 0, none⟩) es.length cap]) (HX.out.later (below_on b2 b3)) ((OneL.of_lay hL2 hcl hcm.out).later b3)
    have HJ := Lib.hid NJ
    have FB := Lib.hid (below_on (below_on hbn b2) b3)
    clear NJ JN b3 B2 b2 b1 hL2
    go_wp2_with fail
    refine HJ.out.mono ?_
    rintro e w4 ⟨u4, rfl, ho4, b4⟩
    have HO := Lib.hid ho4
    clear ho4
    go_wp2
    go_ret
    exact ⟨_, rfl, own_base HO.out FB.out.size, below_on FB.out b4⟩
end Go.Proofs.Ytcfkpjbakccgiaa
namespace Go.Proofs.Ytcfkpjbakccgiaa
open Go.RowKit

section
variable {P : Program} {ops : Array Oper} {md : Region.Mode} {Q : Exit → Act → World → Prop}
/-- Each operation waits for earlier ones alone. -/
def depsB (md : Region.Mode) (ops : Array Oper) : Bool := (List.range ops.size).all fun i => (deps md ops i).all fun j => decide (j < i)
theorem wpAny_all (hB : depsB md ops = true) (T : (Nat → Value) → Act) (Ψ : Nat → Value → World → Prop) (Rel : World → World → Prop) (trans : ∀ {w1 w2 w3}, Rel w1 w2 → Rel w2 w3 → Rel w1 w3) (W0 : World)
    (stab : ∀ i x w w', Ψ i x w → Rel w w' → Ψ i x w')
    (step : ∀ i, i < ops.size → ∀ v w, Rel W0 w → (∀ j ∈ deps md ops i, Ψ j (v j) w) → wpOp P ops Q i (fun a' w' => ∃ x, a' = T (upd v i x) ∧ Rel w w' ∧ Ψ i x w') (T v) w)
    (done : ∀ v w, Rel W0 w → (∀ i, i < ops.size → Ψ i (v i) w) → Q .normal (T v) w) (f : Nat) (listed : Array Bool) (v : Nat → Value) (w : World) (hs : listed.size = ops.size) (hc : cntTo listed ops.size = f) (hr : Rel W0 w) (hf : ∀ i, i < ops.size → listed.getD i true = true → Ψ i (v i) w) : wpAny P md ops Q f listed (T v) w := by
  induction f generalizing listed v w with
  | zero =>
    have hall := cntTo_zero listed ops.size hc
    refine ⟨List.eq_nil_iff_forall_not_mem.2 (fun i hi => ?_), done v w hr (fun i hi => hf i hi (hall i hi))⟩
    obtain ⟨h1, o, h2, _⟩ := mem_ready.1 hi
    rw [hall i (Array.getElem?_eq_some_iff.1 h2).1] at h1
    cases h1
  | succ f ih =>
    obtain ⟨m, hm1, hm2, hm3⟩ := cntTo_pos listed ops.size (by omega)
    have hmr : m ∈ Region.ready md ops listed := by
      refine mem_ready.2 ⟨hm2, ops[m], Array.getElem?_eq_getElem hm1, fun e he hbind => ?_⟩
      have h1 := List.all_eq_true.1 hB m (List.mem_range.2 hm1)
      have h2 : e.on ∈ deps md ops m := by
        unfold deps
        rw [Array.getElem?_eq_getElem hm1]
        exact List.mem_map.2 ⟨e, List.mem_filter.2 ⟨Array.mem_toList_iff.2 he, hbind⟩, rfl⟩
      have h3 := of_decide_eq_true (List.all_eq_true.1 h1 _ h2)
      have h4 := hm3 e.on h3
      have h5 : e.on < listed.size := by rw [hs]; omega
      simp [h5] at h4 ⊢
      exact h4
    refine ⟨fun h0 => (by rw [h0] at hmr; cases hmr), fun i hi => ?_⟩
    obtain ⟨hun, oi, hoi, hafter⟩ := mem_ready.1 hi
    have hin : i < ops.size := (Array.getElem?_eq_some_iff.1 hoi).1
    refine wpOp_mono ?_ (step i hin v w hr ?_)
    · rintro a' w' ⟨x, rfl, hb', hx⟩
      refine ih _ (upd v i x) w' (by simp [hs]) (by have := cntTo_set listed i hun ops.size hin; omega) (trans hr hb') (fun j hj hl => ?_)
      by_cases e : j = i
      · subst e
        rw [upd_same]
        exact hx
      · rw [upd_other v i x e]
        rw [getD_set_ne true (fun h => e h.symm)] at hl
        exact stab j _ w w' (hf j hj hl) hb'
    · intro j hj
      unfold deps at hj
      rw [hoi] at hj
      obtain ⟨e, he, rfl⟩ := List.mem_map.1 hj
      obtain ⟨he1, he2⟩ := List.mem_filter.1 he
      have h1 := hafter e (Array.mem_toList_iff.1 he1) he2
      have h2 : e.on < listed.size := by
        rcases Nat.lt_or_ge e.on listed.size with h' | h'
        · exact h'
        · simp [Array.getElem?_eq_none h'] at h1
      have h3 : listed.getD e.on true = true := by simp [h2] at h1 ⊢; exact h1
      exact hf e.on (by rw [← hs]; exact h2) h3
/-- **A region that draws its order, whose operations make memory, with no last one.** -/
theorem wp_region_all {id : Nat} {L : List Oper} {w : World} (hm : P.follows .mixedOrders = true) (hB : depsB .any L.toArray = true) (T : (Nat → Value) → Act) (v0 : Nat → Value) (Ψ : Nat → Value → World → Prop) (Rel : World → World → Prop) (trans : ∀ {w1 w2 w3}, Rel w1 w2 → Rel w2 w3 → Rel w1 w3) (hself : ∀ w, Rel w w) (hdrew : Rel w w.drew)
    (stab : ∀ i x w w', Ψ i x w → Rel w w' → Ψ i x w')
    (step : ∀ i, i < L.toArray.size → ∀ v w', Rel w w' → (∀ j ∈ deps .any L.toArray i, Ψ j (v j) w') → wpOp P L.toArray Q i (fun a' w'' => ∃ x, a' = T (upd v i x) ∧ Rel w' w'' ∧ Ψ i x w'') (T v) w')
    (done : ∀ v w', Rel w w' → (∀ i, i < L.toArray.size → Ψ i (v i) w') → Q .normal (T v) w') :
    (Code.region id L.toArray true).wp P Q (T v0) w := by
  refine wp_region_any hm ?_
  have hw : ∀ w', Rel { w with drawn := w.drawn + 1 } w' → Rel w w' := fun w' h => trans hdrew h
  exact wpAny_all hB T Ψ Rel trans { w with drawn := w.drawn + 1 } stab (fun i hi v w' hb hd => step i hi v w' (hw w' hb) hd) (fun v w' hb hf => done v w' (hw w' hb) hf) _ _ v0 _ (by simp) (cntTo_none _ _ (Nat.le_refl _)) (hself _) (fun i hi hl => by
      rw [Array.getD_eq_getD_getElem?, Array.getElem?_replicate, if_pos hi] at hl
      cases hl)
end

end Go.Proofs.Ytcfkpjbakccgiaa
namespace Go.Proofs.Ytcfkpjbakccgiaa
open Go.RowKit

/-- Zones are answered, of one vector, in a row of the call's own. -/
def GivesStay (X : Option Addr) (c : Nat) (vl : List (Int × Int)) (zs : List Zn) (w : World) (e : Ending) (w' : World) : Prop :=
  ∃ u L, e = .returned u ∧ w'.ownsRow w.heap.size 57 3 u (List.length L) (zCells L) ∧ L.map Zc.zn = zs ∧ (∀ z ∈ L, z.X = X ∧ z.c = c ∧ z.l = vl) ∧ Below w.heap.size w w'
namespace Tr
def tornTo (lo hi : Int) (fu : List (Int × Int)) (ws : List Wr) : List Int := (ws.filter fun w => inOf [(lo, hi)] w.2.2.1 && !hasOf fu w.1 w.2.1).map fun w => w.2.2.1
theorem tornTo_snoc (lo hi : Int) (fu : List (Int × Int)) (ws : List Wr) (x : Wr) : tornTo lo hi fu (ws ++ [x]) = tornTo lo hi fu ws ++ (if (inOf [(lo, hi)] x.2.2.1 && !hasOf fu x.1 x.2.1) = true then [x.2.2.1] else []) := by
  unfold tornTo
  rw [List.filter_append, List.map_append]
  congr 1
  rw [List.filter_cons]
  split <;> rfl
theorem tornTo_len (lo hi : Int) (fu : List (Int × Int)) (ws : List Wr) : (tornTo lo hi fu ws).length ≤ ws.length := by
  unfold tornTo
  rw [List.length_map]
  exact List.length_filter_le _ _
end Tr
theorem ws_short {n : Note} (hn : Nt.fmd n = true) : n.ws.length ≤ 256 := by
  have hw : Nt.wsTo n n.ws.length := by
    unfold Nt.fmd at hn
    simp only [Bool.and_eq_true] at hn
    exact (Nt.wsOk_iff n).1 hn.2.2.2.2
  have up : ∀ j, j < n.ws.length → (j : Int) ≤ Nt.obj n.ws j ∧ Nt.obj n.ws j ≤ 255 := fun j => by
    induction j with
    | zero => intro h; have := (hw 0 h).2.1; omega
    | succ j ih =>
      intro h
      have h1 := ih (by omega)
      have h2 := hw (j + 1) h
      have h3 := h2.2.2.2 (by omega)
      rw [Nat.add_sub_cancel] at h3
      have := h2.2.1
      omega
  rcases Nat.lt_or_ge 256 n.ws.length with h | h
  · have := up 256 h
    omega
  · exact h
theorem bl_short {n : Note} (hn : Nt.fmd n = true) : n.b.length ≤ 256 := by
  have hg : Sp.fmd n.b = true := by
    unfold Nt.fmd at hn
    simp only [Bool.and_eq_true] at hn
    exact hn.2.2.2.1
  have hw := (Sp.fmd_iff n.b).1 hg
  have up : ∀ j, j < n.b.length → (j : Int) ≤ (n.b.getD j (0, 0)).1 ∧ (n.b.getD j (0, 0)).2 < 256 ∧ (n.b.getD j (0, 0)).1 ≤ (n.b.getD j (0, 0)).2 := fun j => by
    induction j with
    | zero => intro h; have := hw 0 h; exact ⟨this.1, this.2.2.1, this.2.1⟩
    | succ j ih =>
      intro h
      have h1 := ih (by omega)
      obtain ⟨q1, q2, q3, q4⟩ := hw (j + 1) h
      have h3 := q4 (by omega)
      rw [Nat.add_sub_cancel] at h3
      omega
  rcases Nat.lt_or_ge 256 n.b.length with h | h
  · have := up 256 h
    omega
  · exact h

set_option maxRecDepth 100000 in
set_option maxHeartbeats 12800000 in
theorem tstaying_any (S' E Bl V X Y : Option Addr) (cs ce cl cv c d : Nat) (n : Note) (lo hi : Int) (vl fu : List (Int × Int)) (w : World) (h2 : NoteAt w S' E Bl V cs ce cl cv n) (hn : Nt.fmd n = true) (hY : OneL w Y d fu) :
    Calls Try.prog 56 #[.agg (noteCells S' E Bl V cs ce cl cv n), .agg #[.int .i64 lo, .int .i64 hi], .slice X vl.length c, .slice Y fu.length d] w (GivesStay X c vl (Tr.stay (lo, hi, vl) fu n) w) := by
  obtain ⟨W1, hW1⟩ : ∃ W1, (w.alloc (.cells (noteCells S' E Bl V cs ce cl cv n) 38)).alloc (.cells #[.int .i64 lo, .int .i64 hi] 55) = W1 := ⟨_, rfl⟩
  have hbn : Below w.heap.size w W1 := by rw [← hW1]; exact below_new (below_new (Below.refl _ _) _) _
  have B4 : Blk W1 w.heap.size 38 (noteCells S' E Bl V cs ce cl cv n) := by rw [← hW1]; exact (Blk.new w _ _).alloc _
  have B5 : Blk W1 (w.heap.size + 1) 55 #[.int .i64 lo, .int .i64 hi] := by rw [← hW1]; simpa using Blk.new (w.alloc (.cells (noteCells S' E Bl V cs ce cl cv n) 38)) 55 #[.int .i64 lo, .int .i64 hi]
  obtain ⟨-, -, c2, c3⟩ := note_cells B4
  have hws := ws_short hn
  have hbs := bl_short hn
  have HW := Lib.hid (h2.hv.later hbn)
  have HBL := Lib.hid (h2.hb.later hbn)
  have HYY := Lib.hid (hY.later hbn)
  have HB4 := Lib.hid B4
  have HB5 := Lib.hid B5
  have HC2' := Lib.hid c2
  have HW1 := Lib.hid hW1
  have HBN := Lib.hid hbn
  obtain ⟨S, hS⟩ : ∃ S, Tr.keeps (lo, hi, vl) fu n = S := ⟨_, rfl⟩
  have hst : Tr.stay (lo, hi, vl) fu n = S.map fun s => (s.1, s.2, vl) := by unfold Tr.stay; rw [hS]
  rw [hst]
  have hSl : S.length ≤ 128 := by rw [← hS]; unfold Tr.keeps Sp.meetS; exact Sp.ofL_len _
  have hS2 : S = Sp.meetS [(lo, hi)] (Sp.joinS [n.b, Sp.ofL (Sp.someOf (Tr.tornTo lo hi fu n.ws))]) := hS.symm
  have HS2 := Lib.hid hS2
  obtain ⟨i0, hI, hz0, hz1, hz2⟩ := info_parts (show (Try.prog.info? 3).map (fun i => (i.zero, i.size, i.bytes)) = some (some (.int .i64 0), 1, 8) from by kernel_rfl)
  obtain ⟨i1, hI1, hy0, hy1, hy2⟩ := info_parts infoZn
  have hz1' : w.heap.size + 2 ≤ W1.heap.size := by rw [← hW1]; simp
  have p3 := c3
  rw [← hW1] at p3
  unfold noteCells at p3 ⊢
  clear hbn B4 B5 hn h2 hY hS hst hS2 hW1 c2
  go_enter Try.func56, Try.ntmps56
  go_wp2_with fail
  rw [show (w.alloc (.cells #[.slice S' n.s.length cs, .slice E n.e.length ce, .slice Bl n.b.length cl, .slice V n.ws.length cv] 38)).alloc (.cells #[.int .i64 lo, .int .i64 hi] 55) = W1 from HW1.out]
  clear HW1 p3
  go_loopw [9, 18] (fun s9 s18 wr => ∃ (k : Nat), k ≤ n.ws.length ∧ s18 = .int .i64 (k : Int) ∧ wr.ownsRow W1.heap.size 3 1 s9 (Tr.tornTo lo hi fu (n.ws.take k)).length ((Tr.tornTo lo hi fu (n.ws.take k)).map (Value.int .i64)) ∧ Below W1.heap.size W1 wr) (fun _ s18 _ => n.ws.length - (intOf s18).toNat)
  case atStart => exact ⟨0, Nat.zero_le _, rfl, ⟨rfl, .inl ⟨rfl, rfl⟩⟩, Below.refl _ _⟩
  case round =>
    obtain ⟨k, hk, rfl, ho, hbw⟩ := hrel
    have hTl := Tr.tornTo_len lo hi fu (n.ws.take k)
    obtain ⟨tl, htl⟩ : ∃ tl, Tr.tornTo lo hi fu (n.ws.take k) = tl := ⟨_, rfl⟩
    rw [htl] at ho hTl
    obtain ⟨TA, tc, hvv, -, htm, htn, -⟩ := own_form ho
    subst hvv
    unfold maxLen at htm
    have HO9 := Lib.hid ho
    have HTL := Lib.hid htl
    have hTl : tl.length ≤ 256 := by have : (n.ws.take k).length ≤ n.ws.length := by rw [List.length_take]; omega
                                     omega
    clear ho htl
    by_cases hlt : k < n.ws.length
    · have hne : n.ws ≠ [] := fun e => by rw [e] at hlt; simp at hlt
      obtain ⟨b, off, hA, hc⟩ := (HW.out.later hbw).at hne
      subst hA
      obtain ⟨e0, e1, e2, e3⟩ := hc k hlt
      have htk : n.ws.take (k + 1) = n.ws.take k ++ [n.ws.getD k Nt.zeroW] := by
        rw [List.take_succ_eq_append_getElem hlt, List.getD_eq_getElem?_getD, List.getElem?_eq_getElem hlt]; rfl
      obtain ⟨x, hx⟩ : ∃ x, n.ws.getD k Nt.zeroW = x := ⟨_, rfl⟩
      rw [hx] at e0 e1 e2 e3 htk
      have hnx := Tr.tornTo_snoc lo hi fu (n.ws.take k) x
      rw [HTL.out, ← htk] at hnx
      have hi0 : (0 : Int) ≤ (k : Int) := by omega
      have hi1 : (k : Int) < (n.ws.length : Int) := by omega
      obtain ⟨ct, nd, ob, gn⟩ := x
      dsimp only at e0 e1 e2 e3 hnx
      obtain ⟨W2, hW2⟩ : ∃ W2, wr.alloc (.cells #[.int .i64 ct, .int .i64 nd, .int .i64 ob, .bool gn] 102) = W2 := ⟨_, rfl⟩
      have hb2 : Below wr.heap.size wr W2 := by rw [← hW2]; exact below_new (Below.refl _ _) _
      have XB : Blk W2 wr.heap.size 102 #[.int .i64 ct, .int .i64 nd, .int .i64 ob, .bool gn] := by rw [← hW2]; exact Blk.new wr _ _
      have BN := Lib.hid (below_on hbw hb2)
      have HB2 := Lib.hid hb2
      obtain ⟨bx, hbx⟩ : ∃ bx, wr.heap.size = bx := ⟨_, rfl⟩
      rw [hbx] at XB
      have HX := Lib.hid XB
      have HS5 := Lib.hid (HB5.out.later BN.out)
      obtain ⟨ho, hho⟩ : ∃ q, inOf [(lo, hi)] ob = q := ⟨_, rfl⟩
      obtain ⟨hh, hhh⟩ : ∃ q, hasOf fu ct nd = q := ⟨_, rfl⟩
      rw [hho, hhh] at hnx
      have HNX := Lib.hid hnx
      have HO := Lib.hid (fun (w' : World) (g : Nat) (q : Blk w' g 55 #[.int .i64 lo, .int .i64 hi]) => (show Calls Try.prog 43 #[.slice (some ⟨g, 0, none⟩) 1 1, .int .i64 ob] w' (Says (.bool ho) w') from by
        rw [← hho]
        exact sphas_any (some ⟨g, 0, none⟩) 1 [(lo, hi)] ob w' (one_stamp q)))
      have HH := Lib.hid (fun (w' : World) (q : Below W2.heap.size W2 w') => (show Calls Try.prog 81 #[.slice Y fu.length d, .agg #[.int .i64 ct, .int .i64 nd]] w' (Says (.bool hh) w') from by
        rw [← hhh]
        exact has_any Y d fu ct nd w' ((HYY.out.later BN.out).later q)))
      have HOW := Lib.hid (own_later HO9.out hb2)
      have HW2 := Lib.hid hW2
      have HBX := Lib.hid hbx
      clear hc hne hx hnx hho hhh hW2 hb2 XB htk hbx hbw
      go_upto_region 5 with (fail)
      rw [HW2.out, HBX.out]
      clear e0 e1 e2 e3 HW2
      cases ho with
      | false =>
        have HT := Lib.hid (show Tr.tornTo lo hi fu (n.ws.take (k + 1)) = tl from by rw [HNX.out]; simp)
        refine wp_region_facts 11 (by kernel_rfl) (by kernel_rfl)
          (fun v => { tmps := #[.agg #[.slice S' n.s.length cs, .slice E n.e.length ce, .slice Bl n.b.length cl, .slice (some ⟨b, off, none⟩) n.ws.length cv], .agg #[.int .i64 lo, .int .i64 hi], .slice X vl.length c, .slice Y fu.length d, .pointer (some ⟨w.heap.size, 0, none⟩), .pointer (some ⟨w.heap.size + 1, 0, none⟩), undef, undef, .slice none 0 0, .slice TA tl.length tc, undef, .pointer (some ⟨bx, 0, none⟩), undef, undef, undef, .pointer (some ⟨w.heap.size, 3, none⟩), .slice (some ⟨b, off, none⟩) n.ws.length cv, .int .i64 (n.ws.length : Int), .int .i64 (k : Int), .bool true, .pointer (some ⟨b, off + k * 4, none⟩), .agg #[.int .i64 ct, .int .i64 nd, .int .i64 ob, .bool gn], v 0, v 1, v 2, v 3, v 4, v 5, v 6, v 7, v 8, v 9, v 10, u33, u34, u35, u36, u37, u38, u39, undef, undef, undef, undef, undef, undef, undef, undef, undef, undef, undef, undef, undef, undef, undef, undef, undef, undef, undef, undef, undef, undef], defers := [] }) (fun i => match i with | 0 => u22 | 1 => u23 | 2 => u24 | 3 => u25 | 4 => u26 | 5 => u27 | 6 => u28 | 7 => u29 | 8 => u30 | 9 => u31 | 10 => u32 | _ => undef)
          (fun i x wx => match i with
            | 0 => x = .agg #[.int .i64 lo, .int .i64 hi]
            | 1 => ∃ g, x = .slice (some ⟨g, 0, none⟩) 1 1 ∧ Blk wx g 55 #[.int .i64 lo, .int .i64 hi]
            | 2 => x = .pointer (some ⟨bx, 2, none⟩)
            | 3 => x = .int .i64 ob
            | 4 => x = .bool false
            | 5 => x = .bool false
            | 6 => x = undef
            | 7 => x = undef
            | 8 => x = undef
            | 9 => x = undef
            | 10 => x = undef
            | _ => True)
          (fun w1 w2 => Below w1.heap.size w1 w2) (fun h1 h2 => below_on h1 h2) (fun _ => Below.refl _ _) (Below.drew (Below.refl _ _)) ?staba ?stepa ?donea
        case staba =>
          rintro i x w1 w2 h hb
          match i, h with
          | 0, h => exact h
          | 1, h => obtain ⟨g, h1, h2⟩ := h; exact ⟨g, h1, h2.later hb⟩
          | 2, h => exact h
          | 3, h => exact h
          | 4, h => exact h
          | 5, h => exact h
          | 6, h => exact h
          | 7, h => exact h
          | 8, h => exact h
          | 9, h => exact h
          | 10, h => exact h
          | i + 11, _ => trivial
        case stepa =>
          intro i hi v w' hb hd
          match i, hi with
          | 0, _ =>
            refine wpOp_oneK rfl (fun KK hKK => ?_)
            have HKK := Lib.hid hKK
            clear hKK hd
            have q0 := cell_later hb (HS5.out.cell (i := 0) rfl)
            have q1 := cell_later hb (HS5.out.cell (i := 1) rfl)
            go_wp2
            exact HKK.out _ _ ⟨_, (by simp [upd]; done), Below.refl _ _, rfl⟩
          | 1, _ =>
            have h0 : v 0 = _ := hd 0 (List.elem_iff.1 (by kernel_rfl))
            refine wpOp_oneK rfl (fun KK hKK => ?_)
            have HKK := Lib.hid hKK
            clear hKK hd
            rw [h0]
            go_wp2_with fail
            refine (alone_any _ _ _).mono ?_
            rintro e w'' ⟨g, rfl, ob, -, b⟩
            go_wp2
            exact HKK.out _ _ ⟨_, (by simp [upd, h0]; done), b, g, rfl, ob⟩
          | 2, _ =>
            refine wpOp_oneK rfl (fun KK hKK => ?_)
            have HKK := Lib.hid hKK
            clear hKK hd
            go_wp2
            exact HKK.out _ _ ⟨_, (by simp [upd]; done), Below.refl _ _, rfl⟩
          | 3, _ =>
            have h2 : v 2 = _ := hd 2 (List.elem_iff.1 (by kernel_rfl))
            refine wpOp_oneK rfl (fun KK hKK => ?_)
            have HKK := Lib.hid hKK
            clear hKK hd
            rw [h2]
            have q0 := cell_later hb (HX.out.cell (i := 2) rfl)
            go_wp2
            exact HKK.out _ _ ⟨_, (by simp [upd, h2]; done), Below.refl _ _, rfl⟩
          | 4, _ =>
            obtain ⟨g1, h1, o1⟩ := hd 1 (List.elem_iff.1 (by kernel_rfl))
            have h3 : v 3 = _ := hd 3 (List.elem_iff.1 (by kernel_rfl))
            refine wpOp_oneK rfl (fun KK hKK => ?_)
            have HKK := Lib.hid hKK
            clear hKK hd
            rw [h1, h3]
            go_wp2_with fail
            refine (HO.out _ _ o1).mono ?_
            rintro e w'' ⟨rfl, b⟩
            go_wp2
            exact HKK.out _ _ ⟨_, (by simp [upd, h1, h3]; done), b, rfl⟩
          | 5, _ =>
            have h4 : v 4 = _ := hd 4 (List.elem_iff.1 (by kernel_rfl))
            refine wpOp_oneK rfl (fun KK hKK => ?_)
            have HKK := Lib.hid hKK
            clear hKK hd
            rw [h4]
            go_wp2
            exact HKK.out _ _ ⟨_, (by simp [upd, h4]; done), Below.refl _ _, rfl⟩
          | 6, _ =>
            have h5 : v 5 = _ := hd 5 (List.elem_iff.1 (by kernel_rfl))
            clear hd
            rw [h5]
            exact wpOp_skip rfl (by rfl) ⟨_, (by simp [upd, Act.put, h5]; done), Below.refl _ _, rfl⟩
          | 7, _ =>
            have h5 : v 5 = _ := hd 5 (List.elem_iff.1 (by kernel_rfl))
            clear hd
            rw [h5]
            exact wpOp_skip rfl (by rfl) ⟨_, (by simp [upd, Act.put, h5]; done), Below.refl _ _, rfl⟩
          | 8, _ =>
            have h5 : v 5 = _ := hd 5 (List.elem_iff.1 (by kernel_rfl))
            clear hd
            rw [h5]
            exact wpOp_skip rfl (by rfl) ⟨_, (by simp [upd, Act.put, h5]; done), Below.refl _ _, rfl⟩
          | 9, _ =>
            have h5 : v 5 = _ := hd 5 (List.elem_iff.1 (by kernel_rfl))
            clear hd
            rw [h5]
            exact wpOp_skip rfl (by rfl) ⟨_, (by simp [upd, Act.put, h5]; done), Below.refl _ _, rfl⟩
          | 10, _ =>
            have h5 : v 5 = _ := hd 5 (List.elem_iff.1 (by kernel_rfl))
            clear hd
            rw [h5]
            exact wpOp_skip rfl (by rfl) ⟨_, (by simp [upd, Act.put, h5]; done), Below.refl _ _, rfl⟩
          | k + 11, hk => exact absurd hk (by omega)
        case donea =>
          intro v w5 hb hf
          have h5 : v 5 = _ := hf 5 (by decide)
          have h10 : v 10 = _ := hf 10 (by decide)
          clear hf
          rw [h5, h10]
          have HBB := Lib.hid (below_on BN.out hb)
          have HO2 := Lib.hid (own_later HOW.out hb)
          clear hb
          go_wp2_with fail
          go_roundw
          case rel => exact ⟨k + 1, by omega, by first | rfl | go_num, by rw [HT.out]; exact HO2.out, HBB.out⟩
          case measure => simp [intOf]; omega
      | true =>
      cases hh with
      | true =>
        have HT := Lib.hid (show Tr.tornTo lo hi fu (n.ws.take (k + 1)) = tl from by rw [HNX.out]; simp)
        refine wp_region_facts 11 (by kernel_rfl) (by kernel_rfl)
          (fun v => { tmps := #[.agg #[.slice S' n.s.length cs, .slice E n.e.length ce, .slice Bl n.b.length cl, .slice (some ⟨b, off, none⟩) n.ws.length cv], .agg #[.int .i64 lo, .int .i64 hi], .slice X vl.length c, .slice Y fu.length d, .pointer (some ⟨w.heap.size, 0, none⟩), .pointer (some ⟨w.heap.size + 1, 0, none⟩), undef, undef, .slice none 0 0, .slice TA tl.length tc, undef, .pointer (some ⟨bx, 0, none⟩), undef, undef, undef, .pointer (some ⟨w.heap.size, 3, none⟩), .slice (some ⟨b, off, none⟩) n.ws.length cv, .int .i64 (n.ws.length : Int), .int .i64 (k : Int), .bool true, .pointer (some ⟨b, off + k * 4, none⟩), .agg #[.int .i64 ct, .int .i64 nd, .int .i64 ob, .bool gn], v 0, v 1, v 2, v 3, v 4, v 5, v 6, v 7, v 8, v 9, v 10, u33, u34, u35, u36, u37, u38, u39, undef, undef, undef, undef, undef, undef, undef, undef, undef, undef, undef, undef, undef, undef, undef, undef, undef, undef, undef, undef, undef, undef], defers := [] }) (fun i => match i with | 0 => u22 | 1 => u23 | 2 => u24 | 3 => u25 | 4 => u26 | 5 => u27 | 6 => u28 | 7 => u29 | 8 => u30 | 9 => u31 | 10 => u32 | _ => undef)
          (fun i x wx => match i with
            | 0 => x = .agg #[.int .i64 lo, .int .i64 hi]
            | 1 => ∃ g, x = .slice (some ⟨g, 0, none⟩) 1 1 ∧ Blk wx g 55 #[.int .i64 lo, .int .i64 hi]
            | 2 => x = .pointer (some ⟨bx, 2, none⟩)
            | 3 => x = .int .i64 ob
            | 4 => x = .bool true
            | 5 => x = .bool true
            | 6 => x = .slice Y fu.length d
            | 7 => x = .pointer (some ⟨bx, 0, none⟩)
            | 8 => x = .agg #[.int .i64 ct, .int .i64 nd]
            | 9 => x = .bool true
            | 10 => x = .bool false
            | _ => True)
          (fun w1 w2 => Below w1.heap.size w1 w2) (fun h1 h2 => below_on h1 h2) (fun _ => Below.refl _ _) (Below.drew (Below.refl _ _)) ?stabb ?stepb ?doneb
        case stabb =>
          rintro i x w1 w2 h hb
          match i, h with
          | 0, h => exact h
          | 1, h => obtain ⟨g, h1, h2⟩ := h; exact ⟨g, h1, h2.later hb⟩
          | 2, h => exact h
          | 3, h => exact h
          | 4, h => exact h
          | 5, h => exact h
          | 6, h => exact h
          | 7, h => exact h
          | 8, h => exact h
          | 9, h => exact h
          | 10, h => exact h
          | i + 11, _ => trivial
        case stepb =>
          intro i hi v w' hb hd
          match i, hi with
          | 0, _ =>
            refine wpOp_oneK rfl (fun KK hKK => ?_)
            have HKK := Lib.hid hKK
            clear hKK hd
            have q0 := cell_later hb (HS5.out.cell (i := 0) rfl)
            have q1 := cell_later hb (HS5.out.cell (i := 1) rfl)
            go_wp2
            exact HKK.out _ _ ⟨_, (by simp [upd]; done), Below.refl _ _, rfl⟩
          | 1, _ =>
            have h0 : v 0 = _ := hd 0 (List.elem_iff.1 (by kernel_rfl))
            refine wpOp_oneK rfl (fun KK hKK => ?_)
            have HKK := Lib.hid hKK
            clear hKK hd
            rw [h0]
            go_wp2_with fail
            refine (alone_any _ _ _).mono ?_
            rintro e w'' ⟨g, rfl, ob, -, b⟩
            go_wp2
            exact HKK.out _ _ ⟨_, (by simp [upd, h0]; done), b, g, rfl, ob⟩
          | 2, _ =>
            refine wpOp_oneK rfl (fun KK hKK => ?_)
            have HKK := Lib.hid hKK
            clear hKK hd
            go_wp2
            exact HKK.out _ _ ⟨_, (by simp [upd]; done), Below.refl _ _, rfl⟩
          | 3, _ =>
            have h2 : v 2 = _ := hd 2 (List.elem_iff.1 (by kernel_rfl))
            refine wpOp_oneK rfl (fun KK hKK => ?_)
            have HKK := Lib.hid hKK
            clear hKK hd
            rw [h2]
            have q0 := cell_later hb (HX.out.cell (i := 2) rfl)
            go_wp2
            exact HKK.out _ _ ⟨_, (by simp [upd, h2]; done), Below.refl _ _, rfl⟩
          | 4, _ =>
            obtain ⟨g1, h1, o1⟩ := hd 1 (List.elem_iff.1 (by kernel_rfl))
            have h3 : v 3 = _ := hd 3 (List.elem_iff.1 (by kernel_rfl))
            refine wpOp_oneK rfl (fun KK hKK => ?_)
            have HKK := Lib.hid hKK
            clear hKK hd
            rw [h1, h3]
            go_wp2_with fail
            refine (HO.out _ _ o1).mono ?_
            rintro e w'' ⟨rfl, b⟩
            go_wp2
            exact HKK.out _ _ ⟨_, (by simp [upd, h1, h3]; done), b, rfl⟩
          | 5, _ =>
            have h4 : v 4 = _ := hd 4 (List.elem_iff.1 (by kernel_rfl))
            refine wpOp_oneK rfl (fun KK hKK => ?_)
            have HKK := Lib.hid hKK
            clear hKK hd
            rw [h4]
            go_wp2
            exact HKK.out _ _ ⟨_, (by simp [upd, h4]; done), Below.refl _ _, rfl⟩
          | 6, _ =>
            have h5 : v 5 = _ := hd 5 (List.elem_iff.1 (by kernel_rfl))
            refine wpOp_oneK rfl (fun KK hKK => ?_)
            have HKK := Lib.hid hKK
            clear hKK hd
            rw [h5]
            go_wp2
            exact HKK.out _ _ ⟨_, (by simp [upd, h5]; done), Below.refl _ _, rfl⟩
          | 7, _ =>
            have h5 : v 5 = _ := hd 5 (List.elem_iff.1 (by kernel_rfl))
            refine wpOp_oneK rfl (fun KK hKK => ?_)
            have HKK := Lib.hid hKK
            clear hKK hd
            rw [h5]
            go_wp2
            exact HKK.out _ _ ⟨_, (by simp [upd, h5]; done), Below.refl _ _, rfl⟩
          | 8, _ =>
            have h5 : v 5 = _ := hd 5 (List.elem_iff.1 (by kernel_rfl))
            have h7 : v 7 = _ := hd 7 (List.elem_iff.1 (by kernel_rfl))
            refine wpOp_oneK rfl (fun KK hKK => ?_)
            have HKK := Lib.hid hKK
            clear hKK hd
            rw [h5, h7]
            have q0 := cell_later hb (HX.out.cell (i := 0) rfl)
            have q1 := cell_later hb (HX.out.cell (i := 1) rfl)
            go_wp2
            exact HKK.out _ _ ⟨_, (by simp [upd, h5, h7]; done), Below.refl _ _, rfl⟩
          | 9, _ =>
            have h5 : v 5 = _ := hd 5 (List.elem_iff.1 (by kernel_rfl))
            have h6 : v 6 = _ := hd 6 (List.elem_iff.1 (by kernel_rfl))
            have h8 : v 8 = _ := hd 8 (List.elem_iff.1 (by kernel_rfl))
            refine wpOp_oneK rfl (fun KK hKK => ?_)
            have HKK := Lib.hid hKK
            clear hKK hd
            rw [h5, h6, h8]
            go_wp2_with fail
            refine (HH.out _ hb).mono ?_
            rintro e w'' ⟨rfl, b⟩
            go_wp2
            exact HKK.out _ _ ⟨_, (by simp [upd, h5, h6, h8]; done), b, rfl⟩
          | 10, _ =>
            have h5 : v 5 = _ := hd 5 (List.elem_iff.1 (by kernel_rfl))
            have h9 : v 9 = _ := hd 9 (List.elem_iff.1 (by kernel_rfl))
            refine wpOp_oneK rfl (fun KK hKK => ?_)
            have HKK := Lib.hid hKK
            clear hKK hd
            rw [h5, h9]
            go_wp2
            exact HKK.out _ _ ⟨_, (by simp [upd, h5, h9]; done), Below.refl _ _, rfl⟩
          | k + 11, hk => exact absurd hk (by omega)
        case doneb =>
          intro v w5 hb hf
          have h5 : v 5 = _ := hf 5 (by decide)
          have h10 : v 10 = _ := hf 10 (by decide)
          clear hf
          rw [h5, h10]
          have HBB := Lib.hid (below_on BN.out hb)
          have HO2 := Lib.hid (own_later HOW.out hb)
          clear hb
          go_wp2_with fail
          go_roundw
          case rel => exact ⟨k + 1, by omega, by first | rfl | go_num, by rw [HT.out]; exact HO2.out, HBB.out⟩
          case measure => simp [intOf]; omega
      | false =>
        have HT := Lib.hid (show Tr.tornTo lo hi fu (n.ws.take (k + 1)) = tl ++ [ob] from by rw [HNX.out]; simp)
        refine wp_region_facts 11 (by kernel_rfl) (by kernel_rfl)
          (fun v => { tmps := #[.agg #[.slice S' n.s.length cs, .slice E n.e.length ce, .slice Bl n.b.length cl, .slice (some ⟨b, off, none⟩) n.ws.length cv], .agg #[.int .i64 lo, .int .i64 hi], .slice X vl.length c, .slice Y fu.length d, .pointer (some ⟨w.heap.size, 0, none⟩), .pointer (some ⟨w.heap.size + 1, 0, none⟩), undef, undef, .slice none 0 0, .slice TA tl.length tc, undef, .pointer (some ⟨bx, 0, none⟩), undef, undef, undef, .pointer (some ⟨w.heap.size, 3, none⟩), .slice (some ⟨b, off, none⟩) n.ws.length cv, .int .i64 (n.ws.length : Int), .int .i64 (k : Int), .bool true, .pointer (some ⟨b, off + k * 4, none⟩), .agg #[.int .i64 ct, .int .i64 nd, .int .i64 ob, .bool gn], v 0, v 1, v 2, v 3, v 4, v 5, v 6, v 7, v 8, v 9, v 10, u33, u34, u35, u36, u37, u38, u39, undef, undef, undef, undef, undef, undef, undef, undef, undef, undef, undef, undef, undef, undef, undef, undef, undef, undef, undef, undef, undef, undef], defers := [] }) (fun i => match i with | 0 => u22 | 1 => u23 | 2 => u24 | 3 => u25 | 4 => u26 | 5 => u27 | 6 => u28 | 7 => u29 | 8 => u30 | 9 => u31 | 10 => u32 | _ => undef)
          (fun i x wx => match i with
            | 0 => x = .agg #[.int .i64 lo, .int .i64 hi]
            | 1 => ∃ g, x = .slice (some ⟨g, 0, none⟩) 1 1 ∧ Blk wx g 55 #[.int .i64 lo, .int .i64 hi]
            | 2 => x = .pointer (some ⟨bx, 2, none⟩)
            | 3 => x = .int .i64 ob
            | 4 => x = .bool true
            | 5 => x = .bool true
            | 6 => x = .slice Y fu.length d
            | 7 => x = .pointer (some ⟨bx, 0, none⟩)
            | 8 => x = .agg #[.int .i64 ct, .int .i64 nd]
            | 9 => x = .bool false
            | 10 => x = .bool true
            | _ => True)
          (fun w1 w2 => Below w1.heap.size w1 w2) (fun h1 h2 => below_on h1 h2) (fun _ => Below.refl _ _) (Below.drew (Below.refl _ _)) ?stabc ?stepc ?donec
        case stabc =>
          rintro i x w1 w2 h hb
          match i, h with
          | 0, h => exact h
          | 1, h => obtain ⟨g, h1, h2⟩ := h; exact ⟨g, h1, h2.later hb⟩
          | 2, h => exact h
          | 3, h => exact h
          | 4, h => exact h
          | 5, h => exact h
          | 6, h => exact h
          | 7, h => exact h
          | 8, h => exact h
          | 9, h => exact h
          | 10, h => exact h
          | i + 11, _ => trivial
        case stepc =>
          intro i hi v w' hb hd
          match i, hi with
          | 0, _ =>
            refine wpOp_oneK rfl (fun KK hKK => ?_)
            have HKK := Lib.hid hKK
            clear hKK hd
            have q0 := cell_later hb (HS5.out.cell (i := 0) rfl)
            have q1 := cell_later hb (HS5.out.cell (i := 1) rfl)
            go_wp2
            exact HKK.out _ _ ⟨_, (by simp [upd]; done), Below.refl _ _, rfl⟩
          | 1, _ =>
            have h0 : v 0 = _ := hd 0 (List.elem_iff.1 (by kernel_rfl))
            refine wpOp_oneK rfl (fun KK hKK => ?_)
            have HKK := Lib.hid hKK
            clear hKK hd
            rw [h0]
            go_wp2_with fail
            refine (alone_any _ _ _).mono ?_
            rintro e w'' ⟨g, rfl, ob, -, b⟩
            go_wp2
            exact HKK.out _ _ ⟨_, (by simp [upd, h0]; done), b, g, rfl, ob⟩
          | 2, _ =>
            refine wpOp_oneK rfl (fun KK hKK => ?_)
            have HKK := Lib.hid hKK
            clear hKK hd
            go_wp2
            exact HKK.out _ _ ⟨_, (by simp [upd]; done), Below.refl _ _, rfl⟩
          | 3, _ =>
            have h2 : v 2 = _ := hd 2 (List.elem_iff.1 (by kernel_rfl))
            refine wpOp_oneK rfl (fun KK hKK => ?_)
            have HKK := Lib.hid hKK
            clear hKK hd
            rw [h2]
            have q0 := cell_later hb (HX.out.cell (i := 2) rfl)
            go_wp2
            exact HKK.out _ _ ⟨_, (by simp [upd, h2]; done), Below.refl _ _, rfl⟩
          | 4, _ =>
            obtain ⟨g1, h1, o1⟩ := hd 1 (List.elem_iff.1 (by kernel_rfl))
            have h3 : v 3 = _ := hd 3 (List.elem_iff.1 (by kernel_rfl))
            refine wpOp_oneK rfl (fun KK hKK => ?_)
            have HKK := Lib.hid hKK
            clear hKK hd
            rw [h1, h3]
            go_wp2_with fail
            refine (HO.out _ _ o1).mono ?_
            rintro e w'' ⟨rfl, b⟩
            go_wp2
            exact HKK.out _ _ ⟨_, (by simp [upd, h1, h3]; done), b, rfl⟩
          | 5, _ =>
            have h4 : v 4 = _ := hd 4 (List.elem_iff.1 (by kernel_rfl))
            refine wpOp_oneK rfl (fun KK hKK => ?_)
            have HKK := Lib.hid hKK
            clear hKK hd
            rw [h4]
            go_wp2
            exact HKK.out _ _ ⟨_, (by simp [upd, h4]; done), Below.refl _ _, rfl⟩
          | 6, _ =>
            have h5 : v 5 = _ := hd 5 (List.elem_iff.1 (by kernel_rfl))
            refine wpOp_oneK rfl (fun KK hKK => ?_)
            have HKK := Lib.hid hKK
            clear hKK hd
            rw [h5]
            go_wp2
            exact HKK.out _ _ ⟨_, (by simp [upd, h5]; done), Below.refl _ _, rfl⟩
          | 7, _ =>
            have h5 : v 5 = _ := hd 5 (List.elem_iff.1 (by kernel_rfl))
            refine wpOp_oneK rfl (fun KK hKK => ?_)
            have HKK := Lib.hid hKK
            clear hKK hd
            rw [h5]
            go_wp2
            exact HKK.out _ _ ⟨_, (by simp [upd, h5]; done), Below.refl _ _, rfl⟩
          | 8, _ =>
            have h5 : v 5 = _ := hd 5 (List.elem_iff.1 (by kernel_rfl))
            have h7 : v 7 = _ := hd 7 (List.elem_iff.1 (by kernel_rfl))
            refine wpOp_oneK rfl (fun KK hKK => ?_)
            have HKK := Lib.hid hKK
            clear hKK hd
            rw [h5, h7]
            have q0 := cell_later hb (HX.out.cell (i := 0) rfl)
            have q1 := cell_later hb (HX.out.cell (i := 1) rfl)
            go_wp2
            exact HKK.out _ _ ⟨_, (by simp [upd, h5, h7]; done), Below.refl _ _, rfl⟩
          | 9, _ =>
            have h5 : v 5 = _ := hd 5 (List.elem_iff.1 (by kernel_rfl))
            have h6 : v 6 = _ := hd 6 (List.elem_iff.1 (by kernel_rfl))
            have h8 : v 8 = _ := hd 8 (List.elem_iff.1 (by kernel_rfl))
            refine wpOp_oneK rfl (fun KK hKK => ?_)
            have HKK := Lib.hid hKK
            clear hKK hd
            rw [h5, h6, h8]
            go_wp2_with fail
            refine (HH.out _ hb).mono ?_
            rintro e w'' ⟨rfl, b⟩
            go_wp2
            exact HKK.out _ _ ⟨_, (by simp [upd, h5, h6, h8]; done), b, rfl⟩
          | 10, _ =>
            have h5 : v 5 = _ := hd 5 (List.elem_iff.1 (by kernel_rfl))
            have h9 : v 9 = _ := hd 9 (List.elem_iff.1 (by kernel_rfl))
            refine wpOp_oneK rfl (fun KK hKK => ?_)
            have HKK := Lib.hid hKK
            clear hKK hd
            rw [h5, h9]
            go_wp2
            exact HKK.out _ _ ⟨_, (by simp [upd, h5, h9]; done), Below.refl _ _, rfl⟩
          | k + 11, hk => exact absurd hk (by omega)
        case donec =>
          intro v w5 hb hf
          have h5 : v 5 = _ := hf 5 (by decide)
          have h10 : v 10 = _ := hf 10 (by decide)
          clear hf
          rw [h5, h10]
          have HBB := Lib.hid (below_on BN.out hb)
          have hbz := HBB.out.size
          have x2 := (HX.out.later hb).cell (i := 2) rfl
          have b3 := below_new (Below.refl w5.heap.size w5) (.cells #[.int .i64 ob] 3)
          have YB := Blk.new w5 3 #[.int .i64 ob]
          have hown := Lib.hid (own_later (own_later HOW.out hb) b3)
          have HB3 := Lib.hid (below_on HBB.out b3)
          have HY3 := Lib.hid (show Lies (w5.alloc (.cells #[.int .i64 ob] 3)) (some ⟨w5.heap.size, 0, none⟩) [.int .i64 ob] from fun _ => ⟨w5.heap.size, 0, rfl, fun j u hu => by
            rw [Nat.zero_add]
            exact YB.cell (by simpa using hu)⟩)
          have hs3 := HB3.out.size
          clear hb b3 YB
          go_wp2_with (at_builtin; refine Go.Proofs.Ytcfkpjbakccgiaa.wpList_append_lies _ rfl _ _ 100 rfl W1.heap.size 3 i0 (.int .i64 0) 1 8 Try.underlying100 hI hz0 hz1 hz2 rfl (by decide) (.slice TA tl.length tc) tl.length (tl.map (Value.int .i64)) rfl hown.out (some ⟨w5.heap.size, 0, none⟩) 1 1 (fun h => by cases h) [.int .i64 ob] rfl rfl HY3.out (by intro u hu; simp at hu; subst hu; rfl) ?d3 ?d4 ?d5 ?_)
          case d3 => unfold maxLen; omega
          case d4 => omega
          case d5 => exact hs3
          intro v7 w7 ho7 hg7 _
          have HO7 := Lib.hid (show w7.ownsRow W1.heap.size 3 1 v7 (tl ++ [ob]).length ((tl ++ [ob]).map (Value.int .i64)) from by
            rw [List.length_append, List.map_append]
            exact ho7)
          have HB7 := Lib.hid (HB3.out.grown hg7 hs3 (fun q hq => own_ge hown.out q hq))
          clear ho7 hg7 hs3
          go_wp2_with fail
          go_roundw
          case rel => exact ⟨k + 1, by omega, by first | rfl | go_num, by rw [HT.out]; exact HO7.out, HB7.out⟩
          case measure => simp [intOf]; omega
    · have hkl : k = n.ws.length := by omega
      have hd : decide ((k : Int) < (n.ws.length : Int)) = false := decide_eq_false (by omega)
      have htk : Tr.tornTo lo hi fu n.ws = tl := by rw [← HTL.out, hkl, List.take_length]
      have hS3 := HS2.out
      rw [htk] at hS3
      obtain ⟨js, hjs⟩ : ∃ js, Sp.joinS [n.b, Sp.ofL (Sp.someOf tl)] = js := ⟨_, rfl⟩
      rw [hjs] at hS3
      have HTA := Lib.hid (show Lies wr TA (tl.map (Value.int .i64)) from by
        obtain ⟨A9, c9, e9, -, -, -, h9⟩ := own_form HO9.out
        injection e9 with e9 _ _
        subst e9
        exact h9)
      have HS5 := Lib.hid (HB5.out.later hbw)
      have HC2 := Lib.hid (cell_later hbw HC2'.out)
      have HOF := Lib.hid (fun (w' : World) (q : Below wr.heap.size wr w') => spof_any TA tc tl w' (by omega) (HTA.out.later q))
      have HJN := Lib.hid (fun (w' : World) (g : Nat) (U : Option Addr) (du : Nat) (q : Below wr.heap.size wr w') (q1 : Blk w' g 28 #[.slice Bl n.b.length cl, .slice U (Sp.ofL (Sp.someOf tl)).length du]) (q2 : OneL w' U du (Sp.ofL (Sp.someOf tl))) => (show Calls Try.prog 38 #[.slice (some ⟨g, 0, none⟩) 2 2] w' (GivesS js w') from by
        rw [← hjs]
        exact spjoin_any (some ⟨g, 0, none⟩) 2 [n.b, Sp.ofL (Sp.someOf tl)] w' (by simp) (by
          have := Sp.ofL_len (Sp.someOf tl)
          simp [Sp.tot]
          omega) (rows_two q1 ((HBL.out.later hbw).later q) q2)))
      have HMT := Lib.hid (fun (w' : World) (g : Nat) (U : Option Addr) (du : Nat) (q1 : Blk w' g 55 #[.int .i64 lo, .int .i64 hi]) (q2 : OneL w' U du js) => (show Calls Try.prog 72 #[.slice (some ⟨g, 0, none⟩) 1 1, .slice U js.length du] w' (GivesS S w') from by
        rw [hS3]
        exact spmeet_any (some ⟨g, 0, none⟩) U 1 du [(lo, hi)] js w' (one_stamp q1) q2))
      have HBW := Lib.hid hbw
      clear hkl htk hS3 hjs hbw HTL HO9
      go_upto_region 9 with (fail)
      refine wp_region_all (by kernel_rfl) (by kernel_rfl)
        (fun v => { tmps := #[.agg #[.slice S' n.s.length cs, .slice E n.e.length ce, .slice Bl n.b.length cl, .slice V n.ws.length cv], .agg #[.int .i64 lo, .int .i64 hi], .slice X vl.length c, .slice Y fu.length d, .pointer (some ⟨w.heap.size, 0, none⟩), .pointer (some ⟨w.heap.size + 1, 0, none⟩), undef, undef, .slice none 0 0, .slice TA tl.length tc, undef, u11, .slice none 0 0, undef, undef, .pointer (some ⟨w.heap.size, 3, none⟩), .slice V n.ws.length cv, .int .i64 (n.ws.length : Int), .int .i64 (k : Int), .bool false, u20, u21, u22, u23, u24, u25, u26, u27, u28, u29, u30, u31, u32, u33, u34, u35, u36, u37, u38, u39, v 0, v 1, v 2, v 3, v 4, v 5, v 6, v 7, v 8, v 9, v 10, undef, undef, undef, undef, undef, undef, undef, undef, undef, undef, undef], defers := [] }) (fun _ => undef)
        (fun i x wx => match i with
          | 0 => x = .agg #[.int .i64 lo, .int .i64 hi]
          | 1 => ∃ g, x = .slice (some ⟨g, 0, none⟩) 1 1 ∧ Blk wx g 55 #[.int .i64 lo, .int .i64 hi]
          | 2 => x = .pointer (some ⟨w.heap.size, 2, none⟩)
          | 3 => x = .slice Bl n.b.length cl
          | 4 => x = .slice TA tl.length tc
          | 5 => ∃ U d, x = .slice U (Sp.ofL (Sp.someOf tl)).length d ∧ OneL wx U d (Sp.ofL (Sp.someOf tl))
          | 6 => ∃ g U d, x = .slice (some ⟨g, 0, none⟩) 2 2 ∧ Blk wx g 28 #[.slice Bl n.b.length cl, .slice U (Sp.ofL (Sp.someOf tl)).length d] ∧ OneL wx U d (Sp.ofL (Sp.someOf tl))
          | 7 => ∃ U d, x = .slice U (js).length d ∧ OneL wx U d (js)
          | 8 => ∃ U d, x = .slice U (S).length d ∧ OneL wx U d (S)
          | 9 => x = .int .i64 (S.length : Int)
          | 10 => x = .int .i64 0
          | _ => True)
        (fun w1 w2 => Below w1.heap.size w1 w2) (fun h1 h2 => below_on h1 h2) (fun _ => Below.refl _ _) (Below.drew (Below.refl _ _)) ?stabM ?stepM ?doneM
      case stabM =>
        rintro i x w1 w2 h hb
        match i, h with
        | 0, h => exact h
        | 1, h => obtain ⟨g, h1, h2⟩ := h; exact ⟨g, h1, h2.later hb⟩
        | 2, h => exact h
        | 3, h => exact h
        | 4, h => exact h
        | 5, h => obtain ⟨U, d, h1, h2⟩ := h; exact ⟨U, d, h1, h2.later hb⟩
        | 6, h => obtain ⟨g, U, d, h1, h2, h3⟩ := h; exact ⟨g, U, d, h1, h2.later hb, h3.later hb⟩
        | 7, h => obtain ⟨U, d, h1, h2⟩ := h; exact ⟨U, d, h1, h2.later hb⟩
        | 8, h => obtain ⟨U, d, h1, h2⟩ := h; exact ⟨U, d, h1, h2.later hb⟩
        | 9, h => exact h
        | 10, h => exact h
        | i + 11, _ => trivial
      case stepM =>
        intro i hi v w' hb hd
        match i, hi with
        | 0, _ =>
          refine wpOp_oneK rfl (fun KK hKK => ?_)
          have HKK := Lib.hid hKK
          clear hKK hd
          have q0 := cell_later hb (HS5.out.cell (i := 0) rfl)
          have q1 := cell_later hb (HS5.out.cell (i := 1) rfl)
          go_wp2
          exact HKK.out _ _ ⟨_, (by simp [upd]; done), Below.refl _ _, rfl⟩
        | 1, _ =>
          have h0 : v 0 = _ := hd 0 (List.elem_iff.1 (by kernel_rfl))
          refine wpOp_oneK rfl (fun KK hKK => ?_)
          have HKK := Lib.hid hKK
          clear hKK hd
          rw [h0]
          go_wp2_with fail
          refine (alone_any _ _ _).mono ?_
          rintro e w'' ⟨g, rfl, ob, -, b⟩
          go_wp2
          exact HKK.out _ _ ⟨_, (by simp [upd, h0]; done), b, g, rfl, ob⟩
        | 2, _ =>
          refine wpOp_oneK rfl (fun KK hKK => ?_)
          have HKK := Lib.hid hKK
          clear hKK hd
          go_wp2
          exact HKK.out _ _ ⟨_, (by simp [upd]; done), Below.refl _ _, rfl⟩
        | 3, _ =>
          have h2 : v 2 = _ := hd 2 (List.elem_iff.1 (by kernel_rfl))
          refine wpOp_oneK rfl (fun KK hKK => ?_)
          have HKK := Lib.hid hKK
          clear hKK hd
          rw [h2]
          have q0 := cell_later hb HC2.out
          go_wp2
          exact HKK.out _ _ ⟨_, (by simp [upd, h2]; done), Below.refl _ _, rfl⟩
        | 4, _ =>
          refine wpOp_oneK rfl (fun KK hKK => ?_)
          have HKK := Lib.hid hKK
          clear hKK hd
          go_wp2
          exact HKK.out _ _ ⟨_, (by simp [upd]; done), Below.refl _ _, rfl⟩
        | 5, _ =>
          have h4 : v 4 = _ := hd 4 (List.elem_iff.1 (by kernel_rfl))
          refine wpOp_oneK rfl (fun KK hKK => ?_)
          have HKK := Lib.hid hKK
          clear hKK hd
          rw [h4]
          go_wp2_with fail
          refine (HOF.out _ hb).mono ?_
          rintro e w'' ⟨u, rfl, ho, b⟩
          obtain ⟨U, d, rfl, hq1⟩ := OneL.of_own ho
          clear ho
          go_wp2
          exact HKK.out _ _ ⟨_, (by simp [upd, h4]; done), b, U, d, rfl, hq1⟩
        | 6, _ =>
          have h3 : v 3 = _ := hd 3 (List.elem_iff.1 (by kernel_rfl))
          obtain ⟨U5, d5, h5, o5⟩ := hd 5 (List.elem_iff.1 (by kernel_rfl))
          refine wpOp_oneK rfl (fun KK hKK => ?_)
          have HKK := Lib.hid hKK
          clear hKK hd
          rw [h3, h5]
          go_wp2
          exact HKK.out _ _ ⟨_, (by simp [upd, h3, h5]; done), below_new (Below.refl _ _) _, _, U5, d5, rfl, Blk.new _ _ _, o5.later (below_new (Below.refl _ _) _)⟩
        | 7, _ =>
          obtain ⟨g6, U6, d6, h6, b6, o6⟩ := hd 6 (List.elem_iff.1 (by kernel_rfl))
          refine wpOp_oneK rfl (fun KK hKK => ?_)
          have HKK := Lib.hid hKK
          clear hKK hd
          rw [h6]
          go_wp2_with fail
          refine (HJN.out _ _ _ _ hb b6 o6).mono ?_
          rintro e w'' ⟨u, rfl, ho, b⟩
          obtain ⟨U, d, rfl, hq1⟩ := OneL.of_own ho
          clear ho
          go_wp2
          exact HKK.out _ _ ⟨_, (by simp [upd, h6]; done), b, U, d, rfl, hq1⟩
        | 8, _ =>
          obtain ⟨g1, h1, o1⟩ := hd 1 (List.elem_iff.1 (by kernel_rfl))
          obtain ⟨U7, d7, h7, o7⟩ := hd 7 (List.elem_iff.1 (by kernel_rfl))
          refine wpOp_oneK rfl (fun KK hKK => ?_)
          have HKK := Lib.hid hKK
          clear hKK hd
          rw [h1, h7]
          go_wp2_with fail
          refine (HMT.out _ _ _ _ o1 o7).mono ?_
          rintro e w'' ⟨u, rfl, ho, b⟩
          obtain ⟨U, d, rfl, hq1⟩ := OneL.of_own ho
          clear ho
          go_wp2
          exact HKK.out _ _ ⟨_, (by simp [upd, h1, h7]; done), b, U, d, rfl, hq1⟩
        | 9, _ =>
          obtain ⟨U8, d8, h8, o8⟩ := hd 8 (List.elem_iff.1 (by kernel_rfl))
          refine wpOp_oneK rfl (fun KK hKK => ?_)
          have HKK := Lib.hid hKK
          clear hKK hd
          rw [h8]
          go_wp2
          exact HKK.out _ _ ⟨_, (by simp [upd, h8]; done), Below.refl _ _, rfl⟩
        | 10, _ =>
          refine wpOp_oneK rfl (fun KK hKK => ?_)
          have HKK := Lib.hid hKK
          clear hKK hd
          go_wp2
          exact HKK.out _ _ ⟨_, (by simp [upd]; done), Below.refl _ _, rfl⟩
        | k + 11, hk => exact absurd hk (by simp)
      case doneM =>
        intro v w5 hb hf
        have h0 : v 0 = _ := hf 0 (by decide)
        obtain ⟨g1, h1, o1⟩ := hf 1 (by decide)
        have h2 : v 2 = _ := hf 2 (by decide)
        have h3 : v 3 = _ := hf 3 (by decide)
        have h4 : v 4 = _ := hf 4 (by decide)
        obtain ⟨U5, d5, h5, o5⟩ := hf 5 (by decide)
        obtain ⟨g6, U6, d6, h6, b6, o6⟩ := hf 6 (by decide)
        obtain ⟨U7, d7, h7, o7⟩ := hf 7 (by decide)
        obtain ⟨U8, d8, h8, o8⟩ := hf 8 (by decide)
        have h9 : v 9 = _ := hf 9 (by decide)
        have h10 : v 10 = _ := hf 10 (by decide)
        clear hf
        rw [h0, h1, h2, h3, h4, h5, h6, h7, h8, h9, h10]
        have HBB := Lib.hid (below_on HBW.out hb)
        have HSL := Lib.hid o8
        clear hb h0 h1 h2 h3 h4 h5 h6 h7 h8 h9 h10 o1 o5 b6 o6 o7 o8 HOF HJN HMT HTA HC2 HS5
        go_wp2_with fail
        go_loopw [12, 50] (fun s12 s50 wr => ∃ (j : Nat), j ≤ S.length ∧ s50 = .int .i64 (j : Int) ∧ wr.ownsRow w5.heap.size 57 3 s12 j (zCells ((S.take j).map fun s => (⟨s.1, s.2, X, c, vl⟩ : Zc))) ∧ Below w5.heap.size w5 wr) (fun _ s50 _ => S.length - (intOf s50).toNat)
        case atStart => exact ⟨0, Nat.zero_le _, rfl, ⟨rfl, .inl ⟨rfl, rfl⟩⟩, Below.refl _ _⟩
        case round =>
          obtain ⟨j, hj, rfl, ho, hbw⟩ := hrel
          obtain ⟨VA, vc, hvv, -, hvm, hvn, -⟩ := own_form ho
          subst hvv
          unfold maxLen at hvm
          have HO := Lib.hid ho
          clear ho
          by_cases hlt : j < S.length
          · have hne : S ≠ [] := fun e => by subst e; simp at hlt
            obtain ⟨b, off, hA, hc⟩ := (HSL.out.later hbw).stamps hne
            subst hA
            obtain ⟨e0, e1⟩ := hc j hlt
            have htk : S.take (j + 1) = S.take j ++ [S.getD j (0, 0)] := by
              rw [List.take_succ_eq_append_getElem hlt, List.getD_eq_getElem?_getD, List.getElem?_eq_getElem hlt]; rfl
            obtain ⟨s, hs⟩ : ∃ s, S.getD j (0, 0) = s := ⟨_, rfl⟩
            rw [hs] at e0 e1 htk
            obtain ⟨s1, s2⟩ := s
            have hi0 : (0 : Int) ≤ (j : Int) := by omega
            have hi1 : (j : Int) < (S.length : Int) := by omega
            dsimp only at e0 e1
            have HT := Lib.hid htk
            have b2 := below_new (Below.refl wr.heap.size wr) (.cells #[.int .i64 s1, .int .i64 s2] 55)
            have XB := Blk.new wr 55 #[.int .i64 s1, .int .i64 s2]
            obtain ⟨W2, hW2⟩ : ∃ W2, wr.alloc (.cells #[.int .i64 s1, .int .i64 s2] 55) = W2 := ⟨_, rfl⟩
            rw [hW2] at b2 XB
            have k0 : W2.cell? ⟨wr.heap.size, 0, none⟩ = some (.int .i64 s1) := XB.cell (i := 0) rfl
            have k1 : W2.cell? ⟨wr.heap.size, 1, none⟩ = some (.int .i64 s2) := XB.cell (i := 1) rfl
            have b3 := below_new (Below.refl W2.heap.size W2) (.cells #[.int .i64 s1, .int .i64 s2, .slice X vl.length c] 57)
            have YB := Blk.new W2 57 #[.int .i64 s1, .int .i64 s2, .slice X vl.length c]
            have hown := Lib.hid (own_later (own_later HO.out b2) b3)
            have HB3 := Lib.hid (below_on (below_on hbw b2) b3)
            have HY3 := Lib.hid (show Lies (W2.alloc (.cells #[.int .i64 s1, .int .i64 s2, .slice X vl.length c] 57)) (some ⟨W2.heap.size, 0, none⟩) [.int .i64 s1, .int .i64 s2, .slice X vl.length c] from fun _ => ⟨W2.heap.size, 0, rfl, fun i u hu => by
              rw [Nat.zero_add]
              exact YB.cell (by simpa using hu)⟩)
            have hs3 := HB3.out.size
            have HW2 := Lib.hid hW2
            clear hc hne hs XB YB b2 b3 hW2 HO hbw htk
            go_upto_region 12 with (fail)
            rw [HW2.out]
            clear HW2 e0 e1
            go_wp2_with (at_builtin; refine Go.Proofs.Ytcfkpjbakccgiaa.wpList_append_lies _ rfl _ _ 22 rfl w5.heap.size 57 i1 (.agg #[.int .i64 0, .int .i64 0, .slice none 0 0]) 3 40 Try.underlying22 hI1 hy0 hy1 hy2 rfl (by decide) (.slice VA j vc) j (zCells ((S.take j).map fun s => (⟨s.1, s.2, X, c, vl⟩ : Zc))) rfl hown.out (some ⟨W2.heap.size, 0, none⟩) 1 1 (fun h => by cases h) [.int .i64 s1, .int .i64 s2, .slice X vl.length c] rfl rfl HY3.out (by intro u hu; simp at hu; rcases hu with rfl | rfl | rfl <;> rfl) ?d3 ?d4 ?d5 ?_)
            case d3 => unfold maxLen; omega
            case d4 => omega
            case d5 => exact hs3
            intro v7 w7 ho7 hg7 _
            have HO7 := Lib.hid (show w7.ownsRow w5.heap.size 57 3 v7 (j + 1) (zCells ((S.take (j + 1)).map fun s => (⟨s.1, s.2, X, c, vl⟩ : Zc))) from by
              rw [HT.out, List.map_append, zCells_append]
              first
                | exact ho7
                | (rw [List.map_take]; exact ho7))
            have HB8 := Lib.hid (show Below w5.heap.size w5 w7 from HB3.out.grown hg7 hs3 (fun q hq => own_ge hown.out q hq))
            clear ho7 hg7 hs3
            go_wp2_with fail
            go_roundw
            case rel => exact ⟨j + 1, by omega, by first | rfl | go_num, HO7.out, HB8.out⟩
            case measure => simp [intOf]; omega
          · have hjl : j = S.length := by omega
            have hd : decide ((j : Int) < (S.length : Int)) = false := decide_eq_false (by omega)
            have htk : S.take j = S := List.take_of_length_le (by omega)
            have hol := HO.out
            rw [htk] at hol
            have FIN := Lib.hid (show GivesStay X c vl (S.map fun s => (s.1, s.2, vl)) w (.returned (.slice VA j vc)) wr from ⟨_, S.map fun s => (⟨s.1, s.2, X, c, vl⟩ : Zc), rfl, by rw [List.length_map, ← hjl]; exact own_base hol (by have := HBB.out.size; omega), by rw [List.map_map]; rfl, fun z hz => by
              obtain ⟨s, -, rfl⟩ := List.mem_map.1 hz
              exact ⟨rfl, rfl, rfl⟩, below_on (below_on HBN.out HBB.out) hbw⟩)
            clear hjl htk hol HO
            go_wp2
            go_ret
            exact FIN.out
end Go.Proofs.Ytcfkpjbakccgiaa
