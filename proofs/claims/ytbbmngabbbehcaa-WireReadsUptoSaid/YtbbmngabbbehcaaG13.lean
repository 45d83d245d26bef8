/-
  What wire's own reader's row answers.
  A region that draws its order, whose operations make rows of bytes and append to them: of each row that lives it is known what it holds, and no two that live lie in one block. An operation may write into the block of a row that it uses up. Nothing of the program is imported.
  What telltaleref06's Vector and Set answer: a list's bytes.
  Lists that wire's reader reads: what is known on the way; what readStamp and readSpan answer.
-/
import Derived.Test.YtbbmngabbbehcaaG12
import Derived.Test.YtbbmngabbbehcaaG04
import Derived.Test.YtbbmngabbbehcaaG02
import Derived.Test.YtbbmngabbbehcaaG09
namespace Go.Proofs.Ytbbmngabbbehcaa
open Go.RowKit

/-- A row was read. -/
def DRow (g : Nat) (l : List Int) (most : Int) (s : Option Nat) (w : World) (e : Ending) (w' : World) : Prop :=
  ∃ D d q, e = .returned (.slice D q.length d) ∧ w'.ownsRow w.heap.size 5 1 (.slice D q.length d) q.length (bCells q) ∧ (∀ x ∈ q, isB x) ∧ DRd w' g l (Wi.nxt (Wi.prow l most) s) ∧ Only g w w' ∧ Wi.Got (Wi.prow l most) s q
theorem prow_no {l : List Int} {a : Nat} {most e : Int} (h : Pk.row (l.drop a) most = ([], 0, e)) (he : e ≠ 0) : Wi.prow l most a = none := by
  unfold Wi.prow
  rw [h, if_neg he]
theorem prow_yes {l q : List Int} {a k : Nat} {most : Int} (h : Pk.row (l.drop a) most = (q, (k : Int), 0)) : Wi.prow l most a = some (q, a + k) := by
  unfold Wi.prow
  rw [h, if_pos rfl]
  simp

set_option maxHeartbeats 3200000 in
theorem drrow_no (g : Nat) (l : List Int) (most : Int) (s : Option Nat) (w : World) (A : Option Addr) (c : Nat) (r : List Int) (b : Bool) (e : Int) (he : e = 1 ∨ e = 4 ∨ e = 5) (hrl : r.length ≤ 140737488355328) (hB : Blk w g 126 #[.slice A r.length c, .bool b]) (hO : OneB w A c r) (hAg : r ≠ [] → ∀ ad, A = some ad → ad.block < g) (hL : Left l r b s) (hn : Pk.row r most = ([], 0, e)) (hs : s.bind (Wi.prow l most) = none) :
    Calls Try.prog 110 #[.pointer (some ⟨g, 0, none⟩), .int .i64 most] w (DRow g l most s w) := by
  have c0 := hB.cell (i := 0) rfl
  have CN := Lib.hid (drow_any A c r most w hrl hO)
  rw [hn] at CN
  have HD := Lib.hid (show DRd w g l s from ⟨A, c, r, b, hB, hO, hAg, hL⟩)
  have HS := Lib.hid hs
  have hez : (e == 0) = false := by rcases he with rfl | rfl | rfl <;> rfl
  have hez2 : (e != 0) = true := by rcases he with rfl | rfl | rfl <;> rfl
  have hez3 : ¬ e = 0 := by rcases he with rfl | rfl | rfl <;> decide
  clear hB hO hAg hL hn hs he
  go_enter Try.func110, Try.ntmps110
  go_wp2_with fail
  refine CN.out.mono ?_
  rintro e1 w1 ⟨v0, rfl, _, b1⟩
  have CF := Lib.hid (drfail_any g l s w1 (HD.out.later b1))
  have B1 := Lib.hid b1
  clear b1 CN c0
  go_wp2_with fail
  refine CF.out.mono ?_
  rintro e2 w2 ⟨rfl, hd2, ho2⟩
  have HD2 := Lib.hid hd2; have HO2 := Lib.hid ho2
  clear hd2 ho2 CF
  go_wp2
  go_ret
  exact ⟨none, 0, [], rfl, ⟨rfl, .inl ⟨rfl, rfl⟩⟩, (fun _ h => by cases h), by rw [nxt_no HS.out]; exact HD2.out, (Only.of_below g B1.out).on HO2.out, got_no HS.out⟩

set_option maxHeartbeats 3200000 in
theorem drrow_yes (g : Nat) (l : List Int) (w : World) (most : Int) (A : Option Addr) (c a k : Nat) (q r : List Int) (hr : r = l.drop a) (ha : a ≤ l.length) (hB : Blk w g 126 #[.slice A r.length c, .bool false]) (hO : OneB w A c r) (hAg : r ≠ [] → ∀ ad, A = some ad → ad.block < g) (hn : Pk.row r most = (q, (k : Int), 0)) (hk1 : 1 ≤ k) (hkl : k ≤ r.length) (hq : ∀ x ∈ q, isB x) (hrl : r.length ≤ 140737488355328) :
    Calls Try.prog 110 #[.pointer (some ⟨g, 0, none⟩), .int .i64 most] w (DRow g l most (some a) w) := by
  have hne : r ≠ [] := fun e => by rw [e] at hkl; simp at hkl; omega
  obtain ⟨bb, off, hA, -⟩ := hO.at hne
  subst hA
  have hbg : bb < g := hAg hne _ rfl
  have hle := hO.le
  have hcap := hO.cap
  unfold maxLen at hcap
  have hp : Wi.prow l most a = some (q, a + k) := prow_yes (by rw [← hr]; exact hn)
  have hlk : a + k ≤ l.length := by rw [hr, List.length_drop] at hkl; omega
  have htl : OneB w (some ⟨bb, off + k, none⟩) (c - k) (r.drop k) := by simpa [Addr.add, show k ≠ 0 from by omega] using hO.tail hkl
  have hdd : r.drop k = l.drop (a + k) := by rw [hr, List.drop_drop]
  have hnx : Wi.nxt (Wi.prow l most) (some a) = some (a + k) := by
    show ((Wi.prow l most a).map (·.2)) = _
    rw [hp]; rfl
  have hgt : Wi.Got (Wi.prow l most) (some a) q := fun x y hx => by
    have hx : Wi.prow l most a = some (x, y) := hx
    rw [hp] at hx
    cases hx
    rfl
  have hrl2 : (r.drop k).length = r.length - k := List.length_drop
  clear hAg
  have c0 := hB.cell (i := 0) rfl
  have CN := Lib.hid (drow_any (some ⟨bb, off, none⟩) c r most w hrl hO)
  rw [hn] at CN
  have HB := Lib.hid hB; have HT := Lib.hid htl; have HDD := Lib.hid hdd; have HG := Lib.hid hgt; have HNX := Lib.hid hnx; have HRL := Lib.hid hrl2; have HQ := Lib.hid hq
  clear hB hO hn hr htl hdd hgt hnx hp hne hrl2 hq
  by_cases hck : c = k
  · subst hck
    have hre : r.length = c := by omega
    have HRE := Lib.hid hre
    clear hre
    go_enter Try.func110, Try.ntmps110
    go_wp2_with fail
    refine CN.out.mono ?_
    rintro e1 w1 ⟨v0, rfl, o1, b1⟩
    obtain ⟨D, d, hv0, hD⟩ := OneB.of_own o1 HQ.out
    subst hv0
    have HD := Lib.hid o1; have hgl := HB.out.lt
    clear hD o1
    have hB1 := HB.out.later b1
    have k0 := hB1.cell (i := 0) rfl
    have f0 := hB1.free 0
    have HB1 := Lib.hid hB1; have B1 := Lib.hid b1
    clear b1 CN c0 hB1
    go_wp2
    go_ret
    have hr0 : r.drop c = [] := List.eq_nil_of_length_eq_zero (by rw [HRL.out, HRE.out]; omega)
    have hz : OneB w1 (some ⟨bb, off, none⟩) 0 [] := ⟨Nat.le_refl _, Nat.zero_le _, (fun h => by cases h), fun h => absurd rfl h, fun x hx => by cases hx⟩
    have hd := DRd.put1 (l := l) (s := some (a + c)) (r' := []) HB1.out hz (fun _ _ h => by cases h; exact hbg) ⟨hlk, by rw [← HDD.out, hr0], rfl⟩
    refine ⟨D, d, q, rfl, own_stays HD.out (fun j hj => Below.heap_setCell w1 ⟨g, 0, none⟩ _ j (by have := own_ge HD.out j hj; show j ≠ g; omega)), HQ.out, ?_, ((Only.of_below g B1.out).set 0 _), HG.out⟩
    rw [HNX.out]
    have e0 : r.length - c = 0 := by rw [HRE.out]; omega
    first | exact hd | (simpa [e0] using hd) | (rw [e0]; exact hd)
  · go_enter Try.func110, Try.ntmps110
    go_wp2_with fail
    refine CN.out.mono ?_
    rintro e1 w1 ⟨v0, rfl, o1, b1⟩
    obtain ⟨D, d, hv0, hD⟩ := OneB.of_own o1 HQ.out
    subst hv0
    have HD := Lib.hid o1; have hgl := HB.out.lt
    clear hD o1
    have hB1 := HB.out.later b1
    have k0 := hB1.cell (i := 0) rfl
    have f0 := hB1.free 0
    have HB1 := Lib.hid hB1; have B1 := Lib.hid b1
    clear b1 CN c0 hB1
    go_wp2
    go_ret
    have hd := DRd.put1 (l := l) (s := some (a + k)) (r' := r.drop k) HB1.out (HT.out.later B1.out) (fun _ _ h => by cases h; exact hbg) ⟨hlk, HDD.out, rfl⟩
    refine ⟨D, d, q, rfl, own_stays HD.out (fun j hj => Below.heap_setCell w1 ⟨g, 0, none⟩ _ j (by have := own_ge HD.out j hj; show j ≠ g; omega)), HQ.out, ?_, ((Only.of_below g B1.out).set 0 _), HG.out⟩
    rw [HNX.out]
    rw [HRL.out] at hd
    exact hd

theorem drrow_any (g : Nat) (l : List Int) (most : Int) (hm : ¬ most < 0) (s : Option Nat) (w : World) (hl : l.length ≤ 1099511627776) (h : DRd w g l s) :
    Calls Try.prog 110 #[.pointer (some ⟨g, 0, none⟩), .int .i64 most] w (DRow g l most s w) := by
  obtain ⟨A, c, r, b, hB, hO, hA, hL⟩ := h
  cases s with
  | none => exact drrow_no g l most none w A c r b 5 (.inr (.inr rfl)) (by rw [hL.1]; simp) hB hO hA hL (by rw [hL.1]; exact Pk.row_err [] most 5 hm rfl (by decide)) rfl
  | some a =>
    obtain ⟨ha, hr, rfl⟩ := hL
    have hrl : r.length ≤ 140737488355328 := by rw [hr, List.length_drop]; omega
    rcases Pk.row_ways r most hO.byte with ⟨e, he, hw⟩ | ⟨q, j, hw, hla, hj, hq, hj1⟩
    · exact drrow_no g l most (some a) w A c r false e he hrl hB hO hA ⟨ha, hr, rfl⟩ hw (prow_no (by rw [← hr]; exact hw) (by rcases he with rfl | rfl | rfl <;> decide))
    · exact drrow_yes g l w most A c a j q r hr ha hB hO hA hw (by omega) hj hq hrl

end Go.Proofs.Ytbbmngabbbehcaa
namespace Go.Proofs.Ytbbmngabbbehcaa
open Go.RowKit

/-- All blocks that lay are as they were, but for D. -/
structure Fr (w w' : World) (D : Option Nat) : Prop where
  os : w'.os = w.os
  tape : w'.tape = w.tape
  output : w'.output = w.output
  size : w.heap.size ≤ w'.heap.size
  block : ∀ k, k < w.heap.size → D ≠ some k → w'.heap[k]? = w.heap[k]?
theorem Fr.refl (w : World) : Fr w w none := ⟨rfl, rfl, rfl, Nat.le_refl _, fun _ _ _ => rfl⟩
theorem Fr.of_below {w w' : World} (h : Below w.heap.size w w') : Fr w w' none := ⟨h.os, h.tape, h.output, h.size, fun k hk _ => h.block k hk⟩
theorem Fr.of_grown {w w' : World} {row : Option Nat} (h : w.grownBy w' row) : Fr w w' row := ⟨h.os, h.tape, h.output, h.size, fun k hk hd => h.block k hk (fun e => hd e.symm)⟩
theorem Fr.below {w w' : World} {D : Option Nat} (h : Fr w w' D) {B : Nat} (hB : B ≤ w.heap.size) (hD : ∀ k, D = some k → B ≤ k) : Below B w w' := ⟨h.os, h.tape, h.output, h.size, fun k hk => h.block k (by omega) (fun e => by have := hD k e; omega)⟩

section
variable {P : Program} {ops : Array Oper} {md : Region.Mode} {Q : Exit → Act → World → Prop}

/-- What is known where some of the operations have been: L i = true says of an operation that it has been, and of all numbers beyond that they have. B0: the block of the row that lived ahead of the region. -/
structure RowsInv (base : Nat) (e : TypeId) (C : Nat → Value → Prop) (row : Nat → Option (List Int)) (cons : Nat → Nat) (B0 : Option Nat) (W : World) (n : Nat) (L : Nat → Bool) (v : Nat → Value) (w : World) : Prop where
  rel : Below base W w
  hbase : base ≤ w.heap.size
  keep : ∀ k, k < W.heap.size → B0 ≠ some k → w.heap[k]? = W.heap[k]?
  c : ∀ i, L i = true → C i (v i)
  own : ∀ i r, L i = true → L (cons i) = false → row i = some r → w.ownsRow base e 1 (v i) r.length (bCells r)
  far : ∀ i, L i = true → L (cons i) = false → row i ≠ none → ∀ k, (v i).ownBlock = some k → W.heap.size ≤ k ∨ B0 = some k
  apart : ∀ i j, i ≠ j → L i = true → L j = true → L (cons i) = false → L (cons j) = false → row i ≠ none → row j ≠ none → ∀ k, (v i).ownBlock = some k → (v j).ownBlock ≠ some k

variable {base : Nat} {e : TypeId} {C : Nat → Value → Prop} {row : Nat → Option (List Int)} {cons : Nat → Nat} {B0 : Option Nat} {W : World} {n : Nat}
/-- What an operation's walk has to show. -/
def RowStep (base : Nat) (e : TypeId) (C : Nat → Value → Prop) (row : Nat → Option (List Int)) (cons : Nat → Nat) (L : Nat → Bool) (v : Nat → Value) (i : Nat) (w : World) (x : Value) (w' : World) : Prop :=
  ∃ D : Option Nat, Fr w w' D ∧ C i x ∧ (∀ r, row i = some r → w'.ownsRow base e 1 x r.length (bCells r) ∧ ∀ k, x.ownBlock = some k → w.heap.size ≤ k ∨ D = some k) ∧
    (∀ k, D = some k → ∃ d, cons d = i ∧ row d ≠ none ∧ L d = true ∧ (v d).ownBlock = some k)
/-- A value that hangs on no memory. -/
theorem RowStep.still {L : Nat → Bool} {v : Nat → Value} {i : Nat} {w : World} {x : Value} (hC : C i x) (hr : row i = none) : RowStep base e C row cons L v i w x w :=
  ⟨none, Fr.refl w, hC, fun r h => (by rw [hr] at h; cases h), fun k h => (by cases h)⟩
/-- A call that makes a row. -/
theorem RowStep.made {L : Nat → Bool} {v : Nat → Value} {i : Nat} {w w' : World} {x : Value} (hC : C i x) {r : List Int} (hr : row i = some r) (hb : Below w.heap.size w w') (hbase : base ≤ w.heap.size) (ho : w'.ownsRow w.heap.size e 1 x r.length (bCells r)) : RowStep base e C row cons L v i w x w' :=
  ⟨none, Fr.of_below hb, hC, fun r' h => (by
    rw [hr] at h
    cases h
    exact ⟨own_base ho hbase, fun k hk => .inl (own_ge ho k hk)⟩), fun k h => (by cases h)⟩
/-- A row is appended to. -/
theorem RowStep.grown {L : Nat → Bool} {v : Nat → Value} {i d : Nat} {w w' : World} {x y : Value} (hC : C i x) {r : List Int} (hr : row i = some r) (hd : cons d = i) (hd2 : row d ≠ none) (hL : L d = true) (hy : y = v d) (hg : w.grownBy w' y.ownBlock) (ho : w'.ownsRow base e 1 x r.length (bCells r)) (hx : x.ownBlock = y.ownBlock ∨ x.ownBlock = some w.heap.size) : RowStep base e C row cons L v i w x w' := by
  subst hy
  refine ⟨_, Fr.of_grown hg, hC, fun r' h => ?_, fun k hk => ⟨d, hd, hd2, hL, hk⟩⟩
  rw [hr] at h
  cases h
  refine ⟨ho, fun k hk => ?_⟩
  rcases hx with h | h
  · exact .inr (h ▸ hk)
  · rw [h] at hk
    cases hk
    exact .inl (Nat.le_refl _)

theorem RowsInv.step {L : Nat → Bool} {v : Nat → Value} {w w' : World} (h : RowsInv base e C row cons B0 W n L v w) {i : Nat} (hi : L i = false) {x : Value} (hs : RowStep base e C row cons L v i w x w') :
    RowsInv base e C row cons B0 W n (fun j => if j = i then true else L j) (upd v i x) w' := by
  obtain ⟨D, hF, hC, hR, hD⟩ := hs
  have hdead : ∀ d, cons d = i → L (cons d) = false := fun d hd => by rw [hd]; exact hi
  have hDb : ∀ k, D = some k → base ≤ k := fun k hk => by
    obtain ⟨d, hd1, hd2, hd3, hd4⟩ := hD k hk
    obtain ⟨r, hr⟩ := Option.ne_none_iff_exists'.1 hd2
    exact own_ge (h.own d r hd3 (hdead d hd1) hr) k hd4
  have hDf : ∀ k, D = some k → W.heap.size ≤ k ∨ B0 = some k := fun k hk => by
    obtain ⟨d, hd1, hd2, hd3, hd4⟩ := hD k hk
    exact h.far d hd3 (hdead d hd1) hd2 k hd4
  have hother : ∀ j, j ≠ i → L j = true → L (cons j) = false → cons j ≠ i → row j ≠ none → ∀ k, (v j).ownBlock = some k → D ≠ some k := fun j hj h1 h2 h3 h4 k hk hDk => by
    obtain ⟨d, hd1, hd2, hd3, hd4⟩ := hD k hDk
    by_cases hdj : d = j
    · subst hdj; exact h3 hd1
    · exact h.apart d j hdj hd3 h1 (hdead d hd1) h2 hd2 h4 k hd4 hk
  refine ⟨h.rel.trans (hF.below h.hbase hDb), Nat.le_trans h.hbase hF.size, fun k hk hB => ?_, fun j hl => ?_, fun j r hl hlc hr => ?_, fun j hl hlc hr k hk => ?_, fun p q hpq hp hq hpc hqc hp0 hq0 k hk => ?_⟩
  · refine (hF.block k (by have := h.rel.size; omega) (fun e => ?_)).trans (h.keep k hk hB)
    rcases hDf k e with h1 | h1
    · omega
    · exact hB h1
  · by_cases e : j = i
    · subst e; rw [upd_same]; exact hC
    · rw [upd_other v i x e]
      rw [if_neg e] at hl
      exact h.c j hl
  · by_cases e : j = i
    · subst e; rw [upd_same]; exact (hR r hr).1
    · rw [upd_other v i x e]
      rw [if_neg e] at hl
      have hci : cons j ≠ i := fun e' => by rw [if_pos e'] at hlc; cases hlc
      rw [if_neg hci] at hlc
      have hown := h.own j r hl hlc hr
      exact own_stays hown (fun k hk => hF.block k (own_lt hown k hk) (hother j e hl hlc hci (by rw [hr]; simp) k hk))
  · by_cases e : j = i
    · subst e
      rw [upd_same] at hk
      obtain ⟨r, hr'⟩ := Option.ne_none_iff_exists'.1 hr
      rcases (hR r hr').2 k hk with h1 | h1
      · have := h.rel.size
        exact .inl (by omega)
      · exact hDf k h1
    · rw [upd_other v i x e] at hk
      rw [if_neg e] at hl
      have hci : cons j ≠ i := fun e' => by rw [if_pos e'] at hlc; cases hlc
      rw [if_neg hci] at hlc
      exact h.far j hl hlc hr k hk
  · by_cases ep : p = i
    · subst ep
      rw [upd_same] at hk
      rw [upd_other v p x (fun h => hpq h.symm)]
      rw [if_neg (fun h => hpq h.symm)] at hq
      have hci : cons q ≠ p := fun e' => by rw [if_pos e'] at hqc; cases hqc
      rw [if_neg hci] at hqc
      intro hqk
      obtain ⟨r, hr⟩ := Option.ne_none_iff_exists'.1 hp0
      obtain ⟨rq, hrq⟩ := Option.ne_none_iff_exists'.1 hq0
      rcases (hR r hr).2 k hk with h1 | h1
      · have := own_lt (h.own q rq hq hqc hrq) k hqk
        omega
      · exact hother q (fun h => hpq h.symm) hq hqc hci hq0 k hqk h1
    · rw [upd_other v i x ep] at hk
      rw [if_neg ep] at hp
      have hcp : cons p ≠ i := fun e' => by rw [if_pos e'] at hpc; cases hpc
      rw [if_neg hcp] at hpc
      by_cases eq : q = i
      · subst eq
        rw [upd_same]
        intro hqk
        obtain ⟨r, hr⟩ := Option.ne_none_iff_exists'.1 hq0
        obtain ⟨rp, hrp⟩ := Option.ne_none_iff_exists'.1 hp0
        rcases (hR r hr).2 k hqk with h1 | h1
        · have := own_lt (h.own p rp hp hpc hrp) k hk
          omega
        · exact hother p hpq hp hpc hcp hp0 k hk h1
      · rw [upd_other v i x eq]
        rw [if_neg eq] at hq
        have hcq : cons q ≠ i := fun e' => by rw [if_pos e'] at hqc; cases hqc
        rw [if_neg hcq] at hqc
        exact h.apart p q hpq hp hq hpc hqc hp0 hq0 k hk
theorem RowsInv.drew {L : Nat → Bool} {v : Nat → Value} {w : World} (h : RowsInv base e C row cons B0 W n L v w) : RowsInv base e C row cons B0 W n L v w.drew :=
  ⟨h.rel.drew, h.hbase, h.keep, h.c, h.own, h.far, h.apart⟩
/-- A cell that isn't the first row's reads as it did. -/
theorem RowsInv.cell {L : Nat → Bool} {v : Nat → Value} {w : World} (h : RowsInv base e C row cons B0 W n L v w) {p : Addr} {u : Value} (hu : W.cell? p = some u) (hB : B0 ≠ some p.block) : w.cell? p = some u :=
  (World.cell?_of_block (w := W) (h.keep p.block (World.block_lt_of_cell? W _ hu) hB)).trans hu
/-- Ahead of the region: at most one row lives, at a number beyond the operations. -/
theorem RowsInv.start {w : World} {sz m : Nat} {v0 : Nat → Value} (hbase : base ≤ w.heap.size) (hC : ∀ i, sz ≤ i → C i (v0 i)) (hrow : ∀ i, sz ≤ i → row i ≠ none → i = m) (hown : ∀ r, row m = some r → w.ownsRow base e 1 (v0 m) r.length (bCells r)) (hB : row m ≠ none → ∀ k, (v0 m).ownBlock = some k → B0 = some k) :
    RowsInv base e C row cons B0 w n (fun j => decide (sz ≤ j)) v0 w :=
  ⟨Below.refl _ _, hbase, fun k _ _ => rfl, fun i hl => hC i (of_decide_eq_true hl), fun i r hl _ hr => (by
      have e := hrow i (of_decide_eq_true hl) (by rw [hr]; simp)
      subst e
      exact hown r hr), fun i hl _ hr k hk => (by
      have e := hrow i (of_decide_eq_true hl) hr
      subst e
      exact .inr (hB hr k hk)), fun i j hij hi hj _ _ h1 h2 k _ _ => hij ((hrow i (of_decide_eq_true hi) h1).trans (hrow j (of_decide_eq_true hj) h2).symm)⟩

theorem wpAny_rows (hB : factsB md ops n = true) (T : (Nat → Value) → Act)
    (step : ∀ i, i < n → ∀ L v w, RowsInv base e C row cons B0 W n L v w → L i = false → (∀ j ∈ deps md ops i, L j = true) → (∀ j, n ≤ j → j < ops.size → L j = false) → (∀ j, ops.size ≤ j → L j = true) → wpOp P ops Q i (fun a' w' => ∃ x, a' = T (upd v i x) ∧ RowStep base e C row cons L v i w x w') (T v) w)
    (done : ∀ L v w, RowsInv base e C row cons B0 W n L v w → (∀ i, i < n → L i = true) → (∀ j, n ≤ j → j < ops.size → L j = false) → (∀ j, ops.size ≤ j → L j = true) → wpList P ops Q (ops.toList.drop n) (T v) w) :
    ∀ (f : Nat) (listed : Array Bool) (v : Nat → Value) (w : World), HeadInv md ops n listed → cntTo listed n = f → RowsInv base e C row cons B0 W n (fun j => listed.getD j true) v w → wpAny P md ops Q (f + (ops.size - n)) listed (T v) w := by
  simp only [factsB, Bool.and_eq_true, decide_eq_true_eq] at hB
  obtain ⟨⟨⟨⟨hn, hs⟩, hc⟩, hd⟩, hq⟩ := hB
  have hbey : ∀ listed : Array Bool, listed.size = ops.size → ∀ j, ops.size ≤ j → listed.getD j true = true := fun listed hl j hj => by simp [Array.getElem?_eq_none (show listed.size ≤ j by omega)]
  intro f
  induction f with
  | zero =>
    intro listed v w inv hcnt hI
    have hall := cntTo_zero listed n hcnt
    have he : listed = headListed ops.size n := by
      apply Array.ext
      · rw [inv.size]; simp [headListed]
      · intro i h1 h2
        have hi : i < ops.size := by rw [← inv.size]; exact h1
        have e2 : (headListed ops.size n)[i] = decide (i < n) := by simp [headListed]
        rw [e2]
        by_cases hin : i < n
        · have := hall i hin
          simp [h1] at this
          rw [this, decide_eq_true hin]
        · have := inv.tail i (by omega) hi
          simp [h1] at this
          rw [this, decide_eq_false hin]
    rw [Nat.zero_add]
    have hl : (ops.toList.drop n).length = ops.size - n := by simp
    rw [← hl]
    refine wpAny_of_seq (ops.toList.drop n) n listed _ w (fun j => by simp) ?_ (done _ v w hI hall inv.tail (hbey listed inv.size))
    rw [hl, he]
    exact hq
  | succ f ih =>
    intro listed v w inv hcnt hI
    obtain ⟨m, hm1, hm2, hm3⟩ := cntTo_pos listed n (by omega)
    have hmr : m ∈ Region.ready md ops listed := by
      have hms : m < ops.size := by omega
      refine mem_ready.2 ⟨hm2, ops[m], Array.getElem?_eq_getElem hms, fun e he hbind => ?_⟩
      have h1 := List.all_eq_true.1 hd m (List.mem_range.2 hms)
      have h2 : e.on ∈ deps md ops m := by
        unfold deps
        rw [Array.getElem?_eq_getElem hms]
        exact List.mem_map.2 ⟨e, List.mem_filter.2 ⟨Array.mem_toList_iff.2 he, hbind⟩, rfl⟩
      have h3 := of_decide_eq_true (List.all_eq_true.1 h1 _ h2)
      have h4 := hm3 e.on h3
      have h5 : e.on < listed.size := by rw [inv.size]; omega
      simp [h5] at h4 ⊢
      exact h4
    rw [show f + 1 + (ops.size - n) = (f + (ops.size - n)) + 1 from by omega]
    refine ⟨fun h0 => (by rw [h0] at hmr; cases hmr), fun i hi => ?_⟩
    have hin : i < n := by
      rcases Nat.lt_or_ge i n with h | h
      · exact h
      · exact absurd hi (tail_waits hs hc hn inv _ m rfl hm1 hm2 i h)
    obtain ⟨hun, oi, hoi, hafter⟩ := mem_ready.1 hi
    refine wpOp_mono ?_ (step i hin _ v w hI hun ?_ inv.tail (hbey listed inv.size))
    · rintro a' w' ⟨x, rfl, hst⟩
      refine ih _ (upd v i x) w' (inv.set hi hin) (by have := cntTo_set listed i hun n hin; omega) ?_
      have hI' := hI.step hun hst
      have hL : (fun j => (listed.setIfInBounds i true).getD j true) = fun j => if j = i then true else listed.getD j true := by
        funext j
        by_cases e : j = i
        · subst e
          rw [if_pos rfl]
          rcases Nat.lt_or_ge j listed.size with h' | h'
          · simp [h']
          · simp
        · rw [if_neg e, getD_set_ne true (fun h => e h.symm)]
      rw [hL]
      exact hI'
    · intro j hj
      unfold deps at hj
      rw [hoi] at hj
      obtain ⟨e, he, rfl⟩ := List.mem_map.1 hj
      obtain ⟨he1, he2⟩ := List.mem_filter.1 he
      have h1 := hafter e (Array.mem_toList_iff.1 he1) he2
      have h2 : e.on < listed.size := by
        rcases Nat.lt_or_ge e.on listed.size with h' | h'
        · exact h'
        · simp [Array.getElem?_eq_none h'] at h1
      show listed.getD e.on true = true
      simp [h2] at h1 ⊢
      exact h1

/-- **A region that draws its order, whose operations make rows and append to them.** -/
theorem wp_region_rows {id : Nat} {l : List Oper} {w : World} (n : Nat) (hm : P.follows .mixedOrders = true) (hB : factsB .any l.toArray n = true) (T : (Nat → Value) → Act) (v0 : Nat → Value) (base : Nat) (e : TypeId) (C : Nat → Value → Prop) (row : Nat → Option (List Int)) (cons : Nat → Nat) (B0 : Option Nat)
    (start : RowsInv base e C row cons B0 w n (fun j => decide (l.length ≤ j)) v0 w)
    (step : ∀ i, i < n → ∀ L v w', RowsInv base e C row cons B0 w n L v w' → L i = false → (∀ j ∈ deps .any l.toArray i, L j = true) → (∀ j, n ≤ j → j < l.length → L j = false) → (∀ j, l.length ≤ j → L j = true) → wpOp P l.toArray Q i (fun a' w'' => ∃ x, a' = T (upd v i x) ∧ RowStep base e C row cons L v i w' x w'') (T v) w')
    (done : ∀ L v w', RowsInv base e C row cons B0 w n L v w' → (∀ i, i < n → L i = true) → (∀ j, n ≤ j → j < l.length → L j = false) → (∀ j, l.length ≤ j → L j = true) → wpList P l.toArray Q (l.drop n) (T v) w') :
    (Code.region id l.toArray true).wp P Q (T v0) w := by
  refine wp_region_any hm ?_
  have hn : n < l.toArray.size := by
    simp only [factsB, Bool.and_eq_true, decide_eq_true_eq] at hB
    exact hB.1.1.1.1
  have hL0 : (fun j => (Array.replicate l.toArray.size false).getD j true) = fun j => decide (l.length ≤ j) := by
    funext j
    rcases Nat.lt_or_ge j l.length with h | h
    · simp [h]
    · simp [h]
  have h := wpAny_rows hB T (W := w) (base := base) (e := e) (C := C) (row := row) step done
    n (Array.replicate l.toArray.size false) v0 w.drew
    ⟨by simp, fun j oj hj hl => (by rw [getD_replicate_false] at hl; cases hl), fun t ht ht' => (by rw [Array.getD_eq_getD_getElem?, Array.getElem?_replicate, if_pos ht']; rfl)⟩ (cntTo_none _ n (by omega)) (by rw [hL0]; exact start.drew)
  rw [show n + (l.toArray.size - n) = l.toArray.size from by omega] at h
  exact h
end

end Go.Proofs.Ytbbmngabbbehcaa
namespace Go.Proofs.Ytbbmngabbbehcaa
open Go.RowKit

namespace Wi
/-- A number's bytes. -/
def by_ (x : Int) : List Int := Pk.bytesOf x.toNat
def est (s : Int × Int) : List Int := by_ s.2 ++ by_ s.1
def etwo (s : Int × Int) : List Int := by_ s.1 ++ by_ s.2
/-- A list's bytes: how many, and each one's. -/
def elist {α : Type} (f : α → List Int) (l : List α) : List Int := Pk.bytesOf l.length ++ l.flatMap f
/-- Whole numbers that can be laid. -/
def fit (x : Int) : Prop := 0 ≤ x ∧ x ≤ 9223372036854775807
theorem len_app (a b : List Int) : (a ++ b).length = a.length + b.length := List.length_append
theorem by_len (x : Int) : (by_ x).length ≤ 10 := (Pk.nb_len 9 x.toNat).2
theorem by_byte {x : Int} (h : fit x) : ∀ y ∈ by_ x, isB y := bytesOf_byte x.toNat (by have := h.2; have := h.1; omega)
theorem flat_take {α : Type} (f : α → List Int) (l : List α) (k : Nat) (z : α) (hk : k < l.length) : (l.take (k + 1)).flatMap f = (l.take k).flatMap f ++ f (l.getD k z) := by
  rw [List.take_succ_eq_append_getElem hk, List.flatMap_append, List.getD_eq_getElem?_getD, List.getElem?_eq_getElem hk]
  simp
theorem flat_len {α : Type} (f : α → List Int) (b : Nat) (hb : ∀ x, (f x).length ≤ b) : ∀ l : List α, (l.flatMap f).length ≤ l.length * b
  | [] => by simp
  | x :: r => by
    rw [List.flatMap_cons, List.length_append, List.length_cons, Nat.add_mul, Nat.one_mul]
    have := hb x
    have := flat_len f b hb r
    omega
theorem est_len (s : Int × Int) : (est s).length ≤ 20 := by unfold est; rw [List.length_append]; have := by_len s.1; have := by_len s.2; omega
theorem etwo_len (s : Int × Int) : (etwo s).length ≤ 20 := by unfold etwo; rw [List.length_append]; have := by_len s.1; have := by_len s.2; omega
end Wi
theorem own_cast {w : World} {base : Nat} {e : TypeId} {v : Value} {n : Nat} {xs : List Value} {r : List Int} (h : w.ownsRow base e 1 v n xs) (hn : n = r.length) (hx : xs = bCells r) : w.ownsRow base e 1 v r.length (bCells r) := by
  subst hn hx
  exact h
theorem by_any (x : Int) (w : World) (h : Wi.fit x) : Calls Try.prog 47 #[.int .i64 x] w (GivesB (Wi.by_ x) w) := by
  obtain ⟨n, rfl⟩ := Int.eq_ofNat_of_zero_le h.1
  have := bytes_any n w (by have := h.2; omega)
  unfold Wi.by_
  rwa [Int.toNat_natCast]

set_option maxHeartbeats 6400000 in
set_option maxRecDepth 100000 in
theorem evec_any (A : Option Addr) (c : Nat) (l : List (Int × Int)) (w : World) (hl : l.length ≤ 1099511627776) (hf : ∀ s ∈ l, Wi.fit s.1 ∧ Wi.fit s.2) (h : OneL w A c l) :
    Calls Try.prog 12 #[.slice A l.length c] w (GivesB (Wi.elist Wi.est l) w) := by
  obtain ⟨i0, hi0, hz0, hz1, hz2⟩ := info_parts infoBy
  have N1 := Lib.hid (bytes_any l.length w (by omega))
  have H := Lib.hid h; have HF := Lib.hid hf
  have hfl := Wi.flat_len Wi.est 20 Wi.est_len
  have HFL := Lib.hid hfl
  have HFT := Lib.hid (fun k hk => Wi.flat_take Wi.est l k (0, 0) hk)
  have hb10 : (Pk.bytesOf l.length).length ≤ 10 := (Pk.nb_len 9 l.length).2
  clear h hf hfl
  unfold Wi.elist
  obtain ⟨hd0, hhd⟩ : ∃ q, Pk.bytesOf l.length = q := ⟨_, rfl⟩
  rw [hhd] at N1 hb10 ⊢
  clear hhd
  go_enter Try.func12, Try.ntmps12
  go_wp2_with fail
  refine N1.out.mono ?_
  rintro e w1 ⟨v1, rfl, ho1, b1⟩
  have HO1 := Lib.hid ho1; clear ho1
  go_wp2_with fail
  go_loopw [3, 4] (fun s3 s4 wr => ∃ k : Nat, k ≤ l.length ∧ s4 = .int .i64 (k : Int) ∧ wr.ownsRow w.heap.size 5 1 s3 (hd0 ++ (l.take k).flatMap Wi.est).length (bCells (hd0 ++ (l.take k).flatMap Wi.est)) ∧ Below w.heap.size w wr) (fun _ s4 _ => l.length - (intOf s4).toNat)
  case atStart => exact ⟨0, by omega, rfl, by simpa using HO1.out, b1⟩
  case round =>
    obtain ⟨k, hk, rfl, hown, hbw⟩ := hrel
    have hsz := hbw.size
    by_cases hkl : k < l.length
    · have hd : decide ((k : Int) < (l.length : Int)) = true := decide_eq_true (by omega)
      have hne : l ≠ [] := fun e => by rw [e] at hkl; simp at hkl
      obtain ⟨b, off, hA, hcA⟩ := H.out.stamps hne
      obtain ⟨c0, c1⟩ := hcA k hkl
      have hblt : b < w.heap.size := World.block_lt_of_cell? w _ c0
      have d0 := cell_later hbw c0; have d1 := cell_later hbw c1
      have hmem : l.getD k (0, 0) ∈ l := by rw [List.getD_eq_getElem?_getD, List.getElem?_eq_getElem hkl]; exact List.getElem_mem hkl
      obtain ⟨g1, g2⟩ := HF.out _ hmem
      have hft := HFT.out k hkl
      have htl : ((l.take k).flatMap Wi.est).length ≤ l.length * 20 := by have := HFL.out (l.take k); rw [List.length_take] at this; have : min k l.length * 20 ≤ l.length * 20 := Nat.mul_le_mul_right _ (Nat.min_le_right _ _); omega
      obtain ⟨x, hx⟩ : ∃ x, l.getD k (0, 0) = x := ⟨_, rfl⟩
      rw [hx] at d0 d1 g1 g2 hft
      obtain ⟨x1, x2⟩ := x
      simp only at d0 d1 g1 g2
      obtain ⟨pre, hpre⟩ : ∃ q, hd0 ++ (l.take k).flatMap Wi.est = q := ⟨_, rfl⟩
      have hnew : hd0 ++ (l.take (k + 1)).flatMap Wi.est = (pre ++ Wi.by_ x2) ++ Wi.by_ x1 := by rw [hft, ← hpre]; unfold Wi.est; simp only [List.append_assoc]
      have hpl : pre.length ≤ 10 + l.length * 20 := by rw [← hpre, List.length_append]; omega
      rw [hpre] at hown
      obtain ⟨P, cp, hs3, -⟩ := own_form hown
      have hPb : P ≠ none → ∃ kb, (Value.slice P pre.length cp).ownBlock = some kb ∧ w.heap.size ≤ kb := fun hP => by
        have h0 := own_ge hown
        rw [hs3] at h0
        cases P with
        | none => exact absurd rfl hP
        | some ad => exact ⟨ad.block, rfl, h0 ad.block (by rfl)⟩
      have hneB : ∀ i, (Value.slice P pre.length cp).ownBlock ≠ some (⟨b, i, none⟩ : Addr).block := fun i e => by have := own_ge hown b (by rw [hs3]; exact e); omega
      rw [hs3] at hown
      subst hs3 hA
      have q1 := Wi.by_len x1; have q2 := Wi.by_len x2
      have hi1 : (0 : Int) ≤ (k : Int) := by omega
      have hi2 : (k : Int) < (l.length : Int) := by omega
      have HNEW := Lib.hid hnew; have HOW := Lib.hid hown; have HNE := Lib.hid hneB; have G1 := Lib.hid g1; have G2 := Lib.hid g2
      clear hcA c0 c1 hft hx hnew hown hneB g1 g2 hPb HO1 hne hmem hpre
      go_wp2_with fail
      refine wp_region_rows 15 (by kernel_rfl) (by kernel_rfl)
        (fun v => { tmps := #[.slice (some ⟨b, off, none⟩) l.length c, undef, .slice none 0 0, .slice P pre.length cp, .int .i64 (k : Int), .slice (some ⟨b, off, none⟩) l.length c, .int .i64 (l.length : Int), v1, .int .i64 (k : Int), .slice (some ⟨b, off, none⟩) l.length c, .int .i64 (l.length : Int), .bool true, u12, u13, v 0, v 1, v 2, v 3, v 4, v 5, v 6, v 7, v 8, v 9, v 10, v 11, v 12, v 13, v 14, undef], defers := [] }) (fun i => match i with | 0 => u14 | 1 => u15 | 2 => u16 | 3 => u17 | 4 => u18 | 5 => u19 | 6 => u20 | 7 => u21 | 8 => u22 | 9 => u23 | 10 => u24 | 11 => u25 | 12 => u26 | 13 => u27 | 14 => u28 | 16 => .slice P pre.length cp | _ => undef) w.heap.size 5
        (fun i x => match i with | 0 => x = .slice P pre.length cp | 1 => x = .slice (some ⟨b, off, none⟩) l.length c | 2 => x = .int .i64 (k : Int) | 3 => x = .pointer (some ⟨b, off + k * 2, none⟩) | 4 => x = .pointer (some ⟨b, off + k * 2 + 1, none⟩) | 5 => x = .int .i64 x2 | 8 => x = .slice (some ⟨b, off, none⟩) l.length c | 9 => x = .int .i64 (k : Int) | 10 => x = .pointer (some ⟨b, off + k * 2, none⟩) | 11 => x = .pointer (some ⟨b, off + k * 2, none⟩) | 12 => x = .int .i64 x1 | 16 => x = .slice P pre.length cp | _ => True)
        (fun i => match i with | 6 => some (Wi.by_ x2) | 7 => some (pre ++ Wi.by_ x2) | 13 => some (Wi.by_ x1) | 14 => some ((pre ++ Wi.by_ x2) ++ Wi.by_ x1) | 16 => some (pre) | _ => none)
        (fun i => match i with | 6 => 7 | 7 => 14 | 13 => 14 | 14 => 15 | 16 => 7 | _ => 0) ((Value.slice P pre.length cp).ownBlock) ?start ?step ?done
      case start =>
        refine RowsInv.start (m := 16) ?_ (fun i hi => ?_) (fun i hi hr => ?_) (fun r hr => ?_) (fun _ k hk => ?_)
        · first | exact Nat.le_refl _ | omega
        · match i, hi with
          | 16, _ => rfl
          | j + 17, _ => trivial
        · match i, hi, hr with
          | 16, _, _ => rfl
          | j + 17, _, hr => exact absurd rfl hr
        · cases hr
          exact HOW.out
        · exact hk
      case step =>
        intro i hi L v w' hI hun hd htl hex
        match i, hi with
        | 0, _ =>
          refine wpOp_one rfl ?_
          clear hd htl hex
          go_wp2
          first | exact ⟨_, (by simp [upd]; done), RowStep.still rfl rfl⟩ | exact ⟨(by simp [upd]; done), RowStep.still rfl rfl⟩
        | 1, _ =>
          refine wpOp_one rfl ?_
          clear hd htl hex
          go_wp2
          first | exact ⟨_, (by simp [upd]; done), RowStep.still rfl rfl⟩ | exact ⟨(by simp [upd]; done), RowStep.still rfl rfl⟩
        | 2, _ =>
          refine wpOp_one rfl ?_
          clear hd htl hex
          go_wp2
          first | exact ⟨_, (by simp [upd]; done), RowStep.still rfl rfl⟩ | exact ⟨(by simp [upd]; done), RowStep.still rfl rfl⟩
        | 3, _ =>
          have l1 : L 1 = true := hd 1 (List.elem_iff.1 (by kernel_rfl))
          have h1 : v 1 = _ := hI.c 1 l1
          have l2 : L 2 = true := hd 2 (List.elem_iff.1 (by kernel_rfl))
          have h2 : v 2 = _ := hI.c 2 l2
          refine wpOp_one rfl ?_
          clear hd htl hex
          rw [h1, h2]
          go_wp2
          first | exact ⟨_, (by simp [upd, h1, h2]; done), RowStep.still rfl rfl⟩ | exact ⟨(by simp [upd, h1, h2]; done), RowStep.still rfl rfl⟩
        | 4, _ =>
          have l3 : L 3 = true := hd 3 (List.elem_iff.1 (by kernel_rfl))
          have h3 : v 3 = _ := hI.c 3 l3
          refine wpOp_one rfl ?_
          clear hd htl hex
          rw [h3]
          go_wp2
          first | exact ⟨_, (by simp [upd, h3]; done), RowStep.still rfl rfl⟩ | exact ⟨(by simp [upd, h3]; done), RowStep.still rfl rfl⟩
        | 5, _ =>
          have l4 : L 4 = true := hd 4 (List.elem_iff.1 (by kernel_rfl))
          have h4 : v 4 = _ := hI.c 4 l4
          have q0 := hI.cell d1 (HNE.out 0)
          refine wpOp_one rfl ?_
          clear hd htl hex
          rw [h4]
          go_wp2
          first | exact ⟨_, (by simp [upd, h4]; done), RowStep.still rfl rfl⟩ | exact ⟨(by simp [upd, h4]; done), RowStep.still rfl rfl⟩
        | 6, _ =>
          have l5 : L 5 = true := hd 5 (List.elem_iff.1 (by kernel_rfl))
          have h5 : v 5 = _ := hI.c 5 l5
          refine wpOp_one rfl ?_
          clear hd htl hex
          rw [h5]
          go_wp2_with fail
          refine (by_any x2 w' G2.out).mono ?_
          rintro e w'' ⟨x, rfl, ho, bb⟩
          have ST := Lib.hid (fun (Lx : Nat → Bool) (vx : Nat → Value) => RowStep.made (C := fun i x => match i with | 0 => x = .slice P pre.length cp | 1 => x = .slice (some ⟨b, off, none⟩) l.length c | 2 => x = .int .i64 (k : Int) | 3 => x = .pointer (some ⟨b, off + k * 2, none⟩) | 4 => x = .pointer (some ⟨b, off + k * 2 + 1, none⟩) | 5 => x = .int .i64 x2 | 8 => x = .slice (some ⟨b, off, none⟩) l.length c | 9 => x = .int .i64 (k : Int) | 10 => x = .pointer (some ⟨b, off + k * 2, none⟩) | 11 => x = .pointer (some ⟨b, off + k * 2, none⟩) | 12 => x = .int .i64 x1 | 16 => x = .slice P pre.length cp | _ => True) (row := fun i => match i with | 6 => some (Wi.by_ x2) | 7 => some (pre ++ Wi.by_ x2) | 13 => some (Wi.by_ x1) | 14 => some ((pre ++ Wi.by_ x2) ++ Wi.by_ x1) | 16 => some (pre) | _ => none) (cons := fun i => match i with | 6 => 7 | 7 => 14 | 13 => 14 | 14 => 15 | 16 => 7 | _ => 0) (i := 6) (L := Lx) (v := vx) trivial rfl bb hI.hbase ho)
          clear ho bb
          go_wp2
          exact ⟨_, (by simp [upd, h5]; done), ST.out _ _⟩
        | 7, _ =>
          have l0 : L 0 = true := hd 0 (List.elem_iff.1 (by kernel_rfl))
          have h0 : v 0 = _ := hI.c 0 l0
          have l6 : L 6 = true := hd 6 (List.elem_iff.1 (by kernel_rfl))
          have ld : L 16 = true := hex 16 (by simp)
          have hm : v 16 = _ := hI.c 16 ld
          have od := hI.own 16 _ ld hun rfl
          rw [hm] at od
          have os := hI.own 6 _ l6 hun rfl
          obtain ⟨Ax, cx, hs, hsl, hsc, hsn, hsi⟩ := own_form os
          refine wpOp_one rfl ?_
          have hbs := hI.hbase
          clear hd htl hex os
          rw [h0, hs]
          refine wpList_append_lies _ rfl _ _ 23 rfl w.heap.size 5 i0 (.int .u8 0) 1 1 Try.underlying23 hi0 hz0 hz1 hz2 rfl (by decide) _ (pre).length (bCells (pre)) rfl od Ax (Wi.by_ x2).length cx hsn (bCells (Wi.by_ x2)) rfl (by rw [bCells_length, Nat.mul_one]) hsi (bCells_one _) ?c3 ?c4 ?c5 ?_
          case c3 => unfold maxLen; omega
          case c4 => omega
          case c5 => exact hbs
          intro v2 w2 ho2 hg2 hx2
          rw [← bCells_append, ← List.length_append] at ho2
          have ST := Lib.hid (RowStep.grown (C := fun i x => match i with | 0 => x = .slice P pre.length cp | 1 => x = .slice (some ⟨b, off, none⟩) l.length c | 2 => x = .int .i64 (k : Int) | 3 => x = .pointer (some ⟨b, off + k * 2, none⟩) | 4 => x = .pointer (some ⟨b, off + k * 2 + 1, none⟩) | 5 => x = .int .i64 x2 | 8 => x = .slice (some ⟨b, off, none⟩) l.length c | 9 => x = .int .i64 (k : Int) | 10 => x = .pointer (some ⟨b, off + k * 2, none⟩) | 11 => x = .pointer (some ⟨b, off + k * 2, none⟩) | 12 => x = .int .i64 x1 | 16 => x = .slice P pre.length cp | _ => True) (row := fun i => match i with | 6 => some (Wi.by_ x2) | 7 => some (pre ++ Wi.by_ x2) | 13 => some (Wi.by_ x1) | 14 => some ((pre ++ Wi.by_ x2) ++ Wi.by_ x1) | 16 => some (pre) | _ => none) (cons := fun i => match i with | 6 => 7 | 7 => 14 | 13 => 14 | 14 => 15 | 16 => 7 | _ => 0) (i := 7) (d := 16) (L := L) (v := v) trivial rfl rfl (by simp) ld hm.symm hg2 ho2 hx2)
          clear ho2 hg2 hx2 od
          go_wp2
          exact ⟨_, (by simp [upd, Act.put, h0, hs]; done), ST.out⟩
        | 8, _ =>
          refine wpOp_one rfl ?_
          clear hd htl hex
          go_wp2
          first | exact ⟨_, (by simp [upd]; done), RowStep.still rfl rfl⟩ | exact ⟨(by simp [upd]; done), RowStep.still rfl rfl⟩
        | 9, _ =>
          refine wpOp_one rfl ?_
          clear hd htl hex
          go_wp2
          first | exact ⟨_, (by simp [upd]; done), RowStep.still rfl rfl⟩ | exact ⟨(by simp [upd]; done), RowStep.still rfl rfl⟩
        | 10, _ =>
          have l8 : L 8 = true := hd 8 (List.elem_iff.1 (by kernel_rfl))
          have h8 : v 8 = _ := hI.c 8 l8
          have l9 : L 9 = true := hd 9 (List.elem_iff.1 (by kernel_rfl))
          have h9 : v 9 = _ := hI.c 9 l9
          refine wpOp_one rfl ?_
          clear hd htl hex
          rw [h8, h9]
          go_wp2
          first | exact ⟨_, (by simp [upd, h8, h9]; done), RowStep.still rfl rfl⟩ | exact ⟨(by simp [upd, h8, h9]; done), RowStep.still rfl rfl⟩
        | 11, _ =>
          have l10 : L 10 = true := hd 10 (List.elem_iff.1 (by kernel_rfl))
          have h10 : v 10 = _ := hI.c 10 l10
          refine wpOp_one rfl ?_
          clear hd htl hex
          rw [h10]
          go_wp2
          first | exact ⟨_, (by simp [upd, h10]; done), RowStep.still rfl rfl⟩ | exact ⟨(by simp [upd, h10]; done), RowStep.still rfl rfl⟩
        | 12, _ =>
          have l11 : L 11 = true := hd 11 (List.elem_iff.1 (by kernel_rfl))
          have h11 : v 11 = _ := hI.c 11 l11
          have q0 := hI.cell d0 (HNE.out 0)
          refine wpOp_one rfl ?_
          clear hd htl hex
          rw [h11]
          go_wp2
          first | exact ⟨_, (by simp [upd, h11]; done), RowStep.still rfl rfl⟩ | exact ⟨(by simp [upd, h11]; done), RowStep.still rfl rfl⟩
        | 13, _ =>
          have l12 : L 12 = true := hd 12 (List.elem_iff.1 (by kernel_rfl))
          have h12 : v 12 = _ := hI.c 12 l12
          refine wpOp_one rfl ?_
          clear hd htl hex
          rw [h12]
          go_wp2_with fail
          refine (by_any x1 w' G1.out).mono ?_
          rintro e w'' ⟨x, rfl, ho, bb⟩
          have ST := Lib.hid (fun (Lx : Nat → Bool) (vx : Nat → Value) => RowStep.made (C := fun i x => match i with | 0 => x = .slice P pre.length cp | 1 => x = .slice (some ⟨b, off, none⟩) l.length c | 2 => x = .int .i64 (k : Int) | 3 => x = .pointer (some ⟨b, off + k * 2, none⟩) | 4 => x = .pointer (some ⟨b, off + k * 2 + 1, none⟩) | 5 => x = .int .i64 x2 | 8 => x = .slice (some ⟨b, off, none⟩) l.length c | 9 => x = .int .i64 (k : Int) | 10 => x = .pointer (some ⟨b, off + k * 2, none⟩) | 11 => x = .pointer (some ⟨b, off + k * 2, none⟩) | 12 => x = .int .i64 x1 | 16 => x = .slice P pre.length cp | _ => True) (row := fun i => match i with | 6 => some (Wi.by_ x2) | 7 => some (pre ++ Wi.by_ x2) | 13 => some (Wi.by_ x1) | 14 => some ((pre ++ Wi.by_ x2) ++ Wi.by_ x1) | 16 => some (pre) | _ => none) (cons := fun i => match i with | 6 => 7 | 7 => 14 | 13 => 14 | 14 => 15 | 16 => 7 | _ => 0) (i := 13) (L := Lx) (v := vx) trivial rfl bb hI.hbase ho)
          clear ho bb
          go_wp2
          exact ⟨_, (by simp [upd, h12]; done), ST.out _ _⟩
        | 14, _ =>
          have l7 : L 7 = true := hd 7 (List.elem_iff.1 (by kernel_rfl))
          have l13 : L 13 = true := hd 13 (List.elem_iff.1 (by kernel_rfl))
          have ld : L 7 = true := l7
          have od := hI.own 7 _ ld hun rfl
          have os := hI.own 13 _ l13 hun rfl
          obtain ⟨Ax, cx, hs, hsl, hsc, hsn, hsi⟩ := own_form os
          refine wpOp_one rfl ?_
          have hbs := hI.hbase
          clear hd htl hex os
          rw [hs]
          refine wpList_append_lies _ rfl _ _ 23 rfl w.heap.size 5 i0 (.int .u8 0) 1 1 Try.underlying23 hi0 hz0 hz1 hz2 rfl (by decide) _ (pre ++ Wi.by_ x2).length (bCells (pre ++ Wi.by_ x2)) rfl od Ax (Wi.by_ x1).length cx hsn (bCells (Wi.by_ x1)) rfl (by rw [bCells_length, Nat.mul_one]) hsi (bCells_one _) ?c3 ?c4 ?c5 ?_
          case c3 => rw [List.length_append]; unfold maxLen; omega
          case c4 => rw [List.length_append]; omega
          case c5 => exact hbs
          intro v2 w2 ho2 hg2 hx2
          rw [← bCells_append, ← List.length_append] at ho2
          have ST := Lib.hid (RowStep.grown (C := fun i x => match i with | 0 => x = .slice P pre.length cp | 1 => x = .slice (some ⟨b, off, none⟩) l.length c | 2 => x = .int .i64 (k : Int) | 3 => x = .pointer (some ⟨b, off + k * 2, none⟩) | 4 => x = .pointer (some ⟨b, off + k * 2 + 1, none⟩) | 5 => x = .int .i64 x2 | 8 => x = .slice (some ⟨b, off, none⟩) l.length c | 9 => x = .int .i64 (k : Int) | 10 => x = .pointer (some ⟨b, off + k * 2, none⟩) | 11 => x = .pointer (some ⟨b, off + k * 2, none⟩) | 12 => x = .int .i64 x1 | 16 => x = .slice P pre.length cp | _ => True) (row := fun i => match i with | 6 => some (Wi.by_ x2) | 7 => some (pre ++ Wi.by_ x2) | 13 => some (Wi.by_ x1) | 14 => some ((pre ++ Wi.by_ x2) ++ Wi.by_ x1) | 16 => some (pre) | _ => none) (cons := fun i => match i with | 6 => 7 | 7 => 14 | 13 => 14 | 14 => 15 | 16 => 7 | _ => 0) (i := 14) (d := 7) (L := L) (v := v) trivial rfl rfl (by simp) ld rfl hg2 ho2 hx2)
          clear ho2 hg2 hx2 od
          go_wp2
          exact ⟨_, (by simp [upd, Act.put, hs]; done), ST.out⟩
        | k + 15, hk => exact absurd hk (by omega)
      case done =>
        intro L v w5 hI hall htl5 hex
        have o14 := hI.own 14 _ (hall 14 (by omega)) (htl5 15 (by omega) (by simp)) rfl
        rw [← HNEW.out] at o14
        have b5 := hbw.trans hI.rel
        have O14 := Lib.hid o14; have B5 := Lib.hid b5
        clear o14 b5 hI hall htl5 hex d0 d1
        go_wp2_with fail
        go_roundw
        case rel => exact ⟨k + 1, by omega, by first | rfl | (congr 1; omega), O14.out, B5.out⟩
        case measure => simp [intOf]; omega
    · obtain rfl : k = l.length := by omega
      have hd : decide ((l.length : Int) < (l.length : Int)) = false := decide_eq_false (by omega)
      rw [List.take_of_length_le (Nat.le_refl _)] at hown
      have HOW := Lib.hid hown; clear hown
      go_wp2
      go_ret
      exact ⟨_, rfl, HOW.out, hbw⟩

set_option maxHeartbeats 6400000 in
set_option maxRecDepth 100000 in
theorem eset_any (A : Option Addr) (c : Nat) (l : List (Int × Int)) (w : World) (hl : l.length ≤ 1099511627776) (hf : ∀ s ∈ l, Wi.fit s.1 ∧ Wi.fit s.2) (h : OneL w A c l) :
    Calls Try.prog 20 #[.slice A l.length c] w (GivesB (Wi.elist Wi.etwo l) w) := by
  obtain ⟨i0, hi0, hz0, hz1, hz2⟩ := info_parts infoBy
  have N1 := Lib.hid (bytes_any l.length w (by omega))
  have H := Lib.hid h; have HF := Lib.hid hf
  have hfl := Wi.flat_len Wi.etwo 20 Wi.etwo_len
  have HFL := Lib.hid hfl
  have HFT := Lib.hid (fun k hk => Wi.flat_take Wi.etwo l k (0, 0) hk)
  have hb10 : (Pk.bytesOf l.length).length ≤ 10 := (Pk.nb_len 9 l.length).2
  clear h hf hfl
  unfold Wi.elist
  obtain ⟨hd0, hhd⟩ : ∃ q, Pk.bytesOf l.length = q := ⟨_, rfl⟩
  rw [hhd] at N1 hb10 ⊢
  clear hhd
  go_enter Try.func20, Try.ntmps20
  go_wp2_with fail
  refine N1.out.mono ?_
  rintro e w1 ⟨v1, rfl, ho1, b1⟩
  have HO1 := Lib.hid ho1; clear ho1
  go_wp2_with fail
  go_loopw [3, 4] (fun s3 s4 wr => ∃ k : Nat, k ≤ l.length ∧ s4 = .int .i64 (k : Int) ∧ wr.ownsRow w.heap.size 5 1 s3 (hd0 ++ (l.take k).flatMap Wi.etwo).length (bCells (hd0 ++ (l.take k).flatMap Wi.etwo)) ∧ Below w.heap.size w wr) (fun _ s4 _ => l.length - (intOf s4).toNat)
  case atStart => exact ⟨0, by omega, rfl, by simpa using HO1.out, b1⟩
  case round =>
    obtain ⟨k, hk, rfl, hown, hbw⟩ := hrel
    have hsz := hbw.size
    by_cases hkl : k < l.length
    · have hd : decide ((k : Int) < (l.length : Int)) = true := decide_eq_true (by omega)
      have hne : l ≠ [] := fun e => by rw [e] at hkl; simp at hkl
      obtain ⟨b, off, hA, hcA⟩ := H.out.stamps hne
      obtain ⟨c0, c1⟩ := hcA k hkl
      have hblt : b < w.heap.size := World.block_lt_of_cell? w _ c0
      have d0 := cell_later hbw c0; have d1 := cell_later hbw c1
      have hmem : l.getD k (0, 0) ∈ l := by rw [List.getD_eq_getElem?_getD, List.getElem?_eq_getElem hkl]; exact List.getElem_mem hkl
      obtain ⟨g1, g2⟩ := HF.out _ hmem
      have hft := HFT.out k hkl
      have htl : ((l.take k).flatMap Wi.etwo).length ≤ l.length * 20 := by have := HFL.out (l.take k); rw [List.length_take] at this; have : min k l.length * 20 ≤ l.length * 20 := Nat.mul_le_mul_right _ (Nat.min_le_right _ _); omega
      obtain ⟨x, hx⟩ : ∃ x, l.getD k (0, 0) = x := ⟨_, rfl⟩
      rw [hx] at d0 d1 g1 g2 hft
      obtain ⟨x1, x2⟩ := x
      simp only at d0 d1 g1 g2
      obtain ⟨pre, hpre⟩ : ∃ q, hd0 ++ (l.take k).flatMap Wi.etwo = q := ⟨_, rfl⟩
      have hnew : hd0 ++ (l.take (k + 1)).flatMap Wi.etwo = (pre ++ Wi.by_ x1) ++ Wi.by_ x2 := by rw [hft, ← hpre]; unfold Wi.etwo; simp only [List.append_assoc]
      have hpl : pre.length ≤ 10 + l.length * 20 := by rw [← hpre, List.length_append]; omega
      rw [hpre] at hown
      obtain ⟨P, cp, hs3, -⟩ := own_form hown
      have hPb : P ≠ none → ∃ kb, (Value.slice P pre.length cp).ownBlock = some kb ∧ w.heap.size ≤ kb := fun hP => by
        have h0 := own_ge hown
        rw [hs3] at h0
        cases P with
        | none => exact absurd rfl hP
        | some ad => exact ⟨ad.block, rfl, h0 ad.block (by rfl)⟩
      have hneB : ∀ i, (Value.slice P pre.length cp).ownBlock ≠ some (⟨b, i, none⟩ : Addr).block := fun i e => by have := own_ge hown b (by rw [hs3]; exact e); omega
      rw [hs3] at hown
      subst hs3 hA
      have q1 := Wi.by_len x1; have q2 := Wi.by_len x2
      have hi1 : (0 : Int) ≤ (k : Int) := by omega
      have hi2 : (k : Int) < (l.length : Int) := by omega
      have HNEW := Lib.hid hnew; have HOW := Lib.hid hown; have HNE := Lib.hid hneB; have G1 := Lib.hid g1; have G2 := Lib.hid g2
      clear hcA c0 c1 hft hx hnew hown hneB g1 g2 hPb HO1 hne hmem hpre
      go_wp2_with fail
      refine wp_region_rows 15 (by kernel_rfl) (by kernel_rfl)
        (fun v => { tmps := #[.slice (some ⟨b, off, none⟩) l.length c, undef, .slice none 0 0, .slice P pre.length cp, .int .i64 (k : Int), .slice (some ⟨b, off, none⟩) l.length c, .int .i64 (l.length : Int), v1, .int .i64 (k : Int), .slice (some ⟨b, off, none⟩) l.length c, .int .i64 (l.length : Int), .bool true, u12, u13, v 0, v 1, v 2, v 3, v 4, v 5, v 6, v 7, v 8, v 9, v 10, v 11, v 12, v 13, v 14, undef], defers := [] }) (fun i => match i with | 0 => u14 | 1 => u15 | 2 => u16 | 3 => u17 | 4 => u18 | 5 => u19 | 6 => u20 | 7 => u21 | 8 => u22 | 9 => u23 | 10 => u24 | 11 => u25 | 12 => u26 | 13 => u27 | 14 => u28 | 16 => .slice P pre.length cp | _ => undef) w.heap.size 5
        (fun i x => match i with | 0 => x = .slice P pre.length cp | 1 => x = .slice (some ⟨b, off, none⟩) l.length c | 2 => x = .int .i64 (k : Int) | 3 => x = .pointer (some ⟨b, off + k * 2, none⟩) | 4 => x = .pointer (some ⟨b, off + k * 2, none⟩) | 5 => x = .int .i64 x1 | 8 => x = .slice (some ⟨b, off, none⟩) l.length c | 9 => x = .int .i64 (k : Int) | 10 => x = .pointer (some ⟨b, off + k * 2, none⟩) | 11 => x = .pointer (some ⟨b, off + k * 2 + 1, none⟩) | 12 => x = .int .i64 x2 | 16 => x = .slice P pre.length cp | _ => True)
        (fun i => match i with | 6 => some (Wi.by_ x1) | 7 => some (pre ++ Wi.by_ x1) | 13 => some (Wi.by_ x2) | 14 => some ((pre ++ Wi.by_ x1) ++ Wi.by_ x2) | 16 => some (pre) | _ => none)
        (fun i => match i with | 6 => 7 | 7 => 14 | 13 => 14 | 14 => 15 | 16 => 7 | _ => 0) ((Value.slice P pre.length cp).ownBlock) ?start ?step ?done
      case start =>
        refine RowsInv.start (m := 16) ?_ (fun i hi => ?_) (fun i hi hr => ?_) (fun r hr => ?_) (fun _ k hk => ?_)
        · first | exact Nat.le_refl _ | omega
        · match i, hi with
          | 16, _ => rfl
          | j + 17, _ => trivial
        · match i, hi, hr with
          | 16, _, _ => rfl
          | j + 17, _, hr => exact absurd rfl hr
        · cases hr
          exact HOW.out
        · exact hk
      case step =>
        intro i hi L v w' hI hun hd htl hex
        match i, hi with
        | 0, _ =>
          refine wpOp_one rfl ?_
          clear hd htl hex
          go_wp2
          first | exact ⟨_, (by simp [upd]; done), RowStep.still rfl rfl⟩ | exact ⟨(by simp [upd]; done), RowStep.still rfl rfl⟩
        | 1, _ =>
          refine wpOp_one rfl ?_
          clear hd htl hex
          go_wp2
          first | exact ⟨_, (by simp [upd]; done), RowStep.still rfl rfl⟩ | exact ⟨(by simp [upd]; done), RowStep.still rfl rfl⟩
        | 2, _ =>
          refine wpOp_one rfl ?_
          clear hd htl hex
          go_wp2
          first | exact ⟨_, (by simp [upd]; done), RowStep.still rfl rfl⟩ | exact ⟨(by simp [upd]; done), RowStep.still rfl rfl⟩
        | 3, _ =>
          have l1 : L 1 = true := hd 1 (List.elem_iff.1 (by kernel_rfl))
          have h1 : v 1 = _ := hI.c 1 l1
          have l2 : L 2 = true := hd 2 (List.elem_iff.1 (by kernel_rfl))
          have h2 : v 2 = _ := hI.c 2 l2
          refine wpOp_one rfl ?_
          clear hd htl hex
          rw [h1, h2]
          go_wp2
          first | exact ⟨_, (by simp [upd, h1, h2]; done), RowStep.still rfl rfl⟩ | exact ⟨(by simp [upd, h1, h2]; done), RowStep.still rfl rfl⟩
        | 4, _ =>
          have l3 : L 3 = true := hd 3 (List.elem_iff.1 (by kernel_rfl))
          have h3 : v 3 = _ := hI.c 3 l3
          refine wpOp_one rfl ?_
          clear hd htl hex
          rw [h3]
          go_wp2
          first | exact ⟨_, (by simp [upd, h3]; done), RowStep.still rfl rfl⟩ | exact ⟨(by simp [upd, h3]; done), RowStep.still rfl rfl⟩
        | 5, _ =>
          have l4 : L 4 = true := hd 4 (List.elem_iff.1 (by kernel_rfl))
          have h4 : v 4 = _ := hI.c 4 l4
          have q0 := hI.cell d0 (HNE.out 0)
          refine wpOp_one rfl ?_
          clear hd htl hex
          rw [h4]
          go_wp2
          first | exact ⟨_, (by simp [upd, h4]; done), RowStep.still rfl rfl⟩ | exact ⟨(by simp [upd, h4]; done), RowStep.still rfl rfl⟩
        | 6, _ =>
          have l5 : L 5 = true := hd 5 (List.elem_iff.1 (by kernel_rfl))
          have h5 : v 5 = _ := hI.c 5 l5
          refine wpOp_one rfl ?_
          clear hd htl hex
          rw [h5]
          go_wp2_with fail
          refine (by_any x1 w' G1.out).mono ?_
          rintro e w'' ⟨x, rfl, ho, bb⟩
          have ST := Lib.hid (fun (Lx : Nat → Bool) (vx : Nat → Value) => RowStep.made (C := fun i x => match i with | 0 => x = .slice P pre.length cp | 1 => x = .slice (some ⟨b, off, none⟩) l.length c | 2 => x = .int .i64 (k : Int) | 3 => x = .pointer (some ⟨b, off + k * 2, none⟩) | 4 => x = .pointer (some ⟨b, off + k * 2, none⟩) | 5 => x = .int .i64 x1 | 8 => x = .slice (some ⟨b, off, none⟩) l.length c | 9 => x = .int .i64 (k : Int) | 10 => x = .pointer (some ⟨b, off + k * 2, none⟩) | 11 => x = .pointer (some ⟨b, off + k * 2 + 1, none⟩) | 12 => x = .int .i64 x2 | 16 => x = .slice P pre.length cp | _ => True) (row := fun i => match i with | 6 => some (Wi.by_ x1) | 7 => some (pre ++ Wi.by_ x1) | 13 => some (Wi.by_ x2) | 14 => some ((pre ++ Wi.by_ x1) ++ Wi.by_ x2) | 16 => some (pre) | _ => none) (cons := fun i => match i with | 6 => 7 | 7 => 14 | 13 => 14 | 14 => 15 | 16 => 7 | _ => 0) (i := 6) (L := Lx) (v := vx) trivial rfl bb hI.hbase ho)
          clear ho bb
          go_wp2
          exact ⟨_, (by simp [upd, h5]; done), ST.out _ _⟩
        | 7, _ =>
          have l0 : L 0 = true := hd 0 (List.elem_iff.1 (by kernel_rfl))
          have h0 : v 0 = _ := hI.c 0 l0
          have l6 : L 6 = true := hd 6 (List.elem_iff.1 (by kernel_rfl))
          have ld : L 16 = true := hex 16 (by simp)
          have hm : v 16 = _ := hI.c 16 ld
          have od := hI.own 16 _ ld hun rfl
          rw [hm] at od
          have os := hI.own 6 _ l6 hun rfl
          obtain ⟨Ax, cx, hs, hsl, hsc, hsn, hsi⟩ := own_form os
          refine wpOp_one rfl ?_
          have hbs := hI.hbase
          clear hd htl hex os
          rw [h0, hs]
          refine wpList_append_lies _ rfl _ _ 23 rfl w.heap.size 5 i0 (.int .u8 0) 1 1 Try.underlying23 hi0 hz0 hz1 hz2 rfl (by decide) _ (pre).length (bCells (pre)) rfl od Ax (Wi.by_ x1).length cx hsn (bCells (Wi.by_ x1)) rfl (by rw [bCells_length, Nat.mul_one]) hsi (bCells_one _) ?c3 ?c4 ?c5 ?_
          case c3 => unfold maxLen; omega
          case c4 => omega
          case c5 => exact hbs
          intro v2 w2 ho2 hg2 hx2
          rw [← bCells_append, ← List.length_append] at ho2
          have ST := Lib.hid (RowStep.grown (C := fun i x => match i with | 0 => x = .slice P pre.length cp | 1 => x = .slice (some ⟨b, off, none⟩) l.length c | 2 => x = .int .i64 (k : Int) | 3 => x = .pointer (some ⟨b, off + k * 2, none⟩) | 4 => x = .pointer (some ⟨b, off + k * 2, none⟩) | 5 => x = .int .i64 x1 | 8 => x = .slice (some ⟨b, off, none⟩) l.length c | 9 => x = .int .i64 (k : Int) | 10 => x = .pointer (some ⟨b, off + k * 2, none⟩) | 11 => x = .pointer (some ⟨b, off + k * 2 + 1, none⟩) | 12 => x = .int .i64 x2 | 16 => x = .slice P pre.length cp | _ => True) (row := fun i => match i with | 6 => some (Wi.by_ x1) | 7 => some (pre ++ Wi.by_ x1) | 13 => some (Wi.by_ x2) | 14 => some ((pre ++ Wi.by_ x1) ++ Wi.by_ x2) | 16 => some (pre) | _ => none) (cons := fun i => match i with | 6 => 7 | 7 => 14 | 13 => 14 | 14 => 15 | 16 => 7 | _ => 0) (i := 7) (d := 16) (L := L) (v := v) trivial rfl rfl (by simp) ld hm.symm hg2 ho2 hx2)
          clear ho2 hg2 hx2 od
          go_wp2
          exact ⟨_, (by simp [upd, Act.put, h0, hs]; done), ST.out⟩
        | 8, _ =>
          refine wpOp_one rfl ?_
          clear hd htl hex
          go_wp2
          first | exact ⟨_, (by simp [upd]; done), RowStep.still rfl rfl⟩ | exact ⟨(by simp [upd]; done), RowStep.still rfl rfl⟩
        | 9, _ =>
          refine wpOp_one rfl ?_
          clear hd htl hex
          go_wp2
          first | exact ⟨_, (by simp [upd]; done), RowStep.still rfl rfl⟩ | exact ⟨(by simp [upd]; done), RowStep.still rfl rfl⟩
        | 10, _ =>
          have l8 : L 8 = true := hd 8 (List.elem_iff.1 (by kernel_rfl))
          have h8 : v 8 = _ := hI.c 8 l8
          have l9 : L 9 = true := hd 9 (List.elem_iff.1 (by kernel_rfl))
          have h9 : v 9 = _ := hI.c 9 l9
          refine wpOp_one rfl ?_
          clear hd htl hex
          rw [h8, h9]
          go_wp2
          first | exact ⟨_, (by simp [upd, h8, h9]; done), RowStep.still rfl rfl⟩ | exact ⟨(by simp [upd, h8, h9]; done), RowStep.still rfl rfl⟩
        | 11, _ =>
          have l10 : L 10 = true := hd 10 (List.elem_iff.1 (by kernel_rfl))
          have h10 : v 10 = _ := hI.c 10 l10
          refine wpOp_one rfl ?_
          clear hd htl hex
          rw [h10]
          go_wp2
          first | exact ⟨_, (by simp [upd, h10]; done), RowStep.still rfl rfl⟩ | exact ⟨(by simp [upd, h10]; done), RowStep.still rfl rfl⟩
        | 12, _ =>
          have l11 : L 11 = true := hd 11 (List.elem_iff.1 (by kernel_rfl))
          have h11 : v 11 = _ := hI.c 11 l11
          have q0 := hI.cell d1 (HNE.out 0)
          refine wpOp_one rfl ?_
          clear hd htl hex
          rw [h11]
          go_wp2
          first | exact ⟨_, (by simp [upd, h11]; done), RowStep.still rfl rfl⟩ | exact ⟨(by simp [upd, h11]; done), RowStep.still rfl rfl⟩
        | 13, _ =>
          have l12 : L 12 = true := hd 12 (List.elem_iff.1 (by kernel_rfl))
          have h12 : v 12 = _ := hI.c 12 l12
          refine wpOp_one rfl ?_
          clear hd htl hex
          rw [h12]
          go_wp2_with fail
          refine (by_any x2 w' G2.out).mono ?_
          rintro e w'' ⟨x, rfl, ho, bb⟩
          have ST := Lib.hid (fun (Lx : Nat → Bool) (vx : Nat → Value) => RowStep.made (C := fun i x => match i with | 0 => x = .slice P pre.length cp | 1 => x = .slice (some ⟨b, off, none⟩) l.length c | 2 => x = .int .i64 (k : Int) | 3 => x = .pointer (some ⟨b, off + k * 2, none⟩) | 4 => x = .pointer (some ⟨b, off + k * 2, none⟩) | 5 => x = .int .i64 x1 | 8 => x = .slice (some ⟨b, off, none⟩) l.length c | 9 => x = .int .i64 (k : Int) | 10 => x = .pointer (some ⟨b, off + k * 2, none⟩) | 11 => x = .pointer (some ⟨b, off + k * 2 + 1, none⟩) | 12 => x = .int .i64 x2 | 16 => x = .slice P pre.length cp | _ => True) (row := fun i => match i with | 6 => some (Wi.by_ x1) | 7 => some (pre ++ Wi.by_ x1) | 13 => some (Wi.by_ x2) | 14 => some ((pre ++ Wi.by_ x1) ++ Wi.by_ x2) | 16 => some (pre) | _ => none) (cons := fun i => match i with | 6 => 7 | 7 => 14 | 13 => 14 | 14 => 15 | 16 => 7 | _ => 0) (i := 13) (L := Lx) (v := vx) trivial rfl bb hI.hbase ho)
          clear ho bb
          go_wp2
          exact ⟨_, (by simp [upd, h12]; done), ST.out _ _⟩
        | 14, _ =>
          have l7 : L 7 = true := hd 7 (List.elem_iff.1 (by kernel_rfl))
          have l13 : L 13 = true := hd 13 (List.elem_iff.1 (by kernel_rfl))
          have ld : L 7 = true := l7
          have od := hI.own 7 _ ld hun rfl
          have os := hI.own 13 _ l13 hun rfl
          obtain ⟨Ax, cx, hs, hsl, hsc, hsn, hsi⟩ := own_form os
          refine wpOp_one rfl ?_
          have hbs := hI.hbase
          clear hd htl hex os
          rw [hs]
          refine wpList_append_lies _ rfl _ _ 23 rfl w.heap.size 5 i0 (.int .u8 0) 1 1 Try.underlying23 hi0 hz0 hz1 hz2 rfl (by decide) _ (pre ++ Wi.by_ x1).length (bCells (pre ++ Wi.by_ x1)) rfl od Ax (Wi.by_ x2).length cx hsn (bCells (Wi.by_ x2)) rfl (by rw [bCells_length, Nat.mul_one]) hsi (bCells_one _) ?c3 ?c4 ?c5 ?_
          case c3 => rw [List.length_append]; unfold maxLen; omega
          case c4 => rw [List.length_append]; omega
          case c5 => exact hbs
          intro v2 w2 ho2 hg2 hx2
          rw [← bCells_append, ← List.length_append] at ho2
          have ST := Lib.hid (RowStep.grown (C := fun i x => match i with | 0 => x = .slice P pre.length cp | 1 => x = .slice (some ⟨b, off, none⟩) l.length c | 2 => x = .int .i64 (k : Int) | 3 => x = .pointer (some ⟨b, off + k * 2, none⟩) | 4 => x = .pointer (some ⟨b, off + k * 2, none⟩) | 5 => x = .int .i64 x1 | 8 => x = .slice (some ⟨b, off, none⟩) l.length c | 9 => x = .int .i64 (k : Int) | 10 => x = .pointer (some ⟨b, off + k * 2, none⟩) | 11 => x = .pointer (some ⟨b, off + k * 2 + 1, none⟩) | 12 => x = .int .i64 x2 | 16 => x = .slice P pre.length cp | _ => True) (row := fun i => match i with | 6 => some (Wi.by_ x1) | 7 => some (pre ++ Wi.by_ x1) | 13 => some (Wi.by_ x2) | 14 => some ((pre ++ Wi.by_ x1) ++ Wi.by_ x2) | 16 => some (pre) | _ => none) (cons := fun i => match i with | 6 => 7 | 7 => 14 | 13 => 14 | 14 => 15 | 16 => 7 | _ => 0) (i := 14) (d := 7) (L := L) (v := v) trivial rfl rfl (by simp) ld rfl hg2 ho2 hx2)
          clear ho2 hg2 hx2 od
          go_wp2
          exact ⟨_, (by simp [upd, Act.put, hs]; done), ST.out⟩
        | k + 15, hk => exact absurd hk (by omega)
      case done =>
        intro L v w5 hI hall htl5 hex
        have o14 := hI.own 14 _ (hall 14 (by omega)) (htl5 15 (by omega) (by simp)) rfl
        rw [← HNEW.out] at o14
        have b5 := hbw.trans hI.rel
        have O14 := Lib.hid o14; have B5 := Lib.hid b5
        clear o14 b5 hI hall htl5 hex d0 d1
        go_wp2_with fail
        go_roundw
        case rel => exact ⟨k + 1, by omega, by first | rfl | (congr 1; omega), O14.out, B5.out⟩
        case measure => simp [intOf]; omega
    · obtain rfl : k = l.length := by omega
      have hd : decide ((l.length : Int) < (l.length : Int)) = false := decide_eq_false (by omega)
      rw [List.take_of_length_le (Nat.le_refl _)] at hown
      have HOW := Lib.hid hown; clear hown
      go_wp2
      go_ret
      exact ⟨_, rfl, HOW.out, hbw⟩

end Go.Proofs.Ytbbmngabbbehcaa
namespace Go.Proofs.Ytbbmngabbbehcaa
open Go.RowKit

namespace Wi
variable {α : Type}
/-- A list of at most so many. -/
def plistm (most : Nat) (p : Nat → Option (α × Nat)) (l : List Int) (a : Nat) : Option (List α × Nat) := (pnum l a).bind fun x => if x.1 ≤ most then rep p x.1 x.2 else none
theorem invm_start {most : Nat} {p : Nat → Option (α × Nat)} {l : List Int} {s : Option Nat} {n : Nat} (h : Got (pnum l) s n) (hn : n ≤ most) : Inv p (s.bind (plistm most p l)) n [] (nxt (pnum l) s) := by
  unfold Inv nxt plistm
  cases s with
  | none => rfl
  | some a =>
    show ((pnum l a).map (·.2)).bind _ = (pnum l a).bind _
    cases hp : pnum l a with
    | none => rfl
    | some x =>
      obtain ⟨x, b⟩ := x
      have : n = x := h x b hp
      subst this
      show (rep p n b).map _ = if n ≤ most then rep p n b else none
      rw [if_pos hn]
      cases rep p n b <;> simp
theorem invm_many {most : Nat} {p : Nat → Option (α × Nat)} {l : List Int} {s : Option Nat} {n : Nat} (h : Got (pnum l) s n) (hn : ¬ n ≤ most) : s.bind (plistm most p l) = none := by
  unfold plistm
  cases s with
  | none => rfl
  | some a =>
    show (pnum l a).bind _ = none
    cases hp : pnum l a with
    | none => rfl
    | some x =>
      obtain ⟨x, b⟩ := x
      have : n = x := h x b hp
      subst this
      show (if n ≤ most then rep p n b else none) = none
      rw [if_neg hn]
theorem inv_next {p : Nat → Option (α × Nat)} {pl : Option (List α × Nat)} {k : Nat} {acc : List α} {v : α} {s s' : Option Nat} (h : Inv p pl (k + 1) acc s) (hs : s' = nxt p s) (hv : Got p s v) : Inv p pl k (acc ++ [v]) s' := by
  cases s with
  | none =>
    subst hs
    exact h
  | some a => exact inv_step h hs hv
theorem inv_done {p : Nat → Option (α × Nat)} {q : Nat → Option (List α × Nat)} {s0 s : Option Nat} {acc : List α} (h : Inv p (s0.bind q) 0 acc s) : nxt q s0 = s ∧ Got q s0 acc := by
  have e := inv_end h (.inl rfl)
  refine ⟨?_, fun x a hx => ?_⟩
  · unfold nxt
    rw [e]
    cases s <;> rfl
  · rw [e] at hx
    cases s with
    | none => cases hx
    | some b => cases hx; rfl
end Wi
/-- Two whole numbers were read. -/
def DTwo (p : Nat → Option ((Int × Int) × Nat)) (g : Nat) (l : List Int) (s : Option Nat) (w : World) (e : Ending) (w' : World) : Prop :=
  ∃ x : Int × Int, e = .returned (.agg #[.int .i64 x.1, .int .i64 x.2]) ∧ Wi.fit x.1 ∧ Wi.fit x.2 ∧ DRd w' g l (Wi.nxt p s) ∧ Only g w w' ∧ Wi.Got p s x

theorem infoSt2 : (Try.prog.info? 61).map (·.size) = some 2 := by kernel_rfl
set_option maxHeartbeats 3200000 in
theorem drst_any (g : Nat) (l : List Int) (s : Option Nat) (w : World) (h : DRd w g l s) :
    Calls Try.prog 91 #[.pointer (some ⟨g, 0, none⟩)] w (DTwo (Wi.pst l) g l s w) := by
  have hgl := h.lt
  obtain ⟨W, hW⟩ : ∃ W, w.alloc (.cells #[.int .i64 0, .int .i64 0] 61) = W := ⟨_, rfl⟩
  have hb0 : Below w.heap.size w W := by rw [← hW]; exact below_new (Below.refl _ _) _
  have hKA : Blk W w.heap.size 61 #[.int .i64 0, .int .i64 0] := by rw [← hW]; exact Blk.new w _ _
  have HW := Lib.hid hW
  have KA := Lib.hid hKA; have B0 := Lib.hid hb0
  have CN := Lib.hid (drnum_any g l s W (h.later hb0))
  have hgne : w.heap.size ≠ g := by omega
  clear hW h hb0 hKA
  go_enter Try.func91, Try.ntmps91
  go_wp2_with fail
  rw [HW.out]
  refine CN.out.mono ?_
  rintro e w1 ⟨n1, rfl, hn1, hd1, ho1, hg1⟩
  have CM := Lib.hid (drnum_any g l _ w1 hd1)
  have ON1 := Lib.hid ((Only.of_below g B0.out).on ho1); have KA1 := Lib.hid (ho1.blk KA.out hgne); have GT1 := Lib.hid hg1
  clear hd1 ho1 hg1 CN
  go_wp2_with fail
  refine CM.out.mono ?_
  rintro e w2 ⟨n2, rfl, hn2, hd2, ho2, hg2⟩
  have ON2 := Lib.hid (ON1.out.on ho2); have KA2 := Lib.hid (ho2.blk KA1.out hgne); have GT2 := Lib.hid hg2; have HD2 := Lib.hid hd2
  clear hd2 ho2 hg2 CM
  have t0 := KA2.out.free 0; have t1 := KA2.out.free 1; have c0 := KA2.out.cell (i := 0) rfl; have c1 := KA2.out.cell (i := 1) rfl
  have v2 := (KA2.out.put 0 (.int .i64 (n2 : Int))).put 1 (.int .i64 (n1 : Int))
  have d2 := (HD2.out.set hgl 0 (.int .i64 (n2 : Int))).set hgl 1 (.int .i64 (n1 : Int))
  have o2 := (ON2.out.setNew (Nat.le_refl _) 0 (.int .i64 (n2 : Int))).setNew (Nat.le_refl _) 1 (.int .i64 (n1 : Int))
  have V2 := Lib.hid v2; have D2 := Lib.hid d2; have O2 := Lib.hid o2
  clear v2 d2 o2
  go_wp2
  exact bodyPost_ret (v := .agg #[.int .i64 (n2 : Int), .int .i64 (n1 : Int)]) (results_cell_row rfl _ _ w.heap.size 61 #[.int .i64 (n2 : Int), .int .i64 (n1 : Int)] (0, 0) _ rfl V2.out Try.underlying61 rfl infoSt2) rfl
    ⟨((n2 : Int), (n1 : Int)), rfl, ⟨by omega, by omega⟩, ⟨by omega, by omega⟩, by have := D2.out; rw [Wi.two_nxt] at this; rw [Wi.st_nxt]; exact this, O2.out, Wi.st_got (Wi.two_got GT1.out GT2.out)⟩

theorem infoSp2 : (Try.prog.info? 95).map (·.size) = some 2 := by kernel_rfl
set_option maxHeartbeats 3200000 in
theorem drsp_any (g : Nat) (l : List Int) (s : Option Nat) (w : World) (h : DRd w g l s) :
    Calls Try.prog 96 #[.pointer (some ⟨g, 0, none⟩)] w (DTwo (Wi.ptwo l) g l s w) := by
  have hgl := h.lt
  obtain ⟨W, hW⟩ : ∃ W, w.alloc (.cells #[.int .i64 0, .int .i64 0] 95) = W := ⟨_, rfl⟩
  have hb0 : Below w.heap.size w W := by rw [← hW]; exact below_new (Below.refl _ _) _
  have hKA : Blk W w.heap.size 95 #[.int .i64 0, .int .i64 0] := by rw [← hW]; exact Blk.new w _ _
  have HW := Lib.hid hW
  have KA := Lib.hid hKA; have B0 := Lib.hid hb0
  have CN := Lib.hid (drnum_any g l s W (h.later hb0))
  have hgne : w.heap.size ≠ g := by omega
  clear hW h hb0 hKA
  go_enter Try.func96, Try.ntmps96
  go_wp2_with fail
  rw [HW.out]
  refine CN.out.mono ?_
  rintro e w1 ⟨n1, rfl, hn1, hd1, ho1, hg1⟩
  have CM := Lib.hid (drnum_any g l _ w1 hd1)
  have ON1 := Lib.hid ((Only.of_below g B0.out).on ho1); have KA1 := Lib.hid (ho1.blk KA.out hgne); have GT1 := Lib.hid hg1
  clear hd1 ho1 hg1 CN
  go_wp2_with fail
  refine CM.out.mono ?_
  rintro e w2 ⟨n2, rfl, hn2, hd2, ho2, hg2⟩
  have ON2 := Lib.hid (ON1.out.on ho2); have KA2 := Lib.hid (ho2.blk KA1.out hgne); have GT2 := Lib.hid hg2; have HD2 := Lib.hid hd2
  clear hd2 ho2 hg2 CM
  have t0 := KA2.out.free 0; have t1 := KA2.out.free 1; have c0 := KA2.out.cell (i := 0) rfl; have c1 := KA2.out.cell (i := 1) rfl
  have v2 := (KA2.out.put 0 (.int .i64 (n1 : Int))).put 1 (.int .i64 (n2 : Int))
  have d2 := (HD2.out.set hgl 0 (.int .i64 (n1 : Int))).set hgl 1 (.int .i64 (n2 : Int))
  have o2 := (ON2.out.setNew (Nat.le_refl _) 0 (.int .i64 (n1 : Int))).setNew (Nat.le_refl _) 1 (.int .i64 (n2 : Int))
  have V2 := Lib.hid v2; have D2 := Lib.hid d2; have O2 := Lib.hid o2
  clear v2 d2 o2
  go_wp2
  exact bodyPost_ret (v := .agg #[.int .i64 (n1 : Int), .int .i64 (n2 : Int)]) (results_cell_row rfl _ _ w.heap.size 95 #[.int .i64 (n1 : Int), .int .i64 (n2 : Int)] (0, 0) _ rfl V2.out Try.underlying95 rfl infoSp2) rfl
    ⟨((n1 : Int), (n2 : Int)), rfl, ⟨by omega, by omega⟩, ⟨by omega, by omega⟩, by have := D2.out; rw [Wi.two_nxt] at this; exact this, O2.out, Wi.two_got GT1.out GT2.out⟩

end Go.Proofs.Ytbbmngabbbehcaa
