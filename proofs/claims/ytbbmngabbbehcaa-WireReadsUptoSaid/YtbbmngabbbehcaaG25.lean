/-
  What is asked of each of span's functions (its contract), as one structure. With it: the fixed fact 'alive'.
  What span's isObject, Formed and Has answer.
  What telltaleref04's At and Told answer.
  What telltaleref04's Told answers.
-/
import Derived.Test.YtbbmngabbbehcaaG06
import Derived.Test.YtbbmngabbbehcaaG03
import Derived.Test.YtbbmngabbbehcaaG09
namespace Go.Proofs.Ytbbmngabbbehcaa
open Go.RowKit

theorem GivesS.ans {l : List (Int × Int)} {w w' : World} {e : Ending} (h : GivesS l w e w') : Ans l w e w' := h.one

/-- A list of numbers by value. -/
def Nums (w : World) (A : Option Addr) (c : Nat) (xs : List Int) : Prop := xs.length ≤ c ∧ c ≤ maxLen ∧ (A = none → xs.length = 0 ∧ c = 0) ∧ Lies w A (xs.map (Value.int .i64))
theorem Nums.later {w w' : World} {A : Option Addr} {c : Nat} {xs : List Int} (h : Nums w A c xs) (hb : Below w.heap.size w w') : Nums w' A c xs := ⟨h.1, h.2.1, h.2.2.1, h.2.2.2.later hb⟩
theorem Nums.len {w : World} {A : Option Addr} {c : Nat} {xs : List Int} (h : Nums w A c xs) : xs.length ≤ 9223372036854775807 := by
  have h1 := h.1
  have h2 := h.2.1
  unfold maxLen at h2
  omega

theorem salive_of : Sp.ofL (Sp.someOf [3, 1, 2, 7, 300]) = [(1, 3), (7, 7)] := by
  refine Sp.good_uniq (Sp.good_ofL _) ?_ ?_
  · intro j hj
    have : j = 0 ∨ j = 1 := by simp at hj; omega
    rcases this with rfl | rfl <;> simp
  · intro o ho
    rw [Sp.inL_ofL _ o ho]
    unfold Sp.someOf Sp.inL
    rw [Bool.eq_iff_iff]
    simp
    omega
theorem salive_7 : inOf [(1, 3), (7, 7)] 7 = true := by decide
theorem salive_300 : inOf [(1, 3), (7, 7)] 300 = false := by decide
theorem salive_sz : Sp.sz (Sp.inL [(1, 3), (7, 7)]) = 4 := by kernel_rfl

end Go.Proofs.Ytbbmngabbbehcaa
namespace Go.Proofs.Ytbbmngabbbehcaa
open Go.RowKit Fb

set_option maxHeartbeats 800000 in
theorem isObject_any (o : Int) (w : World) : Calls Try.prog 92 #[.int .i64 o] w fun e w' => e = .returned (.bool (decide (0 ≤ o ∧ o ≤ 255))) ∧ Below w.heap.size w w' := by
  by_cases h0 : 0 ≤ o
  · have d0 : decide (0 ≤ o) = true := decide_eq_true h0
    by_cases h1 : o < 256
    · have d1 : decide (o < 256) = true := decide_eq_true h1
      rw [show decide (0 ≤ o ∧ o ≤ 255) = true from decide_eq_true (by omega)]
      go_enter Try.func92, Try.ntmps92
      go_wp2
      go_ret
      exact ⟨rfl, Below.refl _ _⟩
    · have d1 : decide (o < 256) = false := decide_eq_false h1
      rw [show decide (0 ≤ o ∧ o ≤ 255) = false from decide_eq_false (by omega)]
      go_enter Try.func92, Try.ntmps92
      go_wp2
      go_ret
      exact ⟨rfl, Below.refl _ _⟩
  · have d0 : decide (0 ≤ o) = false := decide_eq_false h0
    rw [show decide (0 ≤ o ∧ o ≤ 255) = false from decide_eq_false (by omega)]
    go_enter Try.func92, Try.ntmps92
    go_wp2
    go_ret
    exact ⟨rfl, Below.refl _ _⟩

/-- A span as it must be behind those ahead of it. -/
def Sp.apt (l : List (Int × Int)) (j : Nat) : Prop := 0 ≤ (l.getD j (0, 0)).1 ∧ (l.getD j (0, 0)).1 ≤ (l.getD j (0, 0)).2 ∧ (l.getD j (0, 0)).2 < 256 ∧ (0 < j → (l.getD (j - 1) (0, 0)).2 + 1 < (l.getD j (0, 0)).1)
theorem Sp.apt_good (l : List (Int × Int)) : Sp.good 256 l ↔ ∀ j, j < l.length → Sp.apt l j := Iff.rfl
theorem Sp.fmd_no (l : List (Int × Int)) (k : Nat) (hk : k < l.length) (h : ¬ Sp.apt l k) : Sp.fmd l = false := by
  rcases Sp.two (Sp.fmd l) with h1 | h1
  · exact absurd ((Sp.fmd_iff l).1 h1 k hk) h
  · exact h1

set_option maxHeartbeats 1600000 in
theorem spformed_any (A : Option Addr) (c1 : Nat) (l : List (Int × Int)) (w : World) (h1 : OneL w A c1 l) :
    Calls Try.prog 57 #[.slice A l.length c1] w (Says (.bool (Sp.fmd l)) w) := by
  have hl := h1.len
  have HS := Lib.hid h1.stamps
  clear h1
  go_enter Try.func57, Try.ntmps57
  go_wp2_with fail
  go_loopw [3, 8] (fun s3 s8 wr => ∃ (k : Nat) (least : Int), k ≤ l.length ∧ s8 = .int .i64 (k : Int) ∧ s3 = .int .i64 least ∧ (∀ j, j < k → Sp.apt l j) ∧ ((k = 0 ∧ least = 0) ∨ (0 < k ∧ least = (l.getD (k - 1) (0, 0)).2 + 2)) ∧ Below w.heap.size w wr) (fun _ s8 _ => l.length - (intOf s8).toNat)
  case atStart => exact ⟨0, 0, Nat.zero_le _, rfl, rfl, fun j hj => by omega, .inl ⟨rfl, rfl⟩, Below.refl _ _⟩
  case round =>
    obtain ⟨k, least, hk, rfl, rfl, hap, hle, hbw⟩ := hrel
    by_cases hlt : k < l.length
    · have hne : l ≠ [] := fun e => by subst e; simp at hlt
      obtain ⟨b, off, hA, hc⟩ := (HS.out.later hbw) hne
      subst hA
      obtain ⟨e0, e1⟩ := hc k hlt
      have hi0 : (0 : Int) ≤ (k : Int) := by omega
      have hi1 : (k : Int) < (l.length : Int) := by omega
      have hno := Sp.fmd_no l k hlt
      have hyes : Sp.apt l k → ∀ j, j < k + 1 → Sp.apt l j := fun h j hj => by
        by_cases e : j = k
        · rw [e]; exact h
        · exact hap j (by omega)
      have hle2 : (l.getD k (0, 0)).1 < least → ¬ Sp.apt l k := fun h1 h2 => by
        obtain ⟨q1, q2, q3, q4⟩ := h2
        rcases hle with ⟨h3, h4⟩ | ⟨h3, h4⟩
        · omega
        · have := q4 h3
          omega
      have hle3 : ¬ (l.getD k (0, 0)).1 < least → 0 ≤ (l.getD k (0, 0)).1 ∧ (0 < k → (l.getD (k - 1) (0, 0)).2 + 1 < (l.getD k (0, 0)).1) := fun h1 => by
        rcases hle with ⟨h3, h4⟩ | ⟨h3, h4⟩
        · exact ⟨by omega, by omega⟩
        · obtain ⟨q1, q2, q3, q4⟩ := hap (k - 1) (by omega)
          exact ⟨by omega, by omega⟩
      have hapt : Sp.apt l k = (0 ≤ (l.getD k (0, 0)).1 ∧ (l.getD k (0, 0)).1 ≤ (l.getD k (0, 0)).2 ∧ (l.getD k (0, 0)).2 < 256 ∧ (0 < k → (l.getD (k - 1) (0, 0)).2 + 1 < (l.getD k (0, 0)).1)) := rfl
      have hnx : l.getD (k + 1 - 1) (0, 0) = l.getD k (0, 0) := by rw [Nat.add_sub_cancel]
      obtain ⟨z, hz⟩ : ∃ z, l.getD k (0, 0) = z := ⟨_, rfl⟩
      rw [hz] at e0 e1 hle2 hle3 hapt hnx
      obtain ⟨x, y⟩ := z
      have hle2 : x < least → ¬ Sp.apt l k := hle2
      have hle3 : ¬ x < least → 0 ≤ x ∧ (0 < k → (l.getD (k - 1) (0, 0)).2 + 1 < x) := hle3
      have hapt : Sp.apt l k = (0 ≤ x ∧ x ≤ y ∧ y < 256 ∧ (0 < k → (l.getD (k - 1) (0, 0)).2 + 1 < x)) := hapt
      have HNO := Lib.hid hno
      have HY := Lib.hid hyes
      have HNX := Lib.hid hnx
      have HLE3 := Lib.hid hle3
      have HLE2 := Lib.hid hle2
      have HAPT := Lib.hid hapt
      have hbn := below_new hbw (.cells #[.int .i64 x, .int .i64 y] 95)
      clear hno hyes hnx hle hap hz hle2 hle3 hapt hc
      by_cases c1 : x < least
      · have d1 : decide (x < least) = true := decide_eq_true c1
        have HQ := Lib.hid (HNO.out (HLE2.out c1))
        clear HNO HLE2 HLE3 HAPT
        go_wp2
        go_ret
        exact ⟨by rw [HQ.out]; rfl, hbn⟩
      · have d1 : decide (x < least) = false := decide_eq_false c1
        by_cases c2 : y < x
        · have d2 : decide (y < x) = true := decide_eq_true c2
          have HQ := Lib.hid (HNO.out (fun h => by rw [HAPT.out] at h; omega))
          clear HNO HLE2 HLE3 HAPT
          go_wp2
          go_ret
          exact ⟨by rw [HQ.out]; rfl, hbn⟩
        · have d2 : decide (y < x) = false := decide_eq_false c2
          have n1 := fun wx => isObject_any y wx
          obtain ⟨q1, q2⟩ := HLE3.out c1
          have HQ2 := Lib.hid q2
          clear q2
          by_cases c3 : y < 256
          · have d3 : decide (0 ≤ y ∧ y ≤ 255) = true := decide_eq_true (by omega)
            rw [d3] at n1
            have N1 := Lib.hid n1
            have HAP := Lib.hid (show Sp.apt l k from by rw [HAPT.out]; exact ⟨q1, by omega, c3, HQ2.out⟩)
            clear HNO HLE2 HLE3 HAPT d3 n1
            go_wp2_with fail
            refine (N1.out _).mono ?_
            rintro e w2 ⟨rfl, b2⟩
            have hb2 := below_on hbn b2
            have hB := (Blk.new wr 95 #[.int .i64 x, .int .i64 y]).later b2
            have g1 := hB.cell (i := 1) rfl
            go_wp2_with fail
            go_roundw
            case rel => exact ⟨k + 1, y + 2, by omega, by go_num, by go_num, HY.out HAP.out, .inr ⟨by omega, by rw [HNX.out]⟩, hb2⟩
            case measure => simp [intOf]; omega
          · have d3 : decide (0 ≤ y ∧ y ≤ 255) = false := decide_eq_false (by omega)
            rw [d3] at n1
            have N1 := Lib.hid n1
            have HQ := Lib.hid (HNO.out (fun h => by rw [HAPT.out] at h; omega))
            clear HNO HLE2 HLE3 HAPT d3 n1
            go_wp2_with fail
            refine (N1.out _).mono ?_
            rintro e w2 ⟨rfl, b2⟩
            have hb2 := below_on hbn b2
            go_wp2
            go_ret
            exact ⟨by rw [HQ.out]; rfl, hb2⟩
    · have HQ := Lib.hid (show Sp.fmd l = true from (Sp.fmd_iff l).2 (fun j hj => hap j (by omega)))
      clear hap hle
      go_wp2
      go_ret
      exact ⟨by rw [HQ.out]; rfl, hbw⟩

set_option maxHeartbeats 1600000 in
theorem sphas_any (A : Option Addr) (c1 : Nat) (l : List (Int × Int)) (o : Int) (w : World) (h1 : OneL w A c1 l) :
    Calls Try.prog 120 #[.slice A l.length c1, .int .i64 o] w (Says (.bool (inOf l o)) w) := by
  have hl := h1.len
  have n1 := isObject_any o
  by_cases h0 : 0 ≤ o ∧ o ≤ 255
  · obtain ⟨p, rfl⟩ : ∃ p : Nat, o = (p : Int) := ⟨o.toNat, by omega⟩
    have hi : inOf l (p : Int) = Sp.inL l p := by unfold inOf; rw [decide_eq_true h0]; rfl
    rw [decide_eq_true h0] at n1
    rw [hi]
    have N1 := Lib.hid n1
    have HS := Lib.hid h1.stamps
    clear n1 h1 hi h0
    go_enter Try.func120, Try.ntmps120
    go_wp2_with fail
    refine (N1.out _).mono ?_
    rintro e w1 ⟨rfl, b1⟩
    clear N1
    go_wp2_with fail
    go_loopw [12] (fun s12 wr => ∃ k : Nat, k ≤ l.length ∧ s12 = .int .i64 (k : Int) ∧ Sp.inL (l.take k) p = false ∧ Below w.heap.size w wr) (fun s12 _ => l.length - (intOf s12).toNat)
    case atStart => exact ⟨0, Nat.zero_le _, rfl, rfl, b1⟩
    case round =>
      obtain ⟨k, hk, rfl, hin, hbw⟩ := hrel
      by_cases hlt : k < l.length
      · have hne : l ≠ [] := fun e => by subst e; simp at hlt
        obtain ⟨b, off, hA, hc⟩ := (HS.out.later hbw) hne
        subst hA
        obtain ⟨e0, e1⟩ := hc k hlt
        rw [List.getD_eq_getElem?_getD, List.getElem?_eq_getElem hlt, Option.getD_some] at e0 e1
        have hi0 : (0 : Int) ≤ (k : Int) := by omega
        have hi1 : (k : Int) < (l.length : Int) := by omega
        have hit := Sp.inL_take l k hlt p
        have hmem : l[k].1 ≤ (p : Int) → (p : Int) ≤ l[k].2 → Sp.inL l p = true := fun q1 q2 => (Sp.inL_iff l p).2 ⟨l[k], List.getElem_mem hlt, q1, q2⟩
        rw [hin, Bool.false_or] at hit
        obtain ⟨z, hz⟩ : ∃ z, l[k] = z := ⟨_, rfl⟩
        rw [hz] at e0 e1 hit hmem
        obtain ⟨x, y⟩ := z
        have HIT := Lib.hid (show Sp.inL (l.take (k + 1)) p = decide (x ≤ (p : Int) ∧ (p : Int) ≤ y) from hit)
        have HM := Lib.hid (show x ≤ (p : Int) → (p : Int) ≤ y → Sp.inL l p = true from hmem)
        have hbn := below_new hbw (.cells #[.int .i64 x, .int .i64 y] 95)
        clear hit hmem hz hin hc b1
        by_cases c1 : x ≤ (p : Int)
        · have d1 : decide (x ≤ (p : Int)) = true := decide_eq_true c1
          by_cases c2 : (p : Int) ≤ y
          · have d2 : decide ((p : Int) ≤ y) = true := decide_eq_true c2
            have HQ := Lib.hid (HM.out c1 c2)
            clear HM HIT
            go_wp2
            go_ret
            exact ⟨by rw [HQ.out]; rfl, hbn⟩
          · have d2 : decide ((p : Int) ≤ y) = false := decide_eq_false c2
            have HQ := Lib.hid (show Sp.inL (l.take (k + 1)) p = false from by rw [HIT.out]; exact decide_eq_false (fun h => c2 h.2))
            clear HM HIT
            go_wp2_with fail
            go_roundw
            case rel => exact ⟨k + 1, by omega, by go_num, HQ.out, hbn⟩
            case measure => simp [intOf]; omega
        · have d1 : decide (x ≤ (p : Int)) = false := decide_eq_false c1
          have HQ := Lib.hid (show Sp.inL (l.take (k + 1)) p = false from by rw [HIT.out]; exact decide_eq_false (fun h => c1 h.1))
          clear HM HIT
          go_wp2_with fail
          go_roundw
          case rel => exact ⟨k + 1, by omega, by go_num, HQ.out, hbn⟩
          case measure => simp [intOf]; omega
      · have hkl : k = l.length := by omega
        subst hkl
        rw [List.take_length] at hin
        have HQ := Lib.hid hin
        clear hin b1
        go_wp2
        go_ret
        exact ⟨by rw [HQ.out]; rfl, hbw⟩
  · have hi : inOf l o = false := by unfold inOf; rw [decide_eq_false h0]; rfl
    rw [decide_eq_false h0] at n1
    rw [hi]
    have N1 := Lib.hid n1
    clear n1 h1 hi
    go_enter Try.func120, Try.ntmps120
    go_wp2_with fail
    refine (N1.out _).mono ?_
    rintro e w1 ⟨rfl, b1⟩
    go_wp2
    go_ret
    exact ⟨rfl, b1⟩

end Go.Proofs.Ytbbmngabbbehcaa
namespace Go.Proofs.Ytbbmngabbbehcaa
open Go.RowKit

section
variable {P : Program}
theorem results_cell_tmp {fn : Func} {p t1 : Tmp} {ty : TypeId} (h : fn.results = #[.cell p ty, .tmp t1]) (tmps : Array Value) (w : World) (g : Nat) (t : TypeId) (cs : Array Value) (d : TypeDesc)
    (hp : tmps.getD p undef = .pointer (some ⟨g, 0, none⟩)) (hg : Blk w g t cs) (hu : P.underlying ty = some d) (hd : (match d with | .struct _ | .array _ _ => true | _ => false) = true) (hi : (P.info? ty).map (·.size) = some cs.size) :
    (results fn tmps).run P w = .ok (.tuple #[.agg cs, tmps.getD t1 undef]) w := by
  have hp' : tmps[p]?.getD undef = .pointer (some ⟨g, 0, none⟩) := by simpa using hp
  simp [results, h, hp', asAddr, run_loadVar_row w g t ty cs (0, 0) d hg hu hd hi]
theorem results_cell_tmp2 {fn : Func} {p t1 t2 : Tmp} {ty : TypeId} (h : fn.results = #[.cell p ty, .tmp t1, .tmp t2]) (tmps : Array Value) (w : World) (g : Nat) (t : TypeId) (cs : Array Value) (d : TypeDesc)
    (hp : tmps.getD p undef = .pointer (some ⟨g, 0, none⟩)) (hg : Blk w g t cs) (hu : P.underlying ty = some d) (hd : (match d with | .struct _ | .array _ _ => true | _ => false) = true) (hi : (P.info? ty).map (·.size) = some cs.size) :
    (results fn tmps).run P w = .ok (.tuple #[.agg cs, tmps.getD t1 undef, tmps.getD t2 undef]) w := by
  have hp' : tmps[p]?.getD undef = .pointer (some ⟨g, 0, none⟩) := by simpa using hp
  simp [results, h, hp', asAddr, run_loadVar_row w g t ty cs (0, 0) d hg hu hd hi]
end

namespace Nt
def wrV (x : Wr) : Value := .agg #[.int .i64 x.1, .int .i64 x.2.1, .int .i64 x.2.2.1, .bool x.2.2.2]
def wrArr (x : Wr) : Array Value := #[.int .i64 x.1, .int .i64 x.2.1, .int .i64 x.2.2.1, .bool x.2.2.2]
/-- The first write of an object, and whether there is one. -/
def at_ (l : List Wr) (o : Int) : Wr × Bool := match l.find? (fun x => decide (x.2.2.1 = o)) with
  | some x => (x, true)
  | none => (zeroW, false)
theorem at_some {l : List Wr} {o : Int} {k : Nat} (hk : k < l.length) (h : obj l k = o) (hb : ∀ j, j < k → obj l j ≠ o) : at_ l o = (l.getD k zeroW, true) := by
  have : l.find? (fun x => decide (x.2.2.1 = o)) = some (l.getD k zeroW) := by
    rw [List.find?_eq_some_iff_getElem]
    have e : l.getD k zeroW = l[k] := by rw [List.getD_eq_getElem?_getD, List.getElem?_eq_getElem hk]; rfl
    refine ⟨decide_eq_true h, k, hk, e.symm, fun j hj => ?_⟩
    have h2 := hb j hj
    unfold obj at h2
    rw [List.getD_eq_getElem?_getD, List.getElem?_eq_getElem (by omega)] at h2
    simpa using h2
  unfold at_
  rw [this]
theorem at_none {l : List Wr} {o : Int} (hb : ∀ j, j < l.length → obj l j ≠ o) : at_ l o = (zeroW, false) := by
  have : l.find? (fun x => decide (x.2.2.1 = o)) = none := by
    rw [List.find?_eq_none]
    intro x hx
    obtain ⟨j, hj, rfl⟩ := List.mem_iff_getElem.1 hx
    have h2 := hb j hj
    unfold obj at h2
    rw [List.getD_eq_getElem?_getD, List.getElem?_eq_getElem hj] at h2
    simpa using h2
  unfold at_
  rw [this]
end Nt
theorem infoW4 : (Try.prog.info? 101).map (·.size) = some 4 := by kernel_rfl

end Go.Proofs.Ytbbmngabbbehcaa
namespace Go.Proofs.Ytbbmngabbbehcaa
open Go.RowKit

namespace Nt
/-- What a note says of an object: its write, is it sharp, the error's number. -/
def told (n : Note) (o : Int) : Wr × Bool × Int :=
  if fmd n = true ∧ 0 ≤ o ∧ o ≤ 255 then (if (at_ n.ws o).2 = true then ((at_ n.ws o).1, true, 0) else (zeroW, !inOf n.b o, 8)) else (zeroW, false, 1)
def toldV (r : Wr × Bool × Int) : Value := .tuple #[wrV r.1, .bool r.2.1, .int .i64 r.2.2]
end Nt

/-- Four cells of a write are stored, one after the other. -/
theorem wr_puts {w : World} {g : Nat} {t : TypeId} {y0 y1 y2 y3 : Value} (hB : Blk w g t #[y0, y1, y2, y3]) (x : Wr) : Blk ((((w.setCell ⟨g, 0, none⟩ (.int .i64 x.1)).setCell ⟨g, 1, none⟩ (.int .i64 x.2.1)).setCell ⟨g, 2, none⟩ (.int .i64 x.2.2.1)).setCell ⟨g, 3, none⟩ (.bool x.2.2.2)) g t (Nt.wrArr x) := (((hB.put 0 _).put 1 _).put 2 _).put 3 _
theorem below_puts {w0 w : World} {g : Nat} (hb : Below w0.heap.size w0 w) (hg : w0.heap.size ≤ g) (x0 x1 x2 x3 : Value) : Below w0.heap.size w0 ((((w.setCell ⟨g, 0, none⟩ x0).setCell ⟨g, 1, none⟩ x1).setCell ⟨g, 2, none⟩ x2).setCell ⟨g, 3, none⟩ x3) :=
  (((hb.setCell (p := ⟨g, 0, none⟩) hg _).setCell (p := ⟨g, 1, none⟩) hg _).setCell (p := ⟨g, 2, none⟩) hg _).setCell (p := ⟨g, 3, none⟩) hg _
theorem wr_cells {w : World} {g : Nat} {t : TypeId} {x : Wr} (h : Blk w g t (Nt.wrArr x)) : (w.cell? ⟨g, 0, none⟩ = some (.int .i64 x.1) ∧ w.cell? ⟨g, 1, none⟩ = some (.int .i64 x.2.1) ∧ w.cell? ⟨g, 2, none⟩ = some (.int .i64 x.2.2.1) ∧ w.cell? ⟨g, 3, none⟩ = some (.bool x.2.2.2)) ∧
    (w.frozen? ⟨g, 0, none⟩ = false ∧ w.frozen? ⟨g, 1, none⟩ = false ∧ w.frozen? ⟨g, 2, none⟩ = false ∧ w.frozen? ⟨g, 3, none⟩ = false) := ⟨⟨h.cell rfl, h.cell rfl, h.cell rfl, h.cell rfl⟩, h.free 0, h.free 1, h.free 2, h.free 3⟩

end Go.Proofs.Ytbbmngabbbehcaa
