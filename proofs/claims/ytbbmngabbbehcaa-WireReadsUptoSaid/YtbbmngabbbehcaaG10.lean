/-
  What telltaleref05's Row answers.
  A reader in memory; what its Number and its Row answer.
  Reading a list thing by thing: what holds at the head of each round. Nothing of the program is imported but by what it stands on.
  What the reader's Row answers.
-/
import Derived.Test.YtbbmngabbbehcaaG03
import Derived.Test.YtbbmngabbbehcaaG09
import Derived.Lib.QuietBelow
import Derived.Test.YtbbmngabbbehcaaG04
namespace Go.Proofs.Ytbbmngabbbehcaa
open Go.RowKit

set_option maxHeartbeats 3200000 in
theorem brow_any (A : Option Addr) (c1 : Nat) (l : List Int) (most : Int) (w : World) (hl : l.length ≤ 140737488355328) (h1 : OneB w A c1 l) :
    Calls Try.prog 108 #[.slice A l.length c1, .int .i64 most] w (AnsB3 (Pk.row l most).1 (Pk.row l most).2.1 (Pk.row l most).2.2 w) := by
  have n1 := bnum_any A c1 l w h1
  have hw := Pk.num_ways l h1.byte
  have H1 := Lib.hid h1
  have hrow : Pk.row l most = if most < 0 then ([], 0, 1) else if (Pk.num l).2.2 ≠ 0 then ([], 0, (Pk.num l).2.2) else if most < (Pk.num l).1 then ([], 0, 4) else if (l.length : Int) - (Pk.num l).2.1 < (Pk.num l).1 then ([], 0, 5) else ((l.drop (Pk.num l).2.1.toNat).take (Pk.num l).1.toNat, (Pk.num l).2.1 + (Pk.num l).1, 0) := rfl
  clear h1
  by_cases hm : most < 0
  · rw [if_pos hm] at hrow
    rw [hrow]
    have hd : decide (most < 0) = true := decide_eq_true hm
    clear n1 hw hrow
    go_enter Try.func108, Try.ntmps108
    go_wp2
    go_ret3
    exact ⟨none, 0, rfl, OneB.nil _, Below.refl _ _⟩
  · rw [if_neg hm] at hrow
    have hd : decide (most < 0) = false := decide_eq_false hm
    rcases hw with (hw | hw) | ⟨v, k, hw, hk1, hkl, hk9, hv⟩
    · rw [hw] at n1 hrow
      rw [if_pos (by decide)] at hrow
      rw [hrow]
      have N1 := Lib.hid (show Calls Try.prog 89 #[.slice A l.length c1] w fun e w' => e = .returned (.tuple #[.int .i64 0, .int .i64 0, .int .i64 4]) ∧ Below w.heap.size w w' from n1)
      clear n1 hw hrow
      go_enter Try.func108, Try.ntmps108
      go_wp2_with fail
      refine N1.out.mono ?_
      rintro e w1 ⟨rfl, b1⟩
      go_wp2
      go_ret3
      exact ⟨none, 0, rfl, OneB.nil _, b1⟩
    · rw [hw] at n1 hrow
      rw [if_pos (by decide)] at hrow
      rw [hrow]
      have N1 := Lib.hid (show Calls Try.prog 89 #[.slice A l.length c1] w fun e w' => e = .returned (.tuple #[.int .i64 0, .int .i64 0, .int .i64 5]) ∧ Below w.heap.size w w' from n1)
      clear n1 hw hrow
      go_enter Try.func108, Try.ntmps108
      go_wp2_with fail
      refine N1.out.mono ?_
      rintro e w1 ⟨rfl, b1⟩
      go_wp2
      go_ret3
      exact ⟨none, 0, rfl, OneB.nil _, b1⟩
    · rw [hw] at n1 hrow
      rw [if_neg (by simp)] at hrow
      have hrow : Pk.row l most = if most < (v : Int) then ([], 0, 4) else if (l.length : Int) - (k : Int) < (v : Int) then ([], 0, 5) else ((l.drop k).take v, (k : Int) + (v : Int), 0) := hrow
      have N1 := Lib.hid (show Calls Try.prog 89 #[.slice A l.length c1] w fun e w' => e = .returned (.tuple #[.int .i64 (v : Int), .int .i64 (k : Int), .int .i64 0]) ∧ Below w.heap.size w w' from n1)
      clear n1 hw
      by_cases h2 : most < (v : Int)
      · rw [if_pos h2] at hrow
        rw [hrow]
        have hd2 : decide (most < (v : Int)) = true := decide_eq_true h2
        clear hrow
        go_enter Try.func108, Try.ntmps108
        go_wp2_with fail
        refine N1.out.mono ?_
        rintro e w1 ⟨rfl, b1⟩
        go_wp2
        go_ret3
        exact ⟨none, 0, rfl, OneB.nil _, b1⟩
      · rw [if_neg h2] at hrow
        have hd2 : decide (most < (v : Int)) = false := decide_eq_false h2
        by_cases h3 : (l.length : Int) - (k : Int) < (v : Int)
        · rw [if_pos h3] at hrow
          rw [hrow]
          have hd3 : decide ((l.length : Int) - (k : Int) < (v : Int)) = true := decide_eq_true h3
          clear hrow
          go_enter Try.func108, Try.ntmps108
          go_wp2_with fail
          refine N1.out.mono ?_
          rintro e w1 ⟨rfl, b1⟩
          go_wp2
          go_ret3
          exact ⟨none, 0, rfl, OneB.nil _, b1⟩
        · rw [if_neg h3] at hrow
          rw [hrow]
          have hd3 : decide ((l.length : Int) - (k : Int) < (v : Int)) = false := decide_eq_false h3
          have hkv : k + v ≤ l.length := by omega
          have hne : l ≠ [] := fun e => by subst e; simp at hkl; omega
          obtain ⟨b, off, hA, -⟩ := H1.out.at hne
          subst hA
          have hcap := H1.out.le
          have hplen : ((l.drop k).take v).length = v := by rw [List.length_take, List.length_drop]; omega
          have hcp := fun wx (hx : OneB wx (some ⟨b, off + k, none⟩) (c1 - k) ((l.drop k).take v)) => bcopy_any (some ⟨b, off + k, none⟩) (c1 - k) ((l.drop k).take v) wx (by rw [hplen]; omega) hx
          have hpb : ∀ x ∈ (l.drop k).take v, isB x := fun x hx => H1.out.byte x (List.mem_of_mem_drop (List.mem_of_mem_take hx))
          have hpt := fun wx (hx : OneB wx (some ⟨b, off, none⟩) c1 l) => hx.part k v hkv
          obtain ⟨q, hq⟩ : ∃ q, (l.drop k).take v = q := ⟨_, rfl⟩
          rw [hq] at hcp hplen hpb hpt ⊢
          have CP := Lib.hid hcp
          have PB := Lib.hid hpb
          have PT := Lib.hid hpt
          clear hrow hq hcp hpb hpt
          subst hplen
          have fin : ∀ D d w1, OneB w1 D d q → Calls Try.prog 42 #[.slice D q.length d] w1 (GivesB q w1) := fun D d w1 hx => bcopy_any D d q w1 (by have := hx.le; omega) hx
          have FIN := Lib.hid fin
          clear CP fin
          by_cases hck : c1 = k
          · have hq0 : q = [] := List.eq_nil_of_length_eq_zero (by omega)
            subst hq0
            have hkl2 : k = l.length := by simp at hkv; omega
            have hcl2 : c1 = l.length := by omega
            subst hkl2
            subst hcl2
            have F0 := Lib.hid (fun w1 => (show Calls Try.prog 42 #[.slice (some ⟨b, off, none⟩) 0 0] w1 (GivesB [] w1) from FIN.out (some ⟨b, off, none⟩) 0 w1 ⟨Nat.le_refl _, Nat.zero_le _, (fun h => by cases h), fun h => absurd rfl h, fun x hx => by cases hx⟩))
            have N2 := Lib.hid (show Calls Try.prog 89 #[.slice (some ⟨b, off, none⟩) l.length l.length] w fun e w' => e = .returned (.tuple #[.int .i64 0, .int .i64 (l.length : Int), .int .i64 0]) ∧ Below w.heap.size w w' from N1.out)
            have hlm : (l.length : Int) ≤ 140737488355328 := by omega
            clear PT N1 FIN hck hkv hd2 hd3 h2 h3 hcap
            have hd2 : decide (most < 0) = false := hd
            go_enter Try.func108, Try.ntmps108
            go_wp2_with fail
            refine N2.out.mono ?_
            rintro e w1 ⟨rfl, b1⟩
            go_wp2_with fail
            refine (F0.out w1).mono ?_
            rintro e w2 hg
            obtain ⟨D, d, rfl, hO, b2⟩ := hg.one PB.out
            have HO := Lib.hid hO
            clear hO hg
            go_wp2
            go_ret3
            exact ⟨D, d, by first | rfl | simp, HO.out, below_on b1 b2⟩
          · go_enter Try.func108, Try.ntmps108
            go_wp2_with fail
            refine N1.out.mono ?_
            rintro e w1 ⟨rfl, b1⟩
            go_wp2_with fail
            refine (FIN.out _ _ w1 (PT.out w1 (H1.out.later b1))).mono ?_
            rintro e w2 hg
            obtain ⟨D, d, rfl, hO, b2⟩ := hg.one PB.out
            go_wp2
            go_ret3
            exact ⟨D, d, rfl, hO, below_on b1 b2⟩

end Go.Proofs.Ytbbmngabbbehcaa
namespace Go.Proofs.Ytbbmngabbbehcaa
open Go.RowKit

/-- A reader in memory: its bytes, how far it is, or that something was wrong. -/
def RdAt (w : World) (g : Nat) (A : Option Addr) (c : Nat) (l : List Int) (s : Option Nat) : Prop :=
  ∃ (a : Nat) (b : Bool), Blk w g 32 #[.slice A l.length c, .int .i64 (a : Int), .bool b] ∧ OneB w A c l ∧ a ≤ l.length ∧ s = if b then none else some a
theorem rd_noU8s {A : Option Addr} {n c : Nat} {a : Int} {b : Bool} : ∀ x ∈ (#[.slice A n c, .int .i64 a, .bool b] : Array Value).toList, isU8 x = false := by
  intro x hx
  simp at hx
  rcases hx with rfl | rfl | rfl <;> rfl
section
variable {w w1 : World} {g : Nat} {A : Option Addr} {c : Nat} {l : List Int} {s : Option Nat}
theorem rd_noU8 (x : Value) (hx : x = .slice A l.length c ∨ (∃ a : Int, x = .int .i64 a) ∨ ∃ b, x = .bool b) : isU8 x = false := by
  rcases hx with rfl | ⟨_, rfl⟩ | ⟨_, rfl⟩ <;> rfl
theorem RdAt.later (h : RdAt w g A c l s) (hb : Below w.heap.size w w1) : RdAt w1 g A c l s := by
  obtain ⟨a, b, h1, h2, h3, h4⟩ := h
  exact ⟨a, b, h1.later hb, h2.later hb, h3, h4⟩
theorem RdAt.lt (h : RdAt w g A c l s) : g < w.heap.size := by
  obtain ⟨a, b, h1, _⟩ := h
  exact h1.lt
/-- Where the reader was written anew. -/
theorem RdAt.puts {a : Nat} {b : Bool} (hB : Blk w g 32 #[.slice A l.length c, .int .i64 (a : Int), .bool b]) (hO : OneB w A c l) (a' : Nat) (ha : a' ≤ l.length) (b' : Bool) :
    RdAt ((w.setCell ⟨g, 1, none⟩ (.int .i64 (a' : Int))).setCell ⟨g, 2, none⟩ (.bool b')) g A c l (if b' then none else some a') := by
  refine ⟨a', b', (hB.put 1 _).put 2 _, ?_, ha, rfl⟩
  refine hO.only (((Only.refl g w).set 1 (.int .i64 (a' : Int))).set 2 (.bool b')) hB fun x hx => ?_
  simp at hx
  rcases hx with rfl | rfl | rfl <;> rfl
theorem RdAt.putBad {a : Nat} {b : Bool} (hB : Blk w g 32 #[.slice A l.length c, .int .i64 (a : Int), .bool b]) (hO : OneB w A c l) (ha : a ≤ l.length) (b' : Bool) :
    RdAt (w.setCell ⟨g, 2, none⟩ (.bool b')) g A c l (if b' then none else some a) := by
  refine ⟨a, b', hB.put 2 _, ?_, ha, rfl⟩
  refine hO.only ((Only.refl g w).set 2 (.bool b')) hB fun x hx => ?_
  simp at hx
  rcases hx with rfl | rfl | rfl <;> rfl
theorem OneB.tail {ad : Addr} (h : OneB w (some ad) c l) {a : Nat} (ha : a ≤ l.length) : OneB w (some (ad.add a)) (c - a) (l.drop a) := by
  refine ⟨by rw [List.length_drop]; have := h.le; omega, by have := h.cap; omega, (fun h => by cases h), fun hne => ?_, fun x hx => h.byte x (List.mem_of_mem_drop hx)⟩
  have hl : l ≠ [] := fun e => by subst e; simp [bCells] at hne
  obtain ⟨b, off, hA, hc⟩ := h.at hl
  injection hA with hA
  subst hA
  refine ⟨b, off + a, by simp [Addr.add], fun j u hu => ?_⟩
  have hj : j < (l.drop a).length := by
    have := (List.getElem?_eq_some_iff.1 hu).1
    rwa [bCells_length] at this
  rw [bCells_get _ j hj] at hu
  cases hu
  rw [List.length_drop] at hj
  rw [Nat.add_assoc, hc (a + j) (by omega), List.getD_eq_getElem?_getD, List.getD_eq_getElem?_getD, List.getElem?_drop]
end

namespace Wi
/-- What a thing's reading leaves behind. -/
def nxt {α : Type} (p : Nat → Option (α × Nat)) (s : Option Nat) : Option Nat := (s.bind p).map (·.2)
/-- What was read is v, if it could be read. -/
def Got {α : Type} (p : Nat → Option (α × Nat)) (s : Option Nat) (v : α) : Prop := ∀ x a, s.bind p = some (x, a) → v = x
theorem Got.none {α : Type} {p : Nat → Option (α × Nat)} {v : α} : Got p .none v := fun x a h => by cases h
end Wi

/-- A number was read. -/
def RdNum (g : Nat) (A : Option Addr) (c : Nat) (l : List Int) (s : Option Nat) (w : World) (e : Ending) (w' : World) : Prop :=
  ∃ n : Nat, e = .returned (.int .i64 (n : Int)) ∧ n ≤ 9223372036854775807 ∧ RdAt w' g A c l (Wi.nxt (Wi.pnum l) s) ∧ Only g w w' ∧ Wi.Got (Wi.pnum l) s n ∧ (s.bind (Wi.pnum l) = none → n = 0)

set_option maxHeartbeats 3200000 in
theorem rdnum_any (g : Nat) (A : Option Addr) (c : Nat) (l : List Int) (s : Option Nat) (w : World) (h : RdAt w g A c l s) :
    Calls Try.prog 51 #[.pointer (some ⟨g, 0, none⟩)] w (RdNum g A c l s w) := by
  obtain ⟨a, b, hB, hO, ha, rfl⟩ := h
  cases b with
  | true =>
    have c2 := hB.cell (i := 2) rfl
    have HR := Lib.hid (show RdAt w g A c l none from ⟨a, true, hB, hO, ha, rfl⟩)
    clear hB hO
    go_enter Try.func51, Try.ntmps51
    go_wp2
    go_ret
    exact ⟨0, rfl, by omega, HR.out, Only.refl _ _, Wi.Got.none, fun _ => rfl⟩
  | false =>
    have c0 := hB.cell (i := 0) rfl
    have c1 := hB.cell (i := 1) rfl
    have c2 := hB.cell (i := 2) rfl
    have hle := hO.le
    have hcap := hO.cap
    unfold maxLen at hcap
    have k0 := fun d os => cell_regrown (d := d) (os := os) c0
    have k1 := fun d os => cell_regrown (d := d) (os := os) c1
    have hways := Pk.num_ways (l.drop a) (fun x hx => hO.byte x (List.mem_of_mem_drop hx))
    have HB := Lib.hid hB
    have HO := Lib.hid hO
    clear hB hO c0 c1
    cases A with
    | none =>
      obtain ⟨hl0, hc0⟩ := HO.out.noA rfl
      have hln : l = [] := List.eq_nil_of_length_eq_zero hl0
      have ha0 : a = 0 := by omega
      subst hln hc0 ha0
      have CN := Lib.hid (fun d os => Calls.regrown_of (bnum_any none 0 [] (Sort.grow (redrawn w d) os) (OneB.nil _)))
      have hnum : Pk.num [] = (0, 0, 5) := rfl
      rw [hnum] at CN
      unfold Pk.numV at CN
      go_enter Try.func51, Try.ntmps51
      go_wp2_with fail
      refine wp_region_quiet_below (by kernel_rfl) (by kernel_rfl) ?_
      repeat (first | go_big_quiet_step (exact CN.out _ _) | quiet_step (exact CN.out _ _))
      refine wpQuiet_nil ?_
      intro _ hw'
      obtain ⟨⟨dq, osq⟩, hw''⟩ := hw'
      subst hw''
      have bq := below_regrown w dq osq
      have hBq := HB.out.later bq
      have hOq := HO.out.later bq
      have r1 := hBq.cell (i := 1) rfl
      have r2 := hBq.cell (i := 2) rfl
      have f1 := hBq.free 1
      have f2 := hBq.free 2
      have HBQ := Lib.hid hBq
      have HOQ := Lib.hid hOq
      clear hBq hOq
      go_wp2
      go_ret
      have hpn : Wi.pnum [] 0 = none := by
        rfl
      refine ⟨0, rfl, by omega, ?_, (((Only.of_below g bq).set 1 _).set 2 _), fun x y hx => ?_, fun _ => rfl⟩
      · have q := RdAt.puts HBQ.out HOQ.out 0 (by omega) true
        have hn : Wi.nxt (Wi.pnum []) (some 0) = none := by
          show ((Wi.pnum _ _).map (·.2)) = none
          rw [hpn]
          rfl
        rw [hn]
        first | exact q | (simpa using q)
      · have : (Wi.pnum [] 0) = some (x, y) := hx
        rw [hpn] at this
        cases this
    | some ad =>
      by_cases hca : c = a
      · have hla : l.length = a := by omega
        have hdr : l.drop a = [] := List.drop_of_length_le (by omega)
        rw [hdr] at hways
        have CN := Lib.hid (fun d os => Calls.regrown_of (bnum_any (some ad) 0 [] (Sort.grow (redrawn w d) os) ⟨Nat.le_refl _, Nat.zero_le _, (fun h => by cases h), fun h => absurd rfl h, fun x hx => by cases hx⟩))
        have hnum : Pk.num [] = (0, 0, 5) := rfl
        rw [hnum] at CN
        unfold Pk.numV at CN
        have HDR := Lib.hid hdr
        clear hways hdr hnum
        subst hca
        go_enter Try.func51, Try.ntmps51
        go_wp2_with fail
        refine wp_region_quiet_below (by kernel_rfl) (by kernel_rfl) ?_
        repeat (first | go_big_quiet_step (exact CN.out _ _) | quiet_step (exact CN.out _ _))
        refine wpQuiet_nil ?_
        intro _ hw'
        obtain ⟨⟨dq, osq⟩, hw''⟩ := hw'
        subst hw''
        have bq := below_regrown w dq osq
        have hBq := HB.out.later bq
        have hOq := HO.out.later bq
        have r1 := hBq.cell (i := 1) rfl
        have r2 := hBq.cell (i := 2) rfl
        have f1 := hBq.free 1
        have f2 := hBq.free 2
        have HBQ := Lib.hid hBq
        have HOQ := Lib.hid hOq
        clear hBq hOq
        go_wp2
        go_ret
        have hpn : Wi.pnum l c = none := by
          unfold Wi.pnum
          rw [HDR.out]
          rfl
        refine ⟨0, rfl, by omega, ?_, (((Only.of_below g bq).set 1 _).set 2 _), fun x y hx => ?_, fun _ => rfl⟩
        · have q := RdAt.puts HBQ.out HOQ.out c (by omega) true
          have hn : Wi.nxt (Wi.pnum l) (some c) = none := by
            show ((Wi.pnum _ _).map (·.2)) = none
            rw [hpn]
            rfl
          rw [hn]
          first | exact q | (simpa using q)
        · have : (Wi.pnum l c) = some (x, y) := hx
          rw [hpn] at this
          cases this
      · have CN0 := Lib.hid (fun d os => Calls.regrown_of (bnum_any (some (ad.add a)) (c - a) (l.drop a) (Sort.grow (redrawn w d) os) ((HO.out.later (below_regrown w d os)).tail ha)))
        rw [List.length_drop] at CN0
        have hlt : a < c := by omega
        rcases hways with (hw | hw) | ⟨v, k, hw, hk1, hkl, hk9, hv⟩
        · have CN := CN0
          rw [hw] at CN
          unfold Pk.numV at CN
          have HW := Lib.hid hw
          clear hw CN0
          go_enter Try.func51, Try.ntmps51
          go_wp2_with fail
          refine wp_region_quiet_below (by kernel_rfl) (by kernel_rfl) ?_
          repeat (first | go_big_quiet_step (exact CN.out _ _) | quiet_step (exact CN.out _ _))
          refine wpQuiet_nil ?_
          intro _ hw'
          obtain ⟨⟨dq, osq⟩, hw''⟩ := hw'
          subst hw''
          have bq := below_regrown w dq osq
          have hBq := HB.out.later bq
          have hOq := HO.out.later bq
          have r1 := hBq.cell (i := 1) rfl
          have r2 := hBq.cell (i := 2) rfl
          have f1 := hBq.free 1
          have f2 := hBq.free 2
          have HBQ := Lib.hid hBq
          have HOQ := Lib.hid hOq
          clear hBq hOq
          go_wp2
          go_ret
          have hpn : Wi.pnum l a = none := by
            unfold Wi.pnum
            rw [HW.out, if_neg (by decide)]
          refine ⟨0, rfl, by omega, ?_, (((Only.of_below g bq).set 1 _).set 2 _), fun x y hx => ?_, fun _ => rfl⟩
          · have q := RdAt.puts HBQ.out HOQ.out a (by omega) true
            have hn : Wi.nxt (Wi.pnum l) (some a) = none := by
              show ((Wi.pnum _ _).map (·.2)) = none
              rw [hpn]
              rfl
            rw [hn]
            first | exact q | (simpa using q)
          · have : (Wi.pnum l a) = some (x, y) := hx
            rw [hpn] at this
            cases this
        · have CN := CN0
          rw [hw] at CN
          unfold Pk.numV at CN
          have HW := Lib.hid hw
          clear hw CN0
          go_enter Try.func51, Try.ntmps51
          go_wp2_with fail
          refine wp_region_quiet_below (by kernel_rfl) (by kernel_rfl) ?_
          repeat (first | go_big_quiet_step (exact CN.out _ _) | quiet_step (exact CN.out _ _))
          refine wpQuiet_nil ?_
          intro _ hw'
          obtain ⟨⟨dq, osq⟩, hw''⟩ := hw'
          subst hw''
          have bq := below_regrown w dq osq
          have hBq := HB.out.later bq
          have hOq := HO.out.later bq
          have r1 := hBq.cell (i := 1) rfl
          have r2 := hBq.cell (i := 2) rfl
          have f1 := hBq.free 1
          have f2 := hBq.free 2
          have HBQ := Lib.hid hBq
          have HOQ := Lib.hid hOq
          clear hBq hOq
          go_wp2
          go_ret
          have hpn : Wi.pnum l a = none := by
            unfold Wi.pnum
            rw [HW.out, if_neg (by decide)]
          refine ⟨0, rfl, by omega, ?_, (((Only.of_below g bq).set 1 _).set 2 _), fun x y hx => ?_, fun _ => rfl⟩
          · have q := RdAt.puts HBQ.out HOQ.out a (by omega) true
            have hn : Wi.nxt (Wi.pnum l) (some a) = none := by
              show ((Wi.pnum _ _).map (·.2)) = none
              rw [hpn]
              rfl
            rw [hn]
            first | exact q | (simpa using q)
          · have : (Wi.pnum l a) = some (x, y) := hx
            rw [hpn] at this
            cases this
        · have CN := CN0
          rw [hw] at CN
          unfold Pk.numV at CN
          rw [List.length_drop] at hkl
          have HW := Lib.hid hw
          clear hw CN0
          go_enter Try.func51, Try.ntmps51
          go_wp2_with fail
          refine wp_region_quiet_below (by kernel_rfl) (by kernel_rfl) ?_
          repeat (first | go_big_quiet_step (exact CN.out _ _) | quiet_step (exact CN.out _ _))
          refine wpQuiet_nil ?_
          intro _ hw'
          obtain ⟨⟨dq, osq⟩, hw''⟩ := hw'
          subst hw''
          have bq := below_regrown w dq osq
          have hBq := HB.out.later bq
          have hOq := HO.out.later bq
          have r1 := hBq.cell (i := 1) rfl
          have r2 := hBq.cell (i := 2) rfl
          have f1 := hBq.free 1
          have f2 := hBq.free 2
          have HBQ := Lib.hid hBq
          have HOQ := Lib.hid hOq
          clear hBq hOq
          go_wp2
          go_ret
          have hpn : Wi.pnum l a = some (v, a + k) := by
            unfold Wi.pnum
            rw [HW.out, if_pos rfl]
            simp
          refine ⟨v, rfl, hv, ?_, (((Only.of_below g bq).set 1 _).set 2 _), fun x y hx => ?_, fun hx => ?_⟩
          · have q := RdAt.puts HBQ.out HOQ.out (a + k) (by omega) false
            have hn : Wi.nxt (Wi.pnum l) (some a) = some (a + k) := by
              show ((Wi.pnum _ _).map (·.2)) = some (a + k)
              rw [hpn]
              rfl
            rw [hn]
            first | exact q | (simpa using q)
          · have : Wi.pnum l a = some (x, y) := hx
            rw [hpn] at this
            cases this
            rfl
          · have : Wi.pnum l a = none := hx
            rw [hpn] at this
            cases this

end Go.Proofs.Ytbbmngabbbehcaa
namespace Go.Proofs.Ytbbmngabbbehcaa
open Go.RowKit

namespace Wi
variable {α β : Type}
/-- At the head of a round: k things to come, these have come. -/
def Inv (p : Nat → Option (α × Nat)) (pl : Option (List α × Nat)) (k : Nat) (acc : List α) (s : Option Nat) : Prop := (s.bind fun a => (rep p k a).map fun r => (acc ++ r.1, r.2)) = pl
theorem inv_start {p : Nat → Option (α × Nat)} {l : List Int} {s : Option Nat} {n : Nat} (h : Got (pnum l) s n) : Inv p (s.bind (plist p l)) n [] (nxt (pnum l) s) := by
  unfold Inv nxt plist
  cases s with
  | none => rfl
  | some a =>
    show ((pnum l a).map (·.2)).bind _ = (pnum l a).bind _
    cases hp : pnum l a with
    | none => rfl
    | some x =>
      obtain ⟨x, b⟩ := x
      have : n = x := h x b hp
      subst this
      show (rep p n b).map _ = rep p n b
      cases rep p n b <;> simp
theorem inv_end {p : Nat → Option (α × Nat)} {pl : Option (List α × Nat)} {k : Nat} {acc : List α} {s : Option Nat} (h : Inv p pl k acc s) (hk : k = 0 ∨ s = none) : pl = s.map fun a => (acc, a) := by
  rw [← h]
  rcases hk with rfl | rfl
  · cases s with
    | none => rfl
    | some a => simp [rep]
  · rfl
theorem inv_step {p : Nat → Option (α × Nat)} {pl : Option (List α × Nat)} {k a : Nat} {acc : List α} {v : α} {s : Option Nat} (h : Inv p pl (k + 1) acc (some a)) (hs : s = nxt p (some a)) (hv : Got p (some a) v) : Inv p pl k (acc ++ [v]) s := by
  subst hs
  rw [← h]
  unfold Inv nxt
  show ((p a).map (·.2)).bind _ = (rep p (k + 1) a).map _
  rw [show rep p (k + 1) a = (p a).bind fun x => (rep p k x.2).map fun r => (x.1 :: r.1, r.2) from rfl]
  cases hp : p a with
  | none => rfl
  | some x =>
    obtain ⟨x, b⟩ := x
    have : v = x := hv x b hp
    subst this
    show (rep p k b).map _ = ((rep p k b).map _).map _
    cases rep p k b <;> simp
/-- Two numbers, one behind the other. -/
theorem two_nxt (l : List Int) (s : Option Nat) : nxt (pnum l) (nxt (pnum l) s) = nxt (ptwo l) s := by
  unfold nxt ptwo
  cases s with
  | none => rfl
  | some a =>
    show ((((pnum l a).map (·.2)).bind _).map _) = (((pnum l a).bind _).map _)
    cases pnum l a with
    | none => rfl
    | some x =>
      show ((pnum l x.2).map (·.2)) = (((pnum l x.2).map _).map _)
      cases pnum l x.2 <;> rfl
theorem two_got {l : List Int} {s : Option Nat} {x y : Nat} (hx : Got (pnum l) s x) (hy : Got (pnum l) (nxt (pnum l) s) y) : Got (ptwo l) s ((x : Int), (y : Int)) := by
  intro z b h
  cases s with
  | none => cases h
  | some a =>
    have h : (pnum l a).bind (fun x => (pnum l x.2).map fun y => (((x.1 : Int), (y.1 : Int)), y.2)) = some (z, b) := h
    cases hp : pnum l a with
    | none => rw [hp] at h; cases h
    | some u =>
      obtain ⟨u, c⟩ := u
      rw [hp] at h
      have h : (pnum l c).map (fun y => (((u : Int), (y.1 : Int)), y.2)) = some (z, b) := h
      have e1 : x = u := hx u c hp
      cases hq : pnum l c with
      | none => rw [hq] at h; cases h
      | some v =>
        obtain ⟨v, d⟩ := v
        rw [hq] at h
        have e2 : y = v := hy v d (by unfold nxt; show ((((pnum l a).map (·.2)).bind _)) = _; rw [hp]; exact hq)
        cases h
        rw [e1, e2]
theorem st_nxt (l : List Int) (s : Option Nat) : nxt (pst l) s = nxt (ptwo l) s := by
  unfold nxt pst
  cases s with
  | none => rfl
  | some a =>
    show (((ptwo l a).map _).map _) = ((ptwo l a).map _)
    cases ptwo l a <;> rfl
theorem st_got {l : List Int} {s : Option Nat} {x y : Int} (h : Got (ptwo l) s (x, y)) : Got (pst l) s (y, x) := by
  intro z b hz
  cases s with
  | none => cases hz
  | some a =>
    have hz : (ptwo l a).map (fun x => ((x.1.2, x.1.1), x.2)) = some (z, b) := hz
    cases hp : ptwo l a with
    | none => rw [hp] at hz; cases hz
    | some u =>
      obtain ⟨u, c⟩ := u
      rw [hp] at hz
      have e := h u c hp
      cases hz
      rw [← e]
/-- How far it comes. -/
theorem nxt_num {l : List Int} {a b : Nat} (hl : ∀ x ∈ l, isB x) (ha : a ≤ l.length) (h : nxt (pnum l) (some a) = some b) : a < b ∧ b ≤ l.length := by
  have h : (pnum l a).map (·.2) = some b := h
  cases hp : pnum l a with
  | none => rw [hp] at h; cases h
  | some x =>
    obtain ⟨n, c⟩ := x
    rw [hp] at h
    cases h
    have := pnum_le hl ha hp
    exact ⟨this.1, this.2.1⟩
theorem nxt_none {p : Nat → Option (α × Nat)} : nxt p none = none := rfl
/-- The end of a list's reading: it must be as it must be. -/
theorem such_end {p : Nat → Option (List α × Nat)} {f : List α → Bool} {s0 s : Option Nat} {acc : List α} (h : s0.bind p = s.map fun a => (acc, a)) : nxt (fun a => such f (p a)) s0 = (if f acc then s else none) ∧ Got (fun a => such f (p a)) s0 acc := by
  cases s0 with
  | none =>
    cases s with
    | none => exact ⟨by simp [nxt], Got.none⟩
    | some a => cases h
  | some a0 =>
    have h : p a0 = s.map fun a => (acc, a) := h
    cases s with
    | none =>
      have h : p a0 = none := h
      refine ⟨?_, fun x a hx => ?_⟩
      · show (such f (p a0)).map _ = _
        rw [h]
        simp [such]
      · have hx : such f (p a0) = some (x, a) := hx
        rw [h] at hx
        cases hx
    | some b =>
      have h : p a0 = some (acc, b) := h
      refine ⟨?_, fun x a hx => ?_⟩
      · show (such f (p a0)).map _ = _
        rw [h]
        show (if f acc then some (acc, b) else none : Option (List α × Nat)).map _ = _
        cases f acc <;> rfl
      · have hx : such f (p a0) = some (x, a) := hx
        rw [h] at hx
        have hx : (if f acc then some (acc, b) else none : Option (List α × Nat)) = some (x, a) := hx
        cases hf : f acc with
        | true => rw [hf] at hx; cases hx; rfl
        | false => rw [hf] at hx; cases hx
section
variable {γ : Type} {p : Nat → Option (α × Nat)} {s : Option Nat}
/-- One thing behind another one. -/
theorem nxt_bind {q : α → Nat → Option (γ × Nat)} {x : α} (h : Got p s x) : nxt (fun a => (p a).bind fun y => q y.1 y.2) s = nxt (q x) (nxt p s) := by
  cases s with
  | none => rfl
  | some a =>
    show ((p a).bind _).map _ = (((p a).map (·.2)).bind _).map _
    cases hp : p a with
    | none => rfl
    | some u =>
      obtain ⟨u, c⟩ := u
      have e := h u c hp
      subst e
      rfl
theorem got_bind {q : α → Nat → Option (γ × Nat)} {x : α} {y : γ} (h : Got p s x) (hy : Got (q x) (nxt p s) y) : Got (fun a => (p a).bind fun y => q y.1 y.2) s y := by
  intro z b hz
  cases s with
  | none => cases hz
  | some a =>
    have hz : (p a).bind (fun y => q y.1 y.2) = some (z, b) := hz
    cases hp : p a with
    | none => rw [hp] at hz; cases hz
    | some u =>
      obtain ⟨u, c⟩ := u
      have e := h u c hp
      subst e
      rw [hp] at hz
      refine hy z b ?_
      show (nxt p (some a)).bind _ = _
      unfold nxt
      show (((p a).map (·.2)).bind _) = _
      rw [hp]
      exact hz
theorem nxt_map {f : α → γ} : nxt (fun a => (p a).map fun y => (f y.1, y.2)) s = nxt p s := by
  cases s with
  | none => rfl
  | some a =>
    show ((p a).map _).map _ = (p a).map _
    cases p a <;> rfl
theorem got_map {f : α → γ} {x : α} (h : Got p s x) : Got (fun a => (p a).map fun y => (f y.1, y.2)) s (f x) := by
  intro z b hz
  cases s with
  | none => cases hz
  | some a =>
    have hz : (p a).map (fun y => (f y.1, y.2)) = some (z, b) := hz
    cases hp : p a with
    | none => rw [hp] at hz; cases hz
    | some u =>
      obtain ⟨u, c⟩ := u
      have e := h u c hp
      subst e
      rw [hp] at hz
      cases hz
      rfl
theorem nxt_such {f : α → Bool} {v : α} (h : Got p s v) : nxt (fun a => such f (p a)) s = if f v then nxt p s else none := by
  cases s with
  | none => simp [nxt]
  | some a =>
    show ((p a).bind _).map _ = if f v then (p a).map _ else none
    cases hp : p a with
    | none => simp
    | some u =>
      obtain ⟨u, c⟩ := u
      have e := h u c hp
      subst e
      show (if f v then some (v, c) else none : Option (α × Nat)).map _ = _
      cases f v <;> rfl
theorem got_such {f : α → Bool} {v : α} (h : Got p s v) : Got (fun a => such f (p a)) s v := by
  intro z b hz
  cases s with
  | none => cases hz
  | some a =>
    have hz : (p a).bind (fun x => if f x.1 then some x else none) = some (z, b) := hz
    cases hp : p a with
    | none => rw [hp] at hz; cases hz
    | some u =>
      obtain ⟨u, c⟩ := u
      have e := h u c hp
      rw [hp] at hz
      have hz : (if f u then some (u, c) else none : Option (α × Nat)) = some (z, b) := hz
      cases hf : f u with
      | true => rw [hf] at hz; cases hz; exact e
      | false => rw [hf] at hz; cases hz
end
end Wi

end Go.Proofs.Ytbbmngabbbehcaa
namespace Go.Proofs.Ytbbmngabbbehcaa
open Go.RowKit

/-- A row was read. -/
def RdRow (g : Nat) (A : Option Addr) (c : Nat) (l : List Int) (most : Int) (s : Option Nat) (w : World) (e : Ending) (w' : World) : Prop :=
  ∃ D d q, e = .returned (.slice D q.length d) ∧ OneB w' D d q ∧ RdAt w' g A c l (Wi.nxt (Wi.prow l most) s) ∧ Only g w w' ∧ Wi.Got (Wi.prow l most) s q
theorem RdAt.blk {w : World} {g : Nat} {A : Option Addr} {c : Nat} {l : List Int} {s : Option Nat} (h : RdAt w g A c l s) : ∃ (a : Nat) (b : Bool), Blk w g 32 #[.slice A l.length c, .int .i64 (a : Int), .bool b] ∧ OneB w A c l ∧ a ≤ l.length ∧ s = if b then none else some a := h
set_option maxHeartbeats 6400000 in
theorem rdrow_bad (g : Nat) (A : Option Addr) (c : Nat) (l : List Int) (most : Int) (a : Nat) (w : World) (hB : Blk w g 32 #[.slice A l.length c, .int .i64 (a : Int), .bool true]) (hO : OneB w A c l) (ha : a ≤ l.length) :
    Calls Try.prog 74 #[.pointer (some ⟨g, 0, none⟩), .int .i64 most] w (RdRow g A c l most none w) := by
  have c2 := hB.cell (i := 2) rfl
  have HR := Lib.hid (show RdAt w g A c l none from ⟨a, true, hB, hO, ha, rfl⟩)
  clear hB hO
  go_enter Try.func74, Try.ntmps74
  go_wp2
  go_ret
  exact ⟨none, 0, [], rfl, OneB.nil _, HR.out, Only.refl _ _, Wi.Got.none⟩

set_option maxHeartbeats 6400000 in
theorem rdrow_none (g : Nat) (most : Int) (w : World) (hB : Blk w g 32 #[.slice none 0 0, .int .i64 0, .bool false]) (hO : OneB w none 0 []) :
    Calls Try.prog 74 #[.pointer (some ⟨g, 0, none⟩), .int .i64 most] w (RdRow g none 0 [] most (some 0) w) := by
  have CR := Lib.hid (fun wx => brow_any none 0 [] most wx (by simp) (OneB.nil wx))
  have hways := Pk.row_ways ([]) most (fun x hx => hO.byte x (hx))
  have hle := hO.le
  have hcap := hO.cap
  unfold maxLen at hcap
  obtain ⟨⟨q, k, e0⟩, hr⟩ : ∃ r, Pk.row ([]) most = r := ⟨_, rfl⟩
  rw [hr] at hways
  simp only [hr] at CR
  have hq : ∃ kn : Nat, k = (kn : Int) ∧ (e0 = 0 → kn + 0 ≤ 0) ∧ (e0 ≠ 0 → kn = 0) := by
    rcases hways with ⟨e, he, hh⟩ | ⟨q', j, hh, _, hj, _, _⟩
    · injection hh with _ hh
      injection hh with h1 h2
      exact ⟨0, h1, fun hz => by omega, fun _ => rfl⟩
    · injection hh with _ hh
      injection hh with h1 h2
      simp at hj
      exact ⟨j, h1, fun _ => by omega, fun hz => absurd h2 hz⟩
  obtain ⟨kn, rfl, hkn, hkz⟩ := hq
  have HRW := Lib.hid hr
  have HB := Lib.hid hB
  have HO := Lib.hid hO
  have c0 := hB.cell (i := 0) rfl
  have c1 := hB.cell (i := 1) rfl
  have c2 := hB.cell (i := 2) rfl
  have HKN := Lib.hid hkn
  have HKZ := Lib.hid hkz
  clear hr hways hB hO hkn hkz
  go_enter Try.func74, Try.ntmps74
  go_wp2_with fail
  refine wp_region_facts 17 (by kernel_rfl) (by kernel_rfl)
    (fun v => { tmps := #[.pointer (some ⟨g, 0, none⟩), .int .i64 most, undef, undef, .slice none 0 0, v 15, v 16, undef, .pointer (some ⟨g, 0, none⟩), .pointer (some ⟨g, 0, none⟩), .pointer (some ⟨g, 2, none⟩), .bool false, v 11, v 0, v 1, v 2, v 3, v 4, v 5, v 6, v 7, v 8, v 9, v 10, v 12, v 13, v 14, undef, undef, undef, undef, undef, undef, undef, undef, undef, undef, undef, undef, undef, undef, undef], defers := [] }) (fun _ => undef)
    (fun i x wx => match i with
      | 0 => x = .pointer (some ⟨g, 0, none⟩)
      | 1 => x = .pointer (some ⟨g, 0, none⟩)
      | 2 => x = .pointer (some ⟨g, 0, none⟩)
      | 3 => x = .slice none 0 0
      | 4 => x = .pointer (some ⟨g, 0, none⟩)
      | 5 => x = .pointer (some ⟨g, 0, none⟩)
      | 6 => x = .pointer (some ⟨g, 1, none⟩)
      | 7 => x = .int .i64 0
      | 8 => x = .slice none 0 0
      | 9 => x = .int .i64 most
      | 10 => ∃ D d, x = .tuple #[.slice D q.length d, .int .i64 (kn : Int), .int .i64 e0] ∧ OneB wx D d q
      | 11 => ∃ D d, x = .tuple #[.slice D q.length d, .int .i64 (kn : Int), .int .i64 e0] ∧ OneB wx D d q
      | 12 => ∃ D d, x = .slice D q.length d ∧ OneB wx D d q
      | 13 => x = .int .i64 (kn : Int)
      | 14 => x = .int .i64 e0
      | 15 => ∃ D d, x = .slice D q.length d ∧ OneB wx D d q
      | 16 => x = .int .i64 (kn : Int)
      | _ => True)
    (fun w1 w2 => Below w1.heap.size w1 w2) (fun h1 h2 => below_on h1 h2) (fun _ => Below.refl _ _) (Below.drew (Below.refl _ _)) ?stab ?step ?done
  case stab =>
    rintro i x w1 w2 h hb
    match i, h with
    | 0, h => exact h
    | 1, h => exact h
    | 2, h => exact h
    | 3, h => exact h
    | 4, h => exact h
    | 5, h => exact h
    | 6, h => exact h
    | 7, h => exact h
    | 8, h => exact h
    | 9, h => exact h
    | 10, h => obtain ⟨D, d, h1, h2⟩ := h; exact ⟨D, d, h1, h2.later hb⟩
    | 11, h => obtain ⟨D, d, h1, h2⟩ := h; exact ⟨D, d, h1, h2.later hb⟩
    | 12, h => obtain ⟨D, d, h1, h2⟩ := h; exact ⟨D, d, h1, h2.later hb⟩
    | 13, h => exact h
    | 14, h => exact h
    | 15, h => obtain ⟨D, d, h1, h2⟩ := h; exact ⟨D, d, h1, h2.later hb⟩
    | 16, h => exact h
    | i + 17, _ => trivial
  case step =>
    intro i hi v w' hb hd
    match i, hi with
    | 0, _ =>
      refine wpOp_one rfl ?_
      clear hd
      go_wp2
      first | exact ⟨_, (by simp [upd]; done), Below.refl _ _, rfl⟩ | exact ⟨(by simp [upd]; done), Below.refl _ _⟩
    | 1, _ =>
      have h0 : v 0 = _ := hd 0 (List.elem_iff.1 (by kernel_rfl))
      refine wpOp_one rfl ?_
      clear hd
      rw [h0]
      go_wp2
      first | exact ⟨_, (by simp [upd, h0]; done), Below.refl _ _, rfl⟩ | exact ⟨(by simp [upd, h0]; done), Below.refl _ _⟩
    | 2, _ =>
      have h1 : v 1 = _ := hd 1 (List.elem_iff.1 (by kernel_rfl))
      refine wpOp_one rfl ?_
      clear hd
      rw [h1]
      go_wp2
      first | exact ⟨_, (by simp [upd, h1]; done), Below.refl _ _, rfl⟩ | exact ⟨(by simp [upd, h1]; done), Below.refl _ _⟩
    | 3, _ =>
      have h2 : v 2 = _ := hd 2 (List.elem_iff.1 (by kernel_rfl))
      refine wpOp_one rfl ?_
      clear hd
      rw [h2]
      have q0 := cell_later hb c0
      go_wp2
      first | exact ⟨_, (by simp [upd, h2]; done), Below.refl _ _, rfl⟩ | exact ⟨(by simp [upd, h2]; done), Below.refl _ _⟩
    | 4, _ =>
      refine wpOp_one rfl ?_
      clear hd
      go_wp2
      first | exact ⟨_, (by simp [upd]; done), Below.refl _ _, rfl⟩ | exact ⟨(by simp [upd]; done), Below.refl _ _⟩
    | 5, _ =>
      have h4 : v 4 = _ := hd 4 (List.elem_iff.1 (by kernel_rfl))
      refine wpOp_one rfl ?_
      clear hd
      rw [h4]
      go_wp2
      first | exact ⟨_, (by simp [upd, h4]; done), Below.refl _ _, rfl⟩ | exact ⟨(by simp [upd, h4]; done), Below.refl _ _⟩
    | 6, _ =>
      have h5 : v 5 = _ := hd 5 (List.elem_iff.1 (by kernel_rfl))
      refine wpOp_one rfl ?_
      clear hd
      rw [h5]
      go_wp2
      first | exact ⟨_, (by simp [upd, h5]; done), Below.refl _ _, rfl⟩ | exact ⟨(by simp [upd, h5]; done), Below.refl _ _⟩
    | 7, _ =>
      have h6 : v 6 = _ := hd 6 (List.elem_iff.1 (by kernel_rfl))
      refine wpOp_one rfl ?_
      clear hd
      rw [h6]
      have q0 := cell_later hb c1
      go_wp2
      first | exact ⟨_, (by simp [upd, h6]; done), Below.refl _ _, rfl⟩ | exact ⟨(by simp [upd, h6]; done), Below.refl _ _⟩
    | 8, _ =>
      have h3 : v 3 = _ := hd 3 (List.elem_iff.1 (by kernel_rfl))
      have h7 : v 7 = _ := hd 7 (List.elem_iff.1 (by kernel_rfl))
      refine wpOp_one rfl ?_
      clear hd
      rw [h3, h7]
      go_wp2
      first | exact ⟨_, (by simp [upd, h3, h7]; done), Below.refl _ _, rfl⟩ | exact ⟨(by simp [upd, h3, h7]; done), Below.refl _ _⟩
    | 9, _ =>
      refine wpOp_one rfl ?_
      clear hd
      go_wp2
      first | exact ⟨_, (by simp [upd]; done), Below.refl _ _, rfl⟩ | exact ⟨(by simp [upd]; done), Below.refl _ _⟩
    | 10, _ =>
      have h8 : v 8 = _ := hd 8 (List.elem_iff.1 (by kernel_rfl))
      have h9 : v 9 = _ := hd 9 (List.elem_iff.1 (by kernel_rfl))
      refine wpOp_one rfl ?_
      clear hd
      rw [h8, h9]
      go_wp2_with fail
      refine (CR.out _).mono ?_
      rintro e w'' ⟨D, d, rfl, ho, bb⟩
      go_wp2
      exact ⟨_, (by simp [upd, h8, h9]; done), bb, D, d, rfl, ho⟩
    | 11, _ =>
      obtain ⟨D10, d10, h10, o10⟩ := hd 10 (List.elem_iff.1 (by kernel_rfl))
      refine wpOp_one rfl ?_
      clear hd
      rw [h10]
      go_wp2
      exact ⟨_, (by simp [upd, h10]; done), Below.refl _ _, D10, d10, rfl, o10⟩
    | 12, _ =>
      obtain ⟨D11, d11, h11, o11⟩ := hd 11 (List.elem_iff.1 (by kernel_rfl))
      refine wpOp_one rfl ?_
      clear hd
      rw [h11]
      go_wp2
      exact ⟨_, (by simp [upd, h11]; done), Below.refl _ _, D11, d11, rfl, o11⟩
    | 13, _ =>
      obtain ⟨D11, d11, h11, o11⟩ := hd 11 (List.elem_iff.1 (by kernel_rfl))
      refine wpOp_one rfl ?_
      clear hd
      rw [h11]
      go_wp2
      first | exact ⟨_, (by simp [upd, h11]; done), Below.refl _ _, rfl⟩ | exact ⟨(by simp [upd, h11]; done), Below.refl _ _⟩
    | 14, _ =>
      obtain ⟨D11, d11, h11, o11⟩ := hd 11 (List.elem_iff.1 (by kernel_rfl))
      refine wpOp_one rfl ?_
      clear hd
      rw [h11]
      go_wp2
      first | exact ⟨_, (by simp [upd, h11]; done), Below.refl _ _, rfl⟩ | exact ⟨(by simp [upd, h11]; done), Below.refl _ _⟩
    | 15, _ =>
      obtain ⟨D12, d12, h12, o12⟩ := hd 12 (List.elem_iff.1 (by kernel_rfl))
      refine wpOp_one rfl ?_
      clear hd
      rw [h12]
      go_wp2
      exact ⟨_, (by simp [upd, h12]; done), Below.refl _ _, D12, d12, rfl, o12⟩
    | 16, _ =>
      have h13 : v 13 = _ := hd 13 (List.elem_iff.1 (by kernel_rfl))
      obtain ⟨D15, d15, h15, o15⟩ := hd 15 (List.elem_iff.1 (by kernel_rfl))
      refine wpOp_one rfl ?_
      clear hd
      rw [h13, h15]
      go_wp2
      first | exact ⟨_, (by simp [upd, h13, h15]; done), Below.refl _ _, rfl⟩ | exact ⟨(by simp [upd, h13, h15]; done), Below.refl _ _⟩
    | k + 17, hk => exact absurd hk (by omega)
  case done =>
    intro v w1 hb hf
    obtain ⟨D, d, h15, o12⟩ := hf 15 (by omega)
    have h16 : v 16 = _ := hf 16 (by omega)
    have h14 : v 14 = _ := hf 14 (by omega)
    clear hf
    have hBq := HB.out.later hb
    have hOq := HO.out.later hb
    have r1 := hBq.cell (i := 1) rfl
    have r2 := hBq.cell (i := 2) rfl
    have f1 := hBq.free 1
    have f2 := hBq.free 2
    have HBQ := Lib.hid hBq
    have HOQ := Lib.hid hOq
    have HD := Lib.hid o12
    clear hBq hOq o12
    have DONE : RdRow g none 0 [] most (some 0) w (.returned (.slice D q.length d)) ((w1.setCell ⟨g, 1, none⟩ (.int .i64 ((kn : Int)))).setCell ⟨g, 2, none⟩ (.bool (e0 != 0))) := by
      rw [show (kn : Int) = ((0 + kn : Nat) : Int) from by omega]
      have HPN : Wi.prow [] most 0 = if e0 = 0 then some (q, 0 + kn) else none := by
        unfold Wi.prow
        rw [show List.drop 0 ([] : List Int) = [] from rfl, HRW.out]
        rfl
      have st := ((Only.of_below g hb).set 1 (.int .i64 ((0 + kn : Nat) : Int))).set 2 (.bool (e0 != 0))
      by_cases he : e0 = 0
      · have q1 := RdAt.puts HBQ.out HOQ.out (0 + kn) (by have := HKN.out he; first | omega | (simp; omega)) (e0 != 0)
        rw [if_pos he] at HPN
        refine ⟨D, d, q, rfl, HD.out.only (((Only.refl g w1).set 1 _).set 2 _) HBQ.out rd_noU8s, ?_, st, fun x y hx => ?_⟩
        · have hn : Wi.nxt (Wi.prow [] most) (some 0) = some (0 + kn) := by
            show ((Wi.prow _ _ _).map (·.2)) = _
            rw [HPN]
            rfl
          rw [hn]
          have hd : (e0 != 0) = false := by rw [he]; rfl
          rw [hd] at q1 ⊢
          exact q1
        · have : Wi.prow [] most 0 = some (x, y) := hx
          rw [HPN] at this
          cases this
          rfl
      · have hz := HKZ.out he
        subst hz
        have q1 := RdAt.puts HBQ.out HOQ.out (0 + 0) (by have := hle; first | omega | simp) (e0 != 0)
        rw [if_neg he] at HPN
        refine ⟨D, d, q, rfl, HD.out.only (((Only.refl g w1).set 1 _).set 2 _) HBQ.out rd_noU8s, ?_, st, fun x y hx => ?_⟩
        · have hn : Wi.nxt (Wi.prow [] most) (some 0) = none := by
            show ((Wi.prow _ _ _).map (·.2)) = _
            rw [HPN]
            rfl
          rw [hn]
          have hd : (e0 != 0) = true := bne_iff_ne.2 he
          rw [hd] at q1 ⊢
          exact q1
        · have : Wi.prow [] most 0 = some (x, y) := hx
          rw [HPN] at this
          cases this
    have hbnd : kn + 0 ≤ 9223372036854775807 := by
      have hl9 := HO.out.len
      by_cases he : e0 = 0
      · have := HKN.out he
        omega
      · have := HKZ.out he
        omega
    have DN := Lib.hid DONE
    clear DONE
    go_wp2
    go_ret
    exact DN.out

set_option maxHeartbeats 6400000 in
theorem rdrow_end (g : Nat) (ad : Addr) (c : Nat) (l : List Int) (most : Int) (w : World) (hla : l.length = c) (hB : Blk w g 32 #[.slice (some ad) l.length c, .int .i64 (c : Int), .bool false]) (hO : OneB w (some ad) c l) :
    Calls Try.prog 74 #[.pointer (some ⟨g, 0, none⟩), .int .i64 most] w (RdRow g (some ad) c l most (some c) w) := by
  have CR := Lib.hid (fun wx => brow_any (some ad) 0 [] most wx (by simp) ⟨Nat.le_refl _, Nat.zero_le _, (fun h => by cases h), fun h => absurd rfl h, fun x hx => by cases hx⟩)
  have hways := Pk.row_ways (l.drop c) most (fun x hx => hO.byte x (List.mem_of_mem_drop hx))
  have hdr : l.drop c = [] := List.drop_of_length_le (by omega)
  have HDR := Lib.hid hdr
  rw [hdr] at hways
  clear hdr
  have hle := hO.le
  have hcap := hO.cap
  unfold maxLen at hcap
  obtain ⟨⟨q, k, e0⟩, hr⟩ : ∃ r, Pk.row ([]) most = r := ⟨_, rfl⟩
  rw [hr] at hways
  simp only [hr] at CR
  have hq : ∃ kn : Nat, k = (kn : Int) ∧ (e0 = 0 → kn + c ≤ l.length) ∧ (e0 ≠ 0 → kn = 0) := by
    rcases hways with ⟨e, he, hh⟩ | ⟨q', j, hh, _, hj, _, _⟩
    · injection hh with _ hh
      injection hh with h1 h2
      exact ⟨0, h1, fun hz => by omega, fun _ => rfl⟩
    · injection hh with _ hh
      injection hh with h1 h2
      simp at hj
      exact ⟨j, h1, fun _ => by omega, fun hz => absurd h2 hz⟩
  obtain ⟨kn, rfl, hkn, hkz⟩ := hq
  have HRW := Lib.hid hr
  have HB := Lib.hid hB
  have HO := Lib.hid hO
  have c0 := hB.cell (i := 0) rfl
  have c1 := hB.cell (i := 1) rfl
  have c2 := hB.cell (i := 2) rfl
  have HKN := Lib.hid hkn
  have HKZ := Lib.hid hkz
  have hge : c ≤ l.length := by omega
  have HLA := Lib.hid hla
  clear hr hways hB hO hkn hkz hla
  go_enter Try.func74, Try.ntmps74
  go_wp2_with fail
  refine wp_region_facts 17 (by kernel_rfl) (by kernel_rfl)
    (fun v => { tmps := #[.pointer (some ⟨g, 0, none⟩), .int .i64 most, undef, undef, .slice none 0 0, v 15, v 16, undef, .pointer (some ⟨g, 0, none⟩), .pointer (some ⟨g, 0, none⟩), .pointer (some ⟨g, 2, none⟩), .bool false, v 11, v 0, v 1, v 2, v 3, v 4, v 5, v 6, v 7, v 8, v 9, v 10, v 12, v 13, v 14, undef, undef, undef, undef, undef, undef, undef, undef, undef, undef, undef, undef, undef, undef, undef], defers := [] }) (fun _ => undef)
    (fun i x wx => match i with
      | 0 => x = .pointer (some ⟨g, 0, none⟩)
      | 1 => x = .pointer (some ⟨g, 0, none⟩)
      | 2 => x = .pointer (some ⟨g, 0, none⟩)
      | 3 => x = .slice (some ad) l.length c
      | 4 => x = .pointer (some ⟨g, 0, none⟩)
      | 5 => x = .pointer (some ⟨g, 0, none⟩)
      | 6 => x = .pointer (some ⟨g, 1, none⟩)
      | 7 => x = .int .i64 (c : Int)
      | 8 => x = .slice (some ad) 0 0
      | 9 => x = .int .i64 most
      | 10 => ∃ D d, x = .tuple #[.slice D q.length d, .int .i64 (kn : Int), .int .i64 e0] ∧ OneB wx D d q
      | 11 => ∃ D d, x = .tuple #[.slice D q.length d, .int .i64 (kn : Int), .int .i64 e0] ∧ OneB wx D d q
      | 12 => ∃ D d, x = .slice D q.length d ∧ OneB wx D d q
      | 13 => x = .int .i64 (kn : Int)
      | 14 => x = .int .i64 e0
      | 15 => ∃ D d, x = .slice D q.length d ∧ OneB wx D d q
      | 16 => x = .int .i64 (kn : Int)
      | _ => True)
    (fun w1 w2 => Below w1.heap.size w1 w2) (fun h1 h2 => below_on h1 h2) (fun _ => Below.refl _ _) (Below.drew (Below.refl _ _)) ?stab ?step ?done
  case stab =>
    rintro i x w1 w2 h hb
    match i, h with
    | 0, h => exact h
    | 1, h => exact h
    | 2, h => exact h
    | 3, h => exact h
    | 4, h => exact h
    | 5, h => exact h
    | 6, h => exact h
    | 7, h => exact h
    | 8, h => exact h
    | 9, h => exact h
    | 10, h => obtain ⟨D, d, h1, h2⟩ := h; exact ⟨D, d, h1, h2.later hb⟩
    | 11, h => obtain ⟨D, d, h1, h2⟩ := h; exact ⟨D, d, h1, h2.later hb⟩
    | 12, h => obtain ⟨D, d, h1, h2⟩ := h; exact ⟨D, d, h1, h2.later hb⟩
    | 13, h => exact h
    | 14, h => exact h
    | 15, h => obtain ⟨D, d, h1, h2⟩ := h; exact ⟨D, d, h1, h2.later hb⟩
    | 16, h => exact h
    | i + 17, _ => trivial
  case step =>
    intro i hi v w' hb hd
    match i, hi with
    | 0, _ =>
      refine wpOp_one rfl ?_
      clear hd
      go_wp2
      first | exact ⟨_, (by simp [upd]; done), Below.refl _ _, rfl⟩ | exact ⟨(by simp [upd]; done), Below.refl _ _⟩
    | 1, _ =>
      have h0 : v 0 = _ := hd 0 (List.elem_iff.1 (by kernel_rfl))
      refine wpOp_one rfl ?_
      clear hd
      rw [h0]
      go_wp2
      first | exact ⟨_, (by simp [upd, h0]; done), Below.refl _ _, rfl⟩ | exact ⟨(by simp [upd, h0]; done), Below.refl _ _⟩
    | 2, _ =>
      have h1 : v 1 = _ := hd 1 (List.elem_iff.1 (by kernel_rfl))
      refine wpOp_one rfl ?_
      clear hd
      rw [h1]
      go_wp2
      first | exact ⟨_, (by simp [upd, h1]; done), Below.refl _ _, rfl⟩ | exact ⟨(by simp [upd, h1]; done), Below.refl _ _⟩
    | 3, _ =>
      have h2 : v 2 = _ := hd 2 (List.elem_iff.1 (by kernel_rfl))
      refine wpOp_one rfl ?_
      clear hd
      rw [h2]
      have q0 := cell_later hb c0
      go_wp2
      first | exact ⟨_, (by simp [upd, h2]; done), Below.refl _ _, rfl⟩ | exact ⟨(by simp [upd, h2]; done), Below.refl _ _⟩
    | 4, _ =>
      refine wpOp_one rfl ?_
      clear hd
      go_wp2
      first | exact ⟨_, (by simp [upd]; done), Below.refl _ _, rfl⟩ | exact ⟨(by simp [upd]; done), Below.refl _ _⟩
    | 5, _ =>
      have h4 : v 4 = _ := hd 4 (List.elem_iff.1 (by kernel_rfl))
      refine wpOp_one rfl ?_
      clear hd
      rw [h4]
      go_wp2
      first | exact ⟨_, (by simp [upd, h4]; done), Below.refl _ _, rfl⟩ | exact ⟨(by simp [upd, h4]; done), Below.refl _ _⟩
    | 6, _ =>
      have h5 : v 5 = _ := hd 5 (List.elem_iff.1 (by kernel_rfl))
      refine wpOp_one rfl ?_
      clear hd
      rw [h5]
      go_wp2
      first | exact ⟨_, (by simp [upd, h5]; done), Below.refl _ _, rfl⟩ | exact ⟨(by simp [upd, h5]; done), Below.refl _ _⟩
    | 7, _ =>
      have h6 : v 6 = _ := hd 6 (List.elem_iff.1 (by kernel_rfl))
      refine wpOp_one rfl ?_
      clear hd
      rw [h6]
      have q0 := cell_later hb c1
      go_wp2
      first | exact ⟨_, (by simp [upd, h6]; done), Below.refl _ _, rfl⟩ | exact ⟨(by simp [upd, h6]; done), Below.refl _ _⟩
    | 8, _ =>
      have h3 : v 3 = _ := hd 3 (List.elem_iff.1 (by kernel_rfl))
      have h7 : v 7 = _ := hd 7 (List.elem_iff.1 (by kernel_rfl))
      refine wpOp_one rfl ?_
      clear hd
      rw [h3, h7]
      go_wp2
      first | exact ⟨_, (by simp [upd, h3, h7]; done), Below.refl _ _, rfl⟩ | exact ⟨(by simp [upd, h3, h7]; done), Below.refl _ _⟩
    | 9, _ =>
      refine wpOp_one rfl ?_
      clear hd
      go_wp2
      first | exact ⟨_, (by simp [upd]; done), Below.refl _ _, rfl⟩ | exact ⟨(by simp [upd]; done), Below.refl _ _⟩
    | 10, _ =>
      have h8 : v 8 = _ := hd 8 (List.elem_iff.1 (by kernel_rfl))
      have h9 : v 9 = _ := hd 9 (List.elem_iff.1 (by kernel_rfl))
      refine wpOp_one rfl ?_
      clear hd
      rw [h8, h9]
      go_wp2_with fail
      refine (CR.out _).mono ?_
      rintro e w'' ⟨D, d, rfl, ho, bb⟩
      go_wp2
      exact ⟨_, (by simp [upd, h8, h9]; done), bb, D, d, rfl, ho⟩
    | 11, _ =>
      obtain ⟨D10, d10, h10, o10⟩ := hd 10 (List.elem_iff.1 (by kernel_rfl))
      refine wpOp_one rfl ?_
      clear hd
      rw [h10]
      go_wp2
      exact ⟨_, (by simp [upd, h10]; done), Below.refl _ _, D10, d10, rfl, o10⟩
    | 12, _ =>
      obtain ⟨D11, d11, h11, o11⟩ := hd 11 (List.elem_iff.1 (by kernel_rfl))
      refine wpOp_one rfl ?_
      clear hd
      rw [h11]
      go_wp2
      exact ⟨_, (by simp [upd, h11]; done), Below.refl _ _, D11, d11, rfl, o11⟩
    | 13, _ =>
      obtain ⟨D11, d11, h11, o11⟩ := hd 11 (List.elem_iff.1 (by kernel_rfl))
      refine wpOp_one rfl ?_
      clear hd
      rw [h11]
      go_wp2
      first | exact ⟨_, (by simp [upd, h11]; done), Below.refl _ _, rfl⟩ | exact ⟨(by simp [upd, h11]; done), Below.refl _ _⟩
    | 14, _ =>
      obtain ⟨D11, d11, h11, o11⟩ := hd 11 (List.elem_iff.1 (by kernel_rfl))
      refine wpOp_one rfl ?_
      clear hd
      rw [h11]
      go_wp2
      first | exact ⟨_, (by simp [upd, h11]; done), Below.refl _ _, rfl⟩ | exact ⟨(by simp [upd, h11]; done), Below.refl _ _⟩
    | 15, _ =>
      obtain ⟨D12, d12, h12, o12⟩ := hd 12 (List.elem_iff.1 (by kernel_rfl))
      refine wpOp_one rfl ?_
      clear hd
      rw [h12]
      go_wp2
      exact ⟨_, (by simp [upd, h12]; done), Below.refl _ _, D12, d12, rfl, o12⟩
    | 16, _ =>
      have h13 : v 13 = _ := hd 13 (List.elem_iff.1 (by kernel_rfl))
      obtain ⟨D15, d15, h15, o15⟩ := hd 15 (List.elem_iff.1 (by kernel_rfl))
      refine wpOp_one rfl ?_
      clear hd
      rw [h13, h15]
      go_wp2
      first | exact ⟨_, (by simp [upd, h13, h15]; done), Below.refl _ _, rfl⟩ | exact ⟨(by simp [upd, h13, h15]; done), Below.refl _ _⟩
    | k + 17, hk => exact absurd hk (by omega)
  case done =>
    intro v w1 hb hf
    obtain ⟨D, d, h15, o12⟩ := hf 15 (by omega)
    have h16 : v 16 = _ := hf 16 (by omega)
    have h14 : v 14 = _ := hf 14 (by omega)
    clear hf
    have hBq := HB.out.later hb
    have hOq := HO.out.later hb
    have r1 := hBq.cell (i := 1) rfl
    have r2 := hBq.cell (i := 2) rfl
    have f1 := hBq.free 1
    have f2 := hBq.free 2
    have HBQ := Lib.hid hBq
    have HOQ := Lib.hid hOq
    have HD := Lib.hid o12
    clear hBq hOq o12
    have hla := HLA.out
    have DONE : RdRow g (some ad) c l most (some c) w (.returned (.slice D q.length d)) ((w1.setCell ⟨g, 1, none⟩ (.int .i64 ((c : Int) + (kn : Int)))).setCell ⟨g, 2, none⟩ (.bool (e0 != 0))) := by
      rw [show (c : Int) + (kn : Int) = ((c + kn : Nat) : Int) from by omega]
      have HPN : Wi.prow l most c = if e0 = 0 then some (q, c + kn) else none := by
        unfold Wi.prow
        rw [HDR.out, HRW.out]
        rfl
      have st := ((Only.of_below g hb).set 1 (.int .i64 ((c + kn : Nat) : Int))).set 2 (.bool (e0 != 0))
      by_cases he : e0 = 0
      · have q1 := RdAt.puts HBQ.out HOQ.out (c + kn) (by have := HKN.out he; first | omega | (simp; omega)) (e0 != 0)
        rw [if_pos he] at HPN
        refine ⟨D, d, q, rfl, HD.out.only (((Only.refl g w1).set 1 _).set 2 _) HBQ.out rd_noU8s, ?_, st, fun x y hx => ?_⟩
        · have hn : Wi.nxt (Wi.prow l most) (some c) = some (c + kn) := by
            show ((Wi.prow _ _ _).map (·.2)) = _
            rw [HPN]
            rfl
          rw [hn]
          have hd : (e0 != 0) = false := by rw [he]; rfl
          rw [hd] at q1 ⊢
          exact q1
        · have : Wi.prow l most c = some (x, y) := hx
          rw [HPN] at this
          cases this
          rfl
      · have hz := HKZ.out he
        subst hz
        have q1 := RdAt.puts HBQ.out HOQ.out (c + 0) (by have := hle; first | omega | simp) (e0 != 0)
        rw [if_neg he] at HPN
        refine ⟨D, d, q, rfl, HD.out.only (((Only.refl g w1).set 1 _).set 2 _) HBQ.out rd_noU8s, ?_, st, fun x y hx => ?_⟩
        · have hn : Wi.nxt (Wi.prow l most) (some c) = none := by
            show ((Wi.prow _ _ _).map (·.2)) = _
            rw [HPN]
            rfl
          rw [hn]
          have hd : (e0 != 0) = true := bne_iff_ne.2 he
          rw [hd] at q1 ⊢
          exact q1
        · have : Wi.prow l most c = some (x, y) := hx
          rw [HPN] at this
          cases this
    have hbnd : kn + c ≤ 9223372036854775807 := by
      have hl9 := HO.out.len
      by_cases he : e0 = 0
      · have := HKN.out he
        omega
      · have := HKZ.out he
        omega
    have DN := Lib.hid DONE
    clear DONE hla
    go_wp2
    go_ret
    exact DN.out

set_option maxHeartbeats 6400000 in
theorem rdrow_else (g : Nat) (ad : Addr) (c : Nat) (l : List Int) (most : Int) (a : Nat) (w : World) (hl : l.length ≤ 140737488355328) (hca : ¬ c = a) (ha : a ≤ l.length) (hB : Blk w g 32 #[.slice (some ad) l.length c, .int .i64 (a : Int), .bool false]) (hO : OneB w (some ad) c l) :
    Calls Try.prog 74 #[.pointer (some ⟨g, 0, none⟩), .int .i64 most] w (RdRow g (some ad) c l most (some a) w) := by
  have cr := fun wx (hx : OneB wx (some ad) c l) => brow_any (some (ad.add a)) (c - a) (l.drop a) most wx (by rw [List.length_drop]; omega) (hx.tail ha)
  rw [List.length_drop] at cr
  have hlt : a < c := by have := hO.le; omega
  have CR := Lib.hid cr
  clear cr
  have hways := Pk.row_ways (l.drop a) most (fun x hx => hO.byte x (List.mem_of_mem_drop hx))
  have hle := hO.le
  have hcap := hO.cap
  unfold maxLen at hcap
  obtain ⟨⟨q, k, e0⟩, hr⟩ : ∃ r, Pk.row (l.drop a) most = r := ⟨_, rfl⟩
  rw [hr] at hways
  simp only [hr] at CR
  have hq : ∃ kn : Nat, k = (kn : Int) ∧ (e0 = 0 → kn + a ≤ l.length) ∧ (e0 ≠ 0 → kn = 0) := by
    rcases hways with ⟨e, he, hh⟩ | ⟨q', j, hh, _, hj, _, _⟩
    · injection hh with _ hh
      injection hh with h1 h2
      exact ⟨0, h1, fun hz => by omega, fun _ => rfl⟩
    · injection hh with _ hh
      injection hh with h1 h2
      rw [List.length_drop] at hj
      exact ⟨j, h1, fun _ => by omega, fun hz => absurd h2 hz⟩
  obtain ⟨kn, rfl, hkn, hkz⟩ := hq
  have HRW := Lib.hid hr
  have HB := Lib.hid hB
  have HO := Lib.hid hO
  have c0 := hB.cell (i := 0) rfl
  have c1 := hB.cell (i := 1) rfl
  have c2 := hB.cell (i := 2) rfl
  have HKN := Lib.hid hkn
  have HKZ := Lib.hid hkz
  clear hr hways hB hO hkn hkz
  go_enter Try.func74, Try.ntmps74
  go_wp2_with fail
  refine wp_region_facts 17 (by kernel_rfl) (by kernel_rfl)
    (fun v => { tmps := #[.pointer (some ⟨g, 0, none⟩), .int .i64 most, undef, undef, .slice none 0 0, v 15, v 16, undef, .pointer (some ⟨g, 0, none⟩), .pointer (some ⟨g, 0, none⟩), .pointer (some ⟨g, 2, none⟩), .bool false, v 11, v 0, v 1, v 2, v 3, v 4, v 5, v 6, v 7, v 8, v 9, v 10, v 12, v 13, v 14, undef, undef, undef, undef, undef, undef, undef, undef, undef, undef, undef, undef, undef, undef, undef], defers := [] }) (fun _ => undef)
    (fun i x wx => match i with
      | 0 => x = .pointer (some ⟨g, 0, none⟩)
      | 1 => x = .pointer (some ⟨g, 0, none⟩)
      | 2 => x = .pointer (some ⟨g, 0, none⟩)
      | 3 => x = .slice (some ad) l.length c
      | 4 => x = .pointer (some ⟨g, 0, none⟩)
      | 5 => x = .pointer (some ⟨g, 0, none⟩)
      | 6 => x = .pointer (some ⟨g, 1, none⟩)
      | 7 => x = .int .i64 (a : Int)
      | 8 => x = .slice (some (ad.add a)) (l.length - a) (c - a)
      | 9 => x = .int .i64 most
      | 10 => ∃ D d, x = .tuple #[.slice D q.length d, .int .i64 (kn : Int), .int .i64 e0] ∧ OneB wx D d q
      | 11 => ∃ D d, x = .tuple #[.slice D q.length d, .int .i64 (kn : Int), .int .i64 e0] ∧ OneB wx D d q
      | 12 => ∃ D d, x = .slice D q.length d ∧ OneB wx D d q
      | 13 => x = .int .i64 (kn : Int)
      | 14 => x = .int .i64 e0
      | 15 => ∃ D d, x = .slice D q.length d ∧ OneB wx D d q
      | 16 => x = .int .i64 (kn : Int)
      | _ => True)
    (fun w1 w2 => Below w1.heap.size w1 w2) (fun h1 h2 => below_on h1 h2) (fun _ => Below.refl _ _) (Below.drew (Below.refl _ _)) ?stab ?step ?done
  case stab =>
    rintro i x w1 w2 h hb
    match i, h with
    | 0, h => exact h
    | 1, h => exact h
    | 2, h => exact h
    | 3, h => exact h
    | 4, h => exact h
    | 5, h => exact h
    | 6, h => exact h
    | 7, h => exact h
    | 8, h => exact h
    | 9, h => exact h
    | 10, h => obtain ⟨D, d, h1, h2⟩ := h; exact ⟨D, d, h1, h2.later hb⟩
    | 11, h => obtain ⟨D, d, h1, h2⟩ := h; exact ⟨D, d, h1, h2.later hb⟩
    | 12, h => obtain ⟨D, d, h1, h2⟩ := h; exact ⟨D, d, h1, h2.later hb⟩
    | 13, h => exact h
    | 14, h => exact h
    | 15, h => obtain ⟨D, d, h1, h2⟩ := h; exact ⟨D, d, h1, h2.later hb⟩
    | 16, h => exact h
    | i + 17, _ => trivial
  case step =>
    intro i hi v w' hb hd
    match i, hi with
    | 0, _ =>
      refine wpOp_one rfl ?_
      clear hd
      go_wp2
      first | exact ⟨_, (by simp [upd]; done), Below.refl _ _, rfl⟩ | exact ⟨(by simp [upd]; done), Below.refl _ _⟩
    | 1, _ =>
      have h0 : v 0 = _ := hd 0 (List.elem_iff.1 (by kernel_rfl))
      refine wpOp_one rfl ?_
      clear hd
      rw [h0]
      go_wp2
      first | exact ⟨_, (by simp [upd, h0]; done), Below.refl _ _, rfl⟩ | exact ⟨(by simp [upd, h0]; done), Below.refl _ _⟩
    | 2, _ =>
      have h1 : v 1 = _ := hd 1 (List.elem_iff.1 (by kernel_rfl))
      refine wpOp_one rfl ?_
      clear hd
      rw [h1]
      go_wp2
      first | exact ⟨_, (by simp [upd, h1]; done), Below.refl _ _, rfl⟩ | exact ⟨(by simp [upd, h1]; done), Below.refl _ _⟩
    | 3, _ =>
      have h2 : v 2 = _ := hd 2 (List.elem_iff.1 (by kernel_rfl))
      refine wpOp_one rfl ?_
      clear hd
      rw [h2]
      have q0 := cell_later hb c0
      go_wp2
      first | exact ⟨_, (by simp [upd, h2]; done), Below.refl _ _, rfl⟩ | exact ⟨(by simp [upd, h2]; done), Below.refl _ _⟩
    | 4, _ =>
      refine wpOp_one rfl ?_
      clear hd
      go_wp2
      first | exact ⟨_, (by simp [upd]; done), Below.refl _ _, rfl⟩ | exact ⟨(by simp [upd]; done), Below.refl _ _⟩
    | 5, _ =>
      have h4 : v 4 = _ := hd 4 (List.elem_iff.1 (by kernel_rfl))
      refine wpOp_one rfl ?_
      clear hd
      rw [h4]
      go_wp2
      first | exact ⟨_, (by simp [upd, h4]; done), Below.refl _ _, rfl⟩ | exact ⟨(by simp [upd, h4]; done), Below.refl _ _⟩
    | 6, _ =>
      have h5 : v 5 = _ := hd 5 (List.elem_iff.1 (by kernel_rfl))
      refine wpOp_one rfl ?_
      clear hd
      rw [h5]
      go_wp2
      first | exact ⟨_, (by simp [upd, h5]; done), Below.refl _ _, rfl⟩ | exact ⟨(by simp [upd, h5]; done), Below.refl _ _⟩
    | 7, _ =>
      have h6 : v 6 = _ := hd 6 (List.elem_iff.1 (by kernel_rfl))
      refine wpOp_one rfl ?_
      clear hd
      rw [h6]
      have q0 := cell_later hb c1
      go_wp2
      first | exact ⟨_, (by simp [upd, h6]; done), Below.refl _ _, rfl⟩ | exact ⟨(by simp [upd, h6]; done), Below.refl _ _⟩
    | 8, _ =>
      have h3 : v 3 = _ := hd 3 (List.elem_iff.1 (by kernel_rfl))
      have h7 : v 7 = _ := hd 7 (List.elem_iff.1 (by kernel_rfl))
      refine wpOp_one rfl ?_
      clear hd
      rw [h3, h7]
      go_wp2
      first | exact ⟨_, (by simp [upd, h3, h7]; done), Below.refl _ _, rfl⟩ | exact ⟨(by simp [upd, h3, h7]; done), Below.refl _ _⟩
    | 9, _ =>
      refine wpOp_one rfl ?_
      clear hd
      go_wp2
      first | exact ⟨_, (by simp [upd]; done), Below.refl _ _, rfl⟩ | exact ⟨(by simp [upd]; done), Below.refl _ _⟩
    | 10, _ =>
      have h8 : v 8 = _ := hd 8 (List.elem_iff.1 (by kernel_rfl))
      have h9 : v 9 = _ := hd 9 (List.elem_iff.1 (by kernel_rfl))
      refine wpOp_one rfl ?_
      clear hd
      rw [h8, h9]
      go_wp2_with fail
      refine (CR.out _ (HO.out.later hb)).mono ?_
      rintro e w'' ⟨D, d, rfl, ho, bb⟩
      go_wp2
      exact ⟨_, (by simp [upd, h8, h9]; done), bb, D, d, rfl, ho⟩
    | 11, _ =>
      obtain ⟨D10, d10, h10, o10⟩ := hd 10 (List.elem_iff.1 (by kernel_rfl))
      refine wpOp_one rfl ?_
      clear hd
      rw [h10]
      go_wp2
      exact ⟨_, (by simp [upd, h10]; done), Below.refl _ _, D10, d10, rfl, o10⟩
    | 12, _ =>
      obtain ⟨D11, d11, h11, o11⟩ := hd 11 (List.elem_iff.1 (by kernel_rfl))
      refine wpOp_one rfl ?_
      clear hd
      rw [h11]
      go_wp2
      exact ⟨_, (by simp [upd, h11]; done), Below.refl _ _, D11, d11, rfl, o11⟩
    | 13, _ =>
      obtain ⟨D11, d11, h11, o11⟩ := hd 11 (List.elem_iff.1 (by kernel_rfl))
      refine wpOp_one rfl ?_
      clear hd
      rw [h11]
      go_wp2
      first | exact ⟨_, (by simp [upd, h11]; done), Below.refl _ _, rfl⟩ | exact ⟨(by simp [upd, h11]; done), Below.refl _ _⟩
    | 14, _ =>
      obtain ⟨D11, d11, h11, o11⟩ := hd 11 (List.elem_iff.1 (by kernel_rfl))
      refine wpOp_one rfl ?_
      clear hd
      rw [h11]
      go_wp2
      first | exact ⟨_, (by simp [upd, h11]; done), Below.refl _ _, rfl⟩ | exact ⟨(by simp [upd, h11]; done), Below.refl _ _⟩
    | 15, _ =>
      obtain ⟨D12, d12, h12, o12⟩ := hd 12 (List.elem_iff.1 (by kernel_rfl))
      refine wpOp_one rfl ?_
      clear hd
      rw [h12]
      go_wp2
      exact ⟨_, (by simp [upd, h12]; done), Below.refl _ _, D12, d12, rfl, o12⟩
    | 16, _ =>
      have h13 : v 13 = _ := hd 13 (List.elem_iff.1 (by kernel_rfl))
      obtain ⟨D15, d15, h15, o15⟩ := hd 15 (List.elem_iff.1 (by kernel_rfl))
      refine wpOp_one rfl ?_
      clear hd
      rw [h13, h15]
      go_wp2
      first | exact ⟨_, (by simp [upd, h13, h15]; done), Below.refl _ _, rfl⟩ | exact ⟨(by simp [upd, h13, h15]; done), Below.refl _ _⟩
    | k + 17, hk => exact absurd hk (by omega)
  case done =>
    intro v w1 hb hf
    obtain ⟨D, d, h15, o12⟩ := hf 15 (by omega)
    have h16 : v 16 = _ := hf 16 (by omega)
    have h14 : v 14 = _ := hf 14 (by omega)
    clear hf
    have hBq := HB.out.later hb
    have hOq := HO.out.later hb
    have r1 := hBq.cell (i := 1) rfl
    have r2 := hBq.cell (i := 2) rfl
    have f1 := hBq.free 1
    have f2 := hBq.free 2
    have HBQ := Lib.hid hBq
    have HOQ := Lib.hid hOq
    have HD := Lib.hid o12
    clear hBq hOq o12
    have DONE : RdRow g (some ad) c l most (some a) w (.returned (.slice D q.length d)) ((w1.setCell ⟨g, 1, none⟩ (.int .i64 ((a : Int) + (kn : Int)))).setCell ⟨g, 2, none⟩ (.bool (e0 != 0))) := by
      rw [show (a : Int) + (kn : Int) = ((a + kn : Nat) : Int) from by omega]
      have HPN : Wi.prow l most a = if e0 = 0 then some (q, a + kn) else none := by
        unfold Wi.prow
        rw [HRW.out]
        rfl
      have st := ((Only.of_below g hb).set 1 (.int .i64 ((a + kn : Nat) : Int))).set 2 (.bool (e0 != 0))
      by_cases he : e0 = 0
      · have q1 := RdAt.puts HBQ.out HOQ.out (a + kn) (by have := HKN.out he; first | omega | (simp; omega)) (e0 != 0)
        rw [if_pos he] at HPN
        refine ⟨D, d, q, rfl, HD.out.only (((Only.refl g w1).set 1 _).set 2 _) HBQ.out rd_noU8s, ?_, st, fun x y hx => ?_⟩
        · have hn : Wi.nxt (Wi.prow l most) (some a) = some (a + kn) := by
            show ((Wi.prow _ _ _).map (·.2)) = _
            rw [HPN]
            rfl
          rw [hn]
          have hd : (e0 != 0) = false := by rw [he]; rfl
          rw [hd] at q1 ⊢
          exact q1
        · have : Wi.prow l most a = some (x, y) := hx
          rw [HPN] at this
          cases this
          rfl
      · have hz := HKZ.out he
        subst hz
        have q1 := RdAt.puts HBQ.out HOQ.out (a + 0) (by have := ha; first | omega | simp) (e0 != 0)
        rw [if_neg he] at HPN
        refine ⟨D, d, q, rfl, HD.out.only (((Only.refl g w1).set 1 _).set 2 _) HBQ.out rd_noU8s, ?_, st, fun x y hx => ?_⟩
        · have hn : Wi.nxt (Wi.prow l most) (some a) = none := by
            show ((Wi.prow _ _ _).map (·.2)) = _
            rw [HPN]
            rfl
          rw [hn]
          have hd : (e0 != 0) = true := bne_iff_ne.2 he
          rw [hd] at q1 ⊢
          exact q1
        · have : Wi.prow l most a = some (x, y) := hx
          rw [HPN] at this
          cases this
    have hbnd : kn + a ≤ 9223372036854775807 := by
      have hl9 := HO.out.len
      by_cases he : e0 = 0
      · have := HKN.out he
        omega
      · have := HKZ.out he
        omega
    have DN := Lib.hid DONE
    clear DONE
    go_wp2
    go_ret
    exact DN.out

theorem rdrow_any (g : Nat) (A : Option Addr) (c : Nat) (l : List Int) (most : Int) (s : Option Nat) (w : World) (hl : l.length ≤ 140737488355328) (h : RdAt w g A c l s) :
    Calls Try.prog 74 #[.pointer (some ⟨g, 0, none⟩), .int .i64 most] w (RdRow g A c l most s w) := by
  obtain ⟨a, b, hB, hO, ha, rfl⟩ := h
  cases b with
  | true => exact rdrow_bad g A c l most a w hB hO ha
  | false =>
    cases A with
    | none =>
      obtain ⟨hl0, hc0⟩ := hO.noA rfl
      have hln : l = [] := List.eq_nil_of_length_eq_zero hl0
      have ha0 : a = 0 := by omega
      subst hln hc0 ha0
      exact rdrow_none g most w hB hO
    | some ad =>
      by_cases hca : c = a
      · subst hca
        have := hO.le
        exact rdrow_end g ad c l most w (by omega) hB hO
      · exact rdrow_else g ad c l most a w hl hca ha hB hO

end Go.Proofs.Ytbbmngabbbehcaa
