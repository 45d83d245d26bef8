/-
  SpanJoins walked from span's contracts.
-/
import Derived.Test.YtnnmcnbpnfegpaaSpLawTwos
import Derived.Test.YtnnmcnbpnfegpaaOwnMore
namespace Go.Proofs.Ytnnmcnbpnfegpaa
open Go.RowKit

theorem infoLs : (Try.prog.info? 22).map (fun i => (i.zero, i.size, i.bytes)) = some (some (.slice none 0 0), 1, 24) := by kernel_rfl

/-- The first k lists, each copied to memory of the call's own. -/
def Owns (w : World) (base : Nat) (v : Value) (ls : List (List (Int × Int))) (k : Nat) : Prop :=
  ∃ cs : List (Option Addr × Nat), cs.length = k ∧ w.ownsRow base 22 1 v k (rowCells cs ls) ∧
    ∀ j, j < k → w.ownsRow base 44 2 (.slice (cs.getD j (none, 0)).1 (ls.getD j []).length (cs.getD j (none, 0)).2) (ls.getD j []).length (stCells (ls.getD j []))
theorem Owns.rows {w : World} {base : Nat} {v : Value} {ls : List (List (Int × Int))} (h : Owns w base v ls ls.length) : ∃ A c, v = .slice A ls.length c ∧ ls.length ≤ c ∧ c ≤ maxLen ∧ (A = none → ls.length = 0 ∧ c = 0) ∧ Rows w A ls := by
  obtain ⟨cs, hl, ho, hj⟩ := h
  obtain ⟨A, c, rfl, h1, h2, h3, h4⟩ := own_form ho
  refine ⟨A, c, rfl, h1, h2, h3, fun hne => ?_⟩
  have hpos : 0 < ls.length := List.length_pos_iff.2 hne
  obtain ⟨b, off, rfl, hc⟩ := h4 (fun e => by have := rowCells_get cs ls 0 (by omega) hpos; rw [e] at this; simp at this)
  refine ⟨b, off, rfl, fun k hk => ?_⟩
  obtain ⟨A', c', e', hO⟩ := OneL.of_own (hj k hk)
  exact ⟨A', c', (hc k _ (rowCells_get cs ls k (by omega) hk)).trans (by rw [e']), hO⟩

set_option maxRecDepth 100000 in
set_option maxHeartbeats 3200000 in
theorem lawJoins_any (S : SpanSpec) (A : Option Addr) (c : Nat) (ls : List (List (Int × Int))) (w : World) (hl : ls.length ≤ 9223372036854775807) (hls : ∀ k, k < ls.length → (ls.getD k []).length * 16 ≤ 140737488355328) (h1 : Rows w A ls) :
    Calls Try.prog 5 #[.slice A ls.length c] w (Says (.bool true) w) := by
  obtain ⟨i0, hi, hz0, hz1, hz2⟩ := info_parts infoLs
  have n0 := salive_any S
  have N0 := Lib.hid n0
  have H1 := Lib.hid h1
  clear n0 h1
  by_cases h100 : 100 < ls.length
  · have hd : decide ((100 : Int) < (ls.length : Int)) = true := decide_eq_true (by omega)
    go_enter Try.func5, Try.ntmps5
    go_wp2_with fail
    refine (N0.out _).mono ?_
    rintro e w1 ⟨rfl, b1⟩
    go_wp2
    go_ret
    exact ⟨rfl, b1⟩
  have hd : decide ((100 : Int) < (ls.length : Int)) = false := decide_eq_false (by omega)
  go_enter Try.func5, Try.ntmps5
  go_wp2_with fail
  refine (N0.out _).mono ?_
  rintro e w1 ⟨rfl, b1⟩
  clear N0
  have hz1' := b1.size
  go_wp2_with fail
  go_loopw [3, 4] (fun s3 s4 wr => ∃ k : Nat, k ≤ ls.length ∧ s4 = .int .i64 (k : Int) ∧ Owns wr w.heap.size s3 ls k ∧ Below w.heap.size w wr) (fun _ s4 _ => ls.length - (intOf s4).toNat)
  case atStart => exact ⟨0, Nat.zero_le _, rfl, ⟨[], rfl, ⟨rfl, .inl ⟨rfl, rfl⟩⟩, fun j hj => by omega⟩, b1⟩
  case round =>
    obtain ⟨k, hk, rfl, hO, hbw⟩ := hrel
    by_cases hlt : k < ls.length
    · have hne : ls ≠ [] := fun e => by subst e; simp at hlt
      obtain ⟨b, off, hA, hcA⟩ := (H1.out.later hbw) hne
      obtain ⟨A', c', e0, hL⟩ := hcA k hlt
      have hsz := hls k hlt
      have n1 := scopy_any A' c' (ls.getD k []) wr hsz hL.2.2.1 hL.2.2.2
      have H1' := H1
      subst hA
      have hi0 : (0 : Int) ≤ (k : Int) := by omega
      have hi1 : (k : Int) < (ls.length : Int) := by omega
      obtain ⟨cs, hcl, hrow, hcop⟩ := hO
      have HC := Lib.hid hcop
      have HR := Lib.hid hrow
      have N1 := Lib.hid n1
      clear hcA hL n1 hcop hrow hsz
      obtain ⟨m, hm⟩ : ∃ m, (ls.getD k []).length = m := ⟨_, rfl⟩
      rw [hm] at e0 N1
      have HM := Lib.hid hm
      clear hm
      go_wp2_with fail
      refine N1.out.mono ?_
      rintro e w2 ⟨v, rfl, ho, b2⟩
      obtain ⟨B, d, rfl, ho1⟩ := OneL.of_own ho
      rw [HM.out] at ho
      have hbx := below_on hbw b2
      have hz2' := hbx.size
      have hz3 := hbw.size
      have r2 := own_later HR.out b2
      have c2 := fun j hj => own_later (HC.out j hj) b2
      rw [HM.out]
      have HO := Lib.hid ho
      have HC2 := Lib.hid c2
      clear HC HR N1 ho ho1 c2 b2
      go_wp2_with (at_builtin; refine wpList_append_lies _ rfl _ _ 33 rfl w.heap.size 22 i0 (.slice none 0 0) 1 24 Try.underlying33 hi hz0 hz1 hz2 rfl (by decide) _ k (rowCells cs ls) rfl (r2.alloc _) (some ⟨w2.heap.size, 0, none⟩) 1 1 (fun h => by cases h) [.slice B m d] rfl rfl ?c1 ?c2 ?c3 ?c4 ?c5 ?_)
      case c1 =>
        intro _
        refine ⟨w2.heap.size, 0, rfl, fun j u hu => ?_⟩
        rw [Nat.zero_add]
        exact (Blk.new w2 22 #[.slice B m d]).cell (by simpa using hu)
      case c2 => intro u hu; simp at hu; subst hu; rfl
      case c3 => unfold maxLen; omega
      case c4 => omega
      case c5 => simp; omega
      intro v' w3 hown1 hg1 _
      have hb3 : Below w.heap.size w w3 := (below_new hbx _).grown hg1 (by simp; omega) (fun k' hk' => by have := own_ge r2 _ hk'; omega)
      have hOw : Owns w3 w.heap.size v' ls (k + 1) := by
        refine ⟨cs ++ [(B, d)], by simp [hcl], ?_, fun j hj => ?_⟩
        · rw [rowCells_snoc cs (B, d) ls (by omega), hcl, HM.out]
          exact hown1
        · have far : ∀ {v2 : Value} {n2 : Nat} {xs2 : List Value}, w2.ownsRow w.heap.size 44 2 v2 n2 xs2 → w3.ownsRow w.heap.size 44 2 v2 n2 xs2 := fun {v2 n2 xs2} hx => by
            have hx' := hx.alloc (.cells #[.slice B m d] 22)
            exact own_stays hx' (fun q hq => hg1.block q (own_lt hx' q hq) (own_apart hx' (r2.alloc (.cells #[.slice B m d] 22)) (by decide) q hq))
          by_cases hjk : j < k
          · rw [show (cs ++ [(B, d)]).getD j (none, 0) = cs.getD j (none, 0) from by
              rw [List.getD_eq_getElem?_getD, List.getD_eq_getElem?_getD, List.getElem?_append_left (by omega)]]
            exact far (HC2.out j hjk)
          · have e : j = k := by omega
            subst e
            rw [show (cs ++ [(B, d)]).getD j (none, 0) = (B, d) from by
              rw [List.getD_eq_getElem?_getD, List.getElem?_append_right (by omega), hcl, Nat.sub_self]; rfl]
            rw [HM.out]
            have := HO.out
            exact far (own_base this (by omega))
      have HOW := Lib.hid hOw
      clear hown1 hg1 hOw r2 HO HC2
      go_wp2_with fail
      go_roundw
      case rel => exact ⟨k + 1, by omega, by go_num, HOW.out, hb3⟩
      case measure => simp [intOf]; omega
    · have hkl : k = ls.length := by omega
      subst hkl
      obtain ⟨A2, c2, rfl, q1, q2, q3, hR⟩ := hO.rows
      have htot : Sp.tot ls ≤ 9223372036854775807 := by
        have h8 := Sp.tot_le 8796093022208 ls (fun k hk => by have := hls k hk; omega)
        have h9 : ls.length * 8796093022208 ≤ 100 * 8796093022208 := Nat.mul_le_mul_right _ (by omega)
        omega
      have j1 := S.join A2 c2 ls wr q1 q2 q3 htot hR
      have hl1 := H1.out.later hbw
      have J1 := Lib.hid j1
      have HR := Lib.hid hR
      have HL := Lib.hid hl1
      clear j1 hR hl1 hO q3 H1
      go_wp2_with fail
      refine J1.out.mono ?_
      rintro e w2 ⟨D, d, rfl, oj, b2⟩
      have hR3 := HR.out.later b2
      have hL3 := HL.out.later b2
      have hb3 := below_on hbw b2
      have OJ3 := Lib.hid oj
      have HR3 := Lib.hid hR3
      have HL3 := Lib.hid hL3
      clear J1 b2 hR3 hL3 oj HR HL hbw
      go_wp2_with fail
      go_loopw [6] (fun s6 wr => ∃ k : Nat, k ≤ ls.length ∧ s6 = .int .i64 (k : Int) ∧ Below w2.heap.size w2 wr) (fun s6 _ => ls.length - (intOf s6).toNat)
      case atStart => exact ⟨0, Nat.zero_le _, rfl, Below.refl _ _⟩
      case round =>
        obtain ⟨k, hk, rfl, hbq⟩ := hrel
        by_cases hlt : k < ls.length
        · have hne : ls ≠ [] := fun e => by subst e; simp at hlt
          obtain ⟨b, off, hA, hcA⟩ := (HL3.out.later hbq) hne
          obtain ⟨b', off', hB, hcB⟩ := (HR3.out.later hbq) hne
          obtain ⟨A', c', e0, hL⟩ := hcA k hlt
          obtain ⟨B', d', f0, hM⟩ := hcB k hlt
          have HL3' := HL3
          have HR3' := HR3
          subst hA
          subst hB
          have hi0 : (0 : Int) ≤ (k : Int) := by omega
          have hi1 : (k : Int) < (ls.length : Int) := by omega
          have k0 : ∀ r os, (Sort.grow (redrawn wr r) os).cell? ⟨b, off + k, none⟩ = some (.slice A' (ls.getD k []).length c') := cell_regrown e0
          have k1 : ∀ r os, (Sort.grow (redrawn wr r) os).cell? ⟨b', off' + k, none⟩ = some (.slice B' (ls.getD k []).length d') := cell_regrown f0
          have cS : ∀ r os, Calls Try.prog 17 #[.slice B' (ls.getD k []).length d', .slice A' (ls.getD k []).length c'] (Sort.grow (redrawn wr r) os) fun e w'' => e = .returned (.bool true) ∧ ∃ p : Regrown, w'' = Sort.grow (redrawn wr p.d) p.os := fun r os => Calls.regrown_of (ssame_self B' A' d' c' _ _ (hM.later (below_regrown wr r os)) (hL.later (below_regrown wr r os)))
          obtain ⟨m, hm⟩ : ∃ m, (ls.getD k []).length = m := ⟨_, rfl⟩
          rw [hm] at k0 k1 cS
          have CS := Lib.hid cS
          clear cS e0 f0 hcA hcB hL hM hm
          go_wp2_with fail
          refine wp_region_quiet_below (by kernel_rfl) (by kernel_rfl) ?_
          repeat (first | go_big_quiet_step (exact CS.out _ _) | quiet_step (exact CS.out _ _))
          refine wpQuiet_nil ?_
          intro _ hw'
          obtain ⟨⟨dq, osq⟩, hw''⟩ := hw'
          subst hw''
          go_wp2_with fail
          go_roundw
          case rel => exact ⟨k + 1, by omega, by go_num, below_on hbq (below_regrown wr dq osq)⟩
          case measure => simp [intOf]; omega
        · have hkl : k = ls.length := by omega
          subst hkl
          have m1 := fun wx (hb : Below wr.heap.size wr wx) => sjoin_any A c ls wx hl ((HL3.out.later hbq).later hb)
          have oj4 := OJ3.out.later hbq
          have hfm : Sp.fmd (Sp.joinS ls) = true := Sp.fmd_ofL _
          obtain ⟨J, hJ⟩ : ∃ J, Sp.joinS ls = J := ⟨_, rfl⟩
          rw [hJ] at m1 oj4 hfm
          have eJ : (Sp.joinS ls).length = J.length := by rw [hJ]
          rw [eJ]
          have n1 := fun wx (hb : Below wr.heap.size wr wx) => S.formed D d J wx (oj4.later hb)
          rw [hfm] at n1
          have M1 := Lib.hid m1
          have NF := Lib.hid n1
          have OJ4 := Lib.hid oj4
          clear m1 n1 oj4 hJ hfm eJ OJ3 HL3 HR3
          have hb := Below.refl wr.heap.size wr
          go_wp2_with fail
          refine (M1.out _ hb).mono ?_
          rintro e w4 hg
          obtain ⟨G, g, rfl, o4, b4⟩ := hg.ans
          replace hb := below_on hb b4
          have O4 := Lib.hid o4
          clear hg o4 b4
          go_wp2_with fail
          refine (ssame_self D G d g J _ (OJ4.out.later hb) O4.out).mono ?_
          rintro e w5 ⟨rfl, b5⟩
          replace hb := below_on hb b5
          clear b5
          go_wp2_with fail
          refine (NF.out _ hb).mono ?_
          rintro e w6 ⟨rfl, b6⟩
          replace hb := below_on hb b6
          go_wp2
          go_ret
          exact ⟨rfl, below_on hb3 (below_on hbq hb)⟩

end Go.Proofs.Ytnnmcnbpnfegpaa
