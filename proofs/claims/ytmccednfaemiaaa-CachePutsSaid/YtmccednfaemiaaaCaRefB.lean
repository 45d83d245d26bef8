/-
  What telltaleref12's Forget, Get and Formed answer.
-/
import Derived.Test.YtmccednfaemiaaaCaRefA
import Derived.Test.YtmccednfaemiaaaSpRefSet
import Derived.WalkSmall
namespace Go.Proofs.Ytmccednfaemiaaa
open Go.RowKit Fb

namespace Ca
theorem forget_yes {L : List Bc} {k : Nat} {o : Int} (h : k < L.length) (hx : (L.getD k Bc.zero).b.o ≠ o) : forget ((L.take (k + 1)).map Bc.b) o = forget ((L.take k).map Bc.b) o ++ [(L.getD k Bc.zero).b] := by
  rw [take_snoc h]
  unfold forget
  rw [List.filter_append, List.filter_cons, if_pos (by rw [Bool.not_eq_true', decide_eq_false_iff_not]; exact hx)]
  rfl
theorem forget_no {L : List Bc} {k : Nat} {o : Int} (h : k < L.length) (hx : (L.getD k Bc.zero).b.o = o) : forget ((L.take (k + 1)).map Bc.b) o = forget ((L.take k).map Bc.b) o := by
  rw [take_snoc h]
  unfold forget
  rw [List.filter_append, List.filter_cons, if_neg (by rw [decide_eq_true hx]; exact Bool.false_ne_true)]
  simp
/-- Is it the body that is looked for? -/
abbrev isAt (x : Bd) (o c n : Int) : Prop := x.o = o ∧ x.c = c ∧ x.n = n
theorem get_yes {L : List Bc} {k : Nat} {o c n : Int} (h : k < L.length) (hb : ∀ j, j < k → ¬ isAt (L.getD j Bc.zero).b o c n) (hx : isAt (L.getD k Bc.zero).b o c n) : getR (L.map Bc.b) o c n = ((L.getD k Bc.zero).b.v, 0) := by
  have : find (L.map Bc.b) o c n = some (L.getD k Bc.zero).b := by
    unfold find
    rw [List.find?_eq_some_iff_getElem]
    refine ⟨decide_eq_true hx, k, by simpa using h, by rw [List.getElem_map, ← getD_lt h], fun j hj => ?_⟩
    have := hb j hj
    rw [List.getElem_map, ← getD_lt (by omega)]
    simp only [Bool.not_eq_true', decide_eq_false_iff_not]
    exact this
  unfold getR; rw [this]
theorem get_no {L : List Bc} {o c n : Int} (hb : ∀ j, j < L.length → ¬ isAt (L.getD j Bc.zero).b o c n) : getR (L.map Bc.b) o c n = ([], 10) := by
  have : find (L.map Bc.b) o c n = none := by
    unfold find
    rw [List.find?_eq_none]
    intro x hx e
    obtain ⟨z, hz, rfl⟩ := List.mem_map.1 hx
    obtain ⟨j, hj, rfl⟩ := List.mem_iff_getElem.1 hz
    have := hb j hj
    rw [getD_lt hj] at this
    exact this (of_decide_eq_true e)
  unfold getR; rw [this]
/-- Which objects are among the first k. -/
def seen (L : List Bc) (k j : Nat) : Bool := (L.take k).any fun z => decide (z.b.o = (j : Int))
theorem seen_succ {L : List Bc} {k : Nat} (h : k < L.length) (j : Nat) : seen L (k + 1) j = (seen L k j || decide ((L.getD k Bc.zero).b.o = (j : Int))) := by
  unfold seen
  rw [List.take_succ_eq_append_getElem h, List.any_append, getD_lt h]
  simp
theorem map_getD (L : List Bc) (k : Nat) : (L.map Bc.b).getD k Bd.zero = (L.getD k Bc.zero).b := by
  rw [List.getD_eq_getElem?_getD, List.getD_eq_getElem?_getD, List.getElem?_map]
  cases L[k]? <;> rfl
theorem ok_seen {L : List Bc} {k : Nat} (h : k < L.length) (o : Nat) (ho : (L.getD k Bc.zero).b.o = (o : Int)) : ok (L.map Bc.b) k ↔ (Wi.bright (L.getD k Bc.zero).b = true ∧ seen L k o = false) := by
  unfold ok seen
  rw [map_getD, List.any_eq_false]
  constructor
  · rintro ⟨h1, h2⟩
    refine ⟨h1, fun z hz e => ?_⟩
    obtain ⟨i, hi, rfl⟩ := List.mem_iff_getElem.1 hz
    rw [List.length_take] at hi
    have h3 := h2 i (by omega)
    rw [map_getD, getD_lt (show i < L.length by omega)] at h3
    rw [List.getElem_take] at e
    exact h3 ((of_decide_eq_true e).trans ho.symm)
  · rintro ⟨h1, h2⟩
    refine ⟨h1, fun i hi e => ?_⟩
    have h4 : i < (L.take k).length := by rw [List.length_take]; omega
    refine h2 _ (List.getElem_mem h4) ?_
    rw [List.getElem_take]
    rw [map_getD, getD_lt (show i < L.length by omega)] at e
    exact decide_eq_true (e.trans ho)
theorem right_obj {x : Bd} (h : Wi.bright x = true) : 0 ≤ x.o ∧ x.o ≤ 255 ∧ x.v.length ≤ 256 := by
  unfold Wi.bright at h
  simp only [Bool.and_eq_true, decide_eq_true_eq] at h
  exact ⟨h.1, h.2.1, h.2.2.2⟩
theorem used_right : ∀ {l : List Bd}, (∀ x ∈ l, x.v.length ≤ 256) → used l ≤ l.length * 256
  | [], _ => Nat.zero_le _
  | x :: r, h => by
    have h1 := used_right (l := r) fun y hy => h y (List.mem_cons_of_mem _ hy)
    have h2 := h x List.mem_cons_self
    simp only [used, List.length_cons]
    omega
theorem used_oks {L : List Bc} (h : ∀ j, j < L.length → ok (L.map Bc.b) j) : used (L.map Bc.b) ≤ L.length * 256 := by
  have h1 := used_right (l := L.map Bc.b) (fun x hx => by
    obtain ⟨z, hz, rfl⟩ := List.mem_map.1 hx
    obtain ⟨j, hj, rfl⟩ := List.mem_iff_getElem.1 hz
    have h2 := (h j hj).1
    rw [map_getD, getD_lt hj] at h2
    exact (right_obj h2).2.2)
  rwa [List.length_map] at h1
end Ca
/-- Bytes and an error's number are answered; the bytes in memory of the call's own. -/
def GivesVE (l : List Int) (k : Int) (w : World) (e : Ending) (w' : World) : Prop :=
  ∃ v, e = .returned (.tuple #[v, .int .i64 k]) ∧ w'.ownsRow w.heap.size 5 1 v l.length (bCells l) ∧ Below w.heap.size w w'

set_option maxRecDepth 100000 in
set_option maxHeartbeats 3200000 in
theorem cforget_any (A : Option Addr) (c : Nat) (L : List Bc) (o : Int) (w : World) (h : OneC w A c L) (hf : Fits L) :
    Calls Try.prog 17 #[.slice A L.length c, .int .i64 o] w fun e w' => ∃ v M, e = .returned v ∧ M.map Bc.b = Ca.forget (L.map Bc.b) o ∧ OwnRC w' w.heap.size 38 5 v M ∧ Below w.heap.size w w' := by
  obtain ⟨i0, hI, hZ0, hZ1, hZ2⟩ := info_parts infoBdy
  have hn := hf.n
  have HL := Lib.hid h
  have HZ := Lib.hid hf.each
  have HY := Lib.hid (fun k hk hx => Ca.forget_yes (L := L) (k := k) (o := o) hk hx)
  have HN := Lib.hid (fun k hk hx => Ca.forget_no (L := L) (k := k) (o := o) hk hx)
  clear h hf
  go_enter Try.func17, Try.ntmps17
  go_wp2_with fail
  go_loopw [5, 6] (fun s5 s6 wr => ∃ (k : Nat) (M : List Bc), k ≤ L.length ∧ s6 = .int .i64 (k : Int) ∧ M.map Bc.b = Ca.forget ((L.take k).map Bc.b) o ∧ OwnRC wr w.heap.size 38 5 s5 M ∧ Below w.heap.size w wr) (fun _ s6 _ => L.length - (intOf s6).toNat)
  case atStart => exact ⟨0, [], Nat.zero_le _, rfl, rfl, OwnRC.nil _ _ _ _, Below.refl _ _⟩
  case round =>
    obtain ⟨k, M, hk, rfl, hM, hR, hbw⟩ := hrel
    by_cases hlt : k < L.length
    · have hml : M.length ≤ k := by
        have h1 := congrArg List.length hM
        have h2 := Ca.forget_len ((L.take k).map Bc.b) o
        rw [List.length_map] at h1
        rw [List.length_map, List.length_take] at h2
        omega
      have hne : L ≠ [] := fun e => by subst e; simp at hlt
      obtain ⟨b, off, hA, hcs⟩ := (HL.out.later hbw).at hne
      obtain ⟨e0, e1, e2, e3⟩ := hcs k hlt
      have hxb := (HL.out.later hbw).each _ (Ca.getD_mem hlt)
      have hxz := HZ.out _ (Ca.getD_mem hlt)
      have hty := HY.out k hlt
      have htn := HN.out k hlt
      subst hA
      have hi0 : (0 : Int) ≤ (k : Int) := by omega
      have hi1 : (k : Int) < (L.length : Int) := by omega
      obtain ⟨x, hx⟩ : ∃ x, L.getD k Bc.zero = x := ⟨_, rfl⟩
      rw [hx] at e0 e1 e2 e3 hxb hxz hty htn
      obtain ⟨X, d, ⟨x0, x1, x2, v⟩⟩ := x
      dsimp only at e0 e1 e2 e3 hxb hxz hty htn
      obtain ⟨VA, vc, hvv, -, -, -, -⟩ := own_form hR.row
      subst hvv
      have HM := Lib.hid hM
      have HR := Lib.hid hR
      have BW := Lib.hid hbw
      have HIB := Lib.hid hxb.byte
      by_cases hd : x0 = o
      · have hd1 : (x0 != o) = false := by rw [bne_eq_false_iff_eq]; exact hd
        have HTN := Lib.hid (htn hd)
        clear hcs hx hxb hxz hty htn hM hR hbw hd
        go_wp2_with fail
        go_roundw
        case rel => exact ⟨k + 1, M, by omega, by go_num, by rw [HTN.out]; exact HM.out, HR.out, BW.out⟩
        case measure => simp [intOf]; omega
      have hd1 : (x0 != o) = true := by rw [bne_iff_ne]; exact hd
      have HTS := Lib.hid (hty hd)
      have NB := Lib.hid (show Calls Try.prog 18 #[.agg #[.int .i64 x0, .int .i64 x1, .int .i64 x2, .slice X v.length d]] wr (GivesBd ⟨x0, x1, x2, v⟩ wr) from cbody_any X d ⟨x0, x1, x2, v⟩ wr hxz hxb)
      clear hcs hx hxb hxz hty htn hM hR hbw hd
      go_wp2_with fail
      refine NB.out.mono ?_
      rintro e w2 ⟨Y, dy, rfl, hoy, b2⟩
      unfold bdCells
      dsimp only at hoy ⊢
      have bz := below_new (Below.refl w2.heap.size w2) (.cells #[.int .i64 x0, .int .i64 x1, .int .i64 x2, .slice Y v.length dy] 38)
      have hR2 := HR.out.later (below_on b2 bz)
      have hoy2 := own_later (own_base hoy BW.out.size) bz
      have hbw2 := below_on (below_on BW.out b2) bz
      have hszw := hbw2.size
      have hy1 : Lies (w2.alloc (.cells #[.int .i64 x0, .int .i64 x1, .int .i64 x2, .slice Y v.length dy] 38)) (some ⟨w2.heap.size, 0, none⟩) (Ca.cell ⟨Y, dy, ⟨x0, x1, x2, v⟩⟩) := fun _ => ⟨w2.heap.size, 0, rfl, fun j u hu => by
        rw [Nat.zero_add]
        exact (Blk.new w2 38 #[.int .i64 x0, .int .i64 x1, .int .i64 x2, .slice Y v.length dy]).cell (by simpa [Ca.cell] using hu)⟩
      have HR2 := Lib.hid hR2
      have HO2 := Lib.hid hoy2
      have hrow := hR2.row
      clear b2 hR2 hoy2 hoy NB
      go_wp2_with (at_builtin; refine Go.Proofs.Ytmccednfaemiaaa.wpList_append_lies _ rfl _ _ 22 rfl w.heap.size 38 i0 (.agg #[.int .i64 0, .int .i64 0, .int .i64 0, .slice none 0 0]) 4 48 Try.underlying22 hI hZ0 hZ1 hZ2 rfl (by decide) _ M.length (Ca.cells M) rfl hrow (some ⟨w2.heap.size, 0, none⟩) 1 1 (fun h => by cases h) (Ca.cell ⟨Y, dy, ⟨x0, x1, x2, v⟩⟩) rfl rfl hy1 (by intro u hu; simp [Ca.cell] at hu; rcases hu with rfl | rfl | rfl | rfl <;> rfl) ?h63 ?hbytes hszw ?_)
      case h63 => unfold maxLen; omega
      case hbytes => omega
      intro v' wz hownz hgz _
      have bwz : Below w.heap.size w wz := hbw2.grown hgz (by omega) (fun r e => own_ge hrow r e)
      have hRz := HR2.out.snoc (by decide) hgz ⟨Y, dy, ⟨x0, x1, x2, v⟩⟩ HO2.out HIB.out hownz
      obtain ⟨gv, capv, rfl⟩ := ownsRow_succ hownz
      have HQ := Lib.hid (And.intro hRz bwz)
      clear hownz hgz hrow hy1 bwz hRz hbw2 bz
      go_wp2_with fail
      go_roundw
      case rel => exact ⟨k + 1, M ++ [⟨Y, dy, ⟨x0, x1, x2, v⟩⟩], by omega, by go_num, by rw [List.map_append, HM.out, HTS.out]; rfl, HQ.out.1, HQ.out.2⟩
      case measure => simp [intOf]; omega
    · obtain rfl : k = L.length := by omega
      rw [List.take_length] at hM
      have HR := Lib.hid hR
      obtain ⟨VA, vc, hvv, -, -, -, -⟩ := own_form hR.row
      subst hvv
      have HM := Lib.hid hM
      have BW := Lib.hid hbw
      clear hM hR hbw
      go_wp2
      go_ret
      exact ⟨_, M, rfl, HM.out, HR.out, BW.out⟩

set_option maxRecDepth 100000 in
set_option maxHeartbeats 3200000 in
theorem cget_any (A : Option Addr) (c : Nat) (L : List Bc) (o sc sn : Int) (w : World) (h : OneC w A c L) (hf : Fits L) :
    Calls Try.prog 11 #[.slice A L.length c, .int .i64 o, .agg #[.int .i64 sc, .int .i64 sn]] w (GivesVE (Ca.getR (L.map Bc.b) o sc sn).1 (Ca.getR (L.map Bc.b) o sc sn).2 w) := by
  have hn := hf.n
  have HL := Lib.hid h
  have HZ := Lib.hid hf.each
  have HY := Lib.hid (fun k hk hb hx => Ca.get_yes (L := L) (k := k) (o := o) (c := sc) (n := sn) hk hb hx)
  have HN := Lib.hid (fun hb => Ca.get_no (L := L) (o := o) (c := sc) (n := sn) hb)
  obtain ⟨R, hR⟩ : ∃ R, Ca.getR (L.map Bc.b) o sc sn = R := ⟨_, rfl⟩
  rw [hR] at HY HN ⊢
  have b0 := below_new (Below.refl w.heap.size w) (.cells #[.int .i64 sc, .int .i64 sn] 24)
  have B0 := Blk.new w 24 #[.int .i64 sc, .int .i64 sn]
  obtain ⟨W, hW⟩ : ∃ W, w.alloc (.cells #[.int .i64 sc, .int .i64 sn] 24) = W := ⟨_, rfl⟩
  rw [hW] at b0 B0
  have HW := Lib.hid hW
  have HB := Lib.hid b0
  have HS := Lib.hid B0
  clear h hf hR hW b0 B0
  go_enter Try.func11, Try.ntmps11
  go_wp2_with fail
  rw [HW.out]
  go_loopw [8] (fun s8 wr => ∃ k : Nat, k ≤ L.length ∧ s8 = .int .i64 (k : Int) ∧ (∀ j, j < k → ¬ Ca.isAt (L.getD j Bc.zero).b o sc sn) ∧ Below W.heap.size W wr) (fun s8 _ => L.length - (intOf s8).toNat)
  case atStart => exact ⟨0, Nat.zero_le _, rfl, fun j hj => by omega, Below.refl _ _⟩
  case round =>
    obtain ⟨k, hk, rfl, hno, hbw⟩ := hrel
    by_cases hlt : k < L.length
    · have hne : L ≠ [] := fun e => by subst e; simp at hlt
      have hbb := below_on HB.out hbw
      obtain ⟨b, off, hA, hcs⟩ := (HL.out.later hbb).at hne
      obtain ⟨e0, e1, e2, e3⟩ := hcs k hlt
      have hxb := (HL.out.later hbb).each _ (Ca.getD_mem hlt)
      have hxz := HZ.out _ (Ca.getD_mem hlt)
      have hy := HY.out k hlt hno
      have HL' := HL
      subst hA
      have hi0 : (0 : Int) ≤ (k : Int) := by omega
      have hi1 : (k : Int) < (L.length : Int) := by omega
      have hS := HS.out.later hbw
      have s0 := hS.cell (i := 0) rfl
      have s1 := hS.cell (i := 1) rfl
      obtain ⟨x, hx⟩ : ∃ x, L.getD k Bc.zero = x := ⟨_, rfl⟩
      rw [hx] at e0 e1 e2 e3 hxb hxz hy
      obtain ⟨X, d, ⟨x0, x1, x2, v⟩⟩ := x
      dsimp only at e0 e1 e2 e3 hxb hxz hy
      have HX := Lib.hid hx
      have HNO := Lib.hid hno
      have BW := Lib.hid hbw
      have BB := Lib.hid hbb
      have XB := Lib.hid hxb
      have hnext : ¬ Ca.isAt ⟨x0, x1, x2, v⟩ o sc sn → ∀ j, j < k + 1 → ¬ Ca.isAt (L.getD j Bc.zero).b o sc sn := fun h1 j hj => by
        by_cases e : j = k
        · subst e; rw [hx]; exact h1
        · exact hno j (by omega)
      have HNX := Lib.hid hnext
      have HYY := Lib.hid hy
      clear hcs hx hno hbw hbb hxb hy hnext hS
      by_cases q0 : x0 = o
      · by_cases q1 : x1 = sc
        · by_cases q2 : x2 = sn
          · have d0 : (x0 == o) = true := beq_iff_eq.2 q0
            have d1 : (x1 == sc) = true := beq_iff_eq.2 q1
            have d2 : (x2 == sn) = true := beq_iff_eq.2 q2
            have HR := Lib.hid (HYY.out ⟨q0, q1, q2⟩)
            clear q0 q1 q2
            go_wp2_with fail
            go_quiet (fail)
            have NC := Lib.hid (fun n => bcopy_any X d v (wr.drewN n) hxz (XB.out.later (below_drewN (Below.refl _ _) n)))
            have BB2 := Lib.hid (fun n => below_drewN BB.out n)
            clear BB
            go_wp2_with fail
            refine (NC.out _).mono ?_
            rintro e w3 ⟨u, rfl, ho, b3⟩
            have HO := Lib.hid (own_base ho (BB2.out _).size)
            have BB3 := Lib.hid (below_on (BB2.out _) b3)
            clear ho b3
            go_wp2
            go_ret2
            rw [HR.out]
            exact ⟨_, rfl, HO.out, BB3.out⟩
          · have d0 : (x0 == o) = true := beq_iff_eq.2 q0
            have d1 : (x1 == sc) = true := beq_iff_eq.2 q1
            have d2 : (x2 == sn) = false := beq_eq_false_iff_ne.2 q2
            have HX2 := Lib.hid (HNX.out (fun h => q2 h.2.2))
            clear q0 q1 q2
            go_wp2_with fail
            go_quiet (fail)
            go_wp2_with fail
            go_roundw
            case rel => exact ⟨k + 1, by omega, by go_num, HX2.out, below_drewN BW.out _⟩
            case measure => simp [intOf]; omega
        · have d0 : (x0 == o) = true := beq_iff_eq.2 q0
          have d1 : (x1 == sc) = false := beq_eq_false_iff_ne.2 q1
          have HX2 := Lib.hid (HNX.out (fun h => q1 h.2.1))
          clear q0 q1
          go_wp2_with fail
          go_quiet (fail)
          go_wp2_with fail
          go_roundw
          case rel => exact ⟨k + 1, by omega, by go_num, HX2.out, below_drewN BW.out _⟩
          case measure => simp [intOf]; omega
      · have d0 : (x0 == o) = false := beq_eq_false_iff_ne.2 q0
        have HX2 := Lib.hid (HNX.out (fun h => q0 h.1))
        clear q0
        go_wp2_with fail
        go_quiet (fail)
        go_wp2_with fail
        go_roundw
        case rel => exact ⟨k + 1, by omega, by go_num, HX2.out, below_drewN BW.out _⟩
        case measure => simp [intOf]; omega
    · obtain rfl : k = L.length := by omega
      have hR := HN.out hno
      subst hR
      have BB := Lib.hid (below_on HB.out hbw)
      clear hno hbw
      go_wp2
      go_ret2
      exact ⟨_, rfl, ⟨rfl, .inl ⟨rfl, rfl⟩⟩, BB.out⟩

set_option maxRecDepth 100000 in
set_option maxHeartbeats 3200000 in
theorem cformed_any (A : Option Addr) (c : Nat) (L : List Bc) (room : Int) (w : World) (h : OneC w A c L) :
    Calls Try.prog 22 #[.slice A L.length c, .int .i64 room] w (Says (.bool (Ca.fmd (L.map Bc.b) room)) w) := by
  have hF : Ca.fmd (L.map Bc.b) room = (decide (0 ≤ room ∧ room ≤ 16777216 ∧ L.length ≤ 256) && (Ca.oks (L.map Bc.b) && decide ((Ca.used (L.map Bc.b) : Int) ≤ room))) := by unfold Ca.fmd; rw [List.length_map]
  have HL := Lib.hid h
  have hlen := h.len
  by_cases c0 : room < 0
  · have d0 : decide (room < 0) = true := decide_eq_true c0
    rw [decide_eq_false (show ¬ (0 ≤ room ∧ room ≤ 16777216 ∧ L.length ≤ 256) by omega), Bool.false_and] at hF
    rw [hF]
    clear hF h
    go_enter Try.func22, Try.ntmps22
    go_wp2
    go_ret
    exact ⟨rfl, Below.refl _ _⟩
  by_cases c1 : 16777216 < room
  · have d0 : decide (room < 0) = false := decide_eq_false c0
    have d1 : decide (16777216 < room) = true := decide_eq_true c1
    rw [decide_eq_false (show ¬ (0 ≤ room ∧ room ≤ 16777216 ∧ L.length ≤ 256) by omega), Bool.false_and] at hF
    rw [hF]
    clear hF h
    go_enter Try.func22, Try.ntmps22
    go_wp2
    go_ret
    exact ⟨rfl, Below.refl _ _⟩
  by_cases c2 : 256 < L.length
  · have d0 : decide (room < 0) = false := decide_eq_false c0
    have d1 : decide (16777216 < room) = false := decide_eq_false c1
    have d2 : decide ((256 : Int) < (L.length : Int)) = true := decide_eq_true (by omega)
    rw [decide_eq_false (show ¬ (0 ≤ room ∧ room ≤ 16777216 ∧ L.length ≤ 256) by omega), Bool.false_and] at hF
    rw [hF]
    clear hF h
    go_enter Try.func22, Try.ntmps22
    go_wp2
    go_ret
    exact ⟨rfl, Below.refl _ _⟩
  have d0 : decide (room < 0) = false := decide_eq_false c0
  have d1 : decide (16777216 < room) = false := decide_eq_false c1
  have d2 : decide ((256 : Int) < (L.length : Int)) = false := decide_eq_false (by omega)
  rw [decide_eq_true (show 0 ≤ room ∧ room ≤ 16777216 ∧ L.length ≤ 256 by omega), Bool.true_and] at hF
  rw [hF]
  have hOK := Lib.hid (fun k hk o ho => Ca.ok_seen (L := L) (k := k) hk o ho)
  have hNO := Lib.hid (fun k hk hx => Ca.oks_no (l := L.map Bc.b) k hk hx)
  have hYES := Lib.hid (Ca.oks_iff (L.map Bc.b)).2
  have hSU := Lib.hid (fun k hk j => Ca.seen_succ (L := L) (k := k) hk j)
  have hUO := Lib.hid (fun hx => Ca.used_oks (L := L) hx)
  obtain ⟨OK, hok⟩ : ∃ q, Ca.oks (L.map Bc.b) = q := ⟨_, rfl⟩
  obtain ⟨ok, hokk⟩ : ∃ f, (fun k => Ca.ok (L.map Bc.b) k) = f := ⟨_, rfl⟩
  rw [hok] at hNO hYES ⊢
  have B5 := Blk.new w 52 (Sp.arr fun _ => false)
  rw [← marks_zero] at B5
  have b5 := below_new (Below.refl w.heap.size w) (.cells Try.zeroCells52 52)
  obtain ⟨W, hW⟩ : ∃ W, w.alloc (.cells Try.zeroCells52 52) = W := ⟨_, rfl⟩
  rw [hW, marks_zero] at B5
  rw [hW] at b5
  have HW := Lib.hid hW
  have HB5 := Lib.hid B5
  have Hb5 := Lib.hid b5
  clear hF h hok hokk ok B5 b5 hW c0 c1
  go_enter Try.func22, Try.ntmps22
  go_wp2_with fail
  rw [HW.out]
  go_loopw [6] (fun s6 wr => ∃ k : Nat, k ≤ L.length ∧ s6 = .int .i64 (k : Int) ∧ (∀ j, j < k → Ca.ok (L.map Bc.b) j) ∧ Blk wr w.heap.size 52 (Sp.arr (Ca.seen L k)) ∧ Below w.heap.size w wr) (fun s6 _ => L.length - (intOf s6).toNat)
  case atStart => exact ⟨0, Nat.zero_le _, rfl, fun j hj => by omega, HB5.out, Hb5.out⟩
  case round =>
    obtain ⟨k, hk, rfl, hall, hB, hbw⟩ := hrel
    by_cases hlt : k < L.length
    · have hne : L ≠ [] := fun e => by subst e; simp at hlt
      obtain ⟨b, off, hA, hcs⟩ := (HL.out.later hbw).at hne
      obtain ⟨e0, e1, e2, e3⟩ := hcs k hlt
      have HL' := HL
      subst hA
      have hi0 : (0 : Int) ≤ (k : Int) := by omega
      have hi1 : (k : Int) < (L.length : Int) := by omega
      have hok := hOK.out k hlt
      have hno := hNO.out k (by rw [List.length_map]; exact hlt)
      have hsu := hSU.out k hlt
      have hbx : Ca.ok (L.map Bc.b) k → Wi.bright (L.getD k Bc.zero).b = true := fun h => by have := h.1; rwa [Ca.map_getD] at this
      obtain ⟨x, hx⟩ : ∃ x, L.getD k Bc.zero = x := ⟨_, rfl⟩
      rw [hx] at e0 e1 e2 e3 hok hsu hbx
      obtain ⟨X, d, ⟨x0, x1, x2, v⟩⟩ := x
      dsimp only at e0 e1 e2 e3 hok hsu hbx
      obtain ⟨q, hq⟩ : ∃ q, Wi.bright ⟨x0, x1, x2, v⟩ = q := ⟨_, rfl⟩
      have NR := Lib.hid (show Calls Try.prog 24 #[.agg #[.int .i64 x0, .int .i64 x1, .int .i64 x2, .slice X v.length d]] wr (Says (.bool q) wr) from by rw [← hq]; exact bright_any X d ⟨x0, x1, x2, v⟩ wr)
      cases q with
      | false =>
        have hR : OK = false := hno (fun h => by have := hbx h; rw [hq] at this; cases this)
        subst hR
        have BW := Lib.hid hbw
        clear hcs hx hbw hok hno hsu hbx hq hall hB
        go_wp2_with fail
        refine NR.out.mono ?_
        rintro e w3 ⟨rfl, b3⟩
        have BB := Lib.hid (below_on BW.out b3)
        clear b3 NR BW
        go_wp2
        go_ret
        exact ⟨rfl, BB.out⟩
      | true =>
        obtain ⟨o1, o2, o3⟩ := Ca.right_obj hq
        dsimp only at o1 o2 o3
        obtain ⟨o, rfl⟩ : ∃ o : Nat, x0 = (o : Int) := ⟨x0.toNat, by omega⟩
        have ho : o < 256 := by omega
        have ho0 : (0 : Int) ≤ (o : Int) := by omega
        have ho1 : (o : Int) < 256 := by omega
        have hoks := hok o rfl
        rw [hq] at hoks
        have hm := hB.marks_cell o ho
        have hst := hB.marks_put o ho true
        have hst2 := hst.marks_same (f' := Ca.seen L (k + 1)) (fun i _ => by
          rw [hsu i]
          by_cases e : i = o
          · subst e; simp
          · rw [if_neg e, decide_eq_false (by omega), Bool.or_false])
        have hmf := hB.free o
        have HST := Lib.hid hst2
        have BW := Lib.hid hbw
        have HALL := Lib.hid hall
        have HB := Lib.hid hB
        have HOKS := Lib.hid hoks
        have HSU := Lib.hid hsu
        have Hno := Lib.hid hno
        clear hcs hx hbw hok hno hsu hbx hq hall hB hst hst2 hoks
        cases hs : Ca.seen L k o with
        | true =>
          have hR : OK = false := Hno.out (fun h => by have := (HOKS.out.1 h).2; rw [hs] at this; cases this)
          subst hR
          rw [hs] at hm
          clear hs HST
          go_wp2_with fail
          refine NR.out.mono ?_
          rintro e w3 ⟨rfl, b3⟩
          have hm3 := cell_later b3 hm
          have e03 := cell_later b3 e0
          have BB := Lib.hid (below_on BW.out b3)
          clear b3 NR BW hm e0 e1 e2 e3
          go_wp2
          go_ret
          exact ⟨rfl, BB.out⟩
        | false =>
          have hok := HOKS.out.2 ⟨rfl, hs⟩
          have HOK := Lib.hid hok
          rw [hs] at hm
          clear hs hok HST
          go_wp2_with fail
          refine NR.out.mono ?_
          rintro e w3 ⟨rfl, b3⟩
          have hm3 := cell_later b3 hm
          have e03 := cell_later b3 e0
          have hB3 := HB.out.later b3
          have hmf3 := hB3.free o
          have hst2 := (hB3.marks_put o ho true).marks_same (f' := Ca.seen L (k + 1)) (fun i _ => by
            rw [HSU.out i]
            by_cases e : i = o
            · subst e; simp
            · rw [if_neg e, decide_eq_false (by omega), Bool.or_false])
          have HST := Lib.hid hst2
          have BB := Lib.hid ((below_on BW.out b3).setCell (p := ⟨w.heap.size, o, none⟩) (Nat.le_refl _) (.bool true))
          clear b3 NR BW hm e0 e1 e2 e3 hst2 hB3 hmf
          go_wp2_with fail
          go_roundw
          case rel =>
            refine ⟨k + 1, by omega, by go_num, fun j hj => ?_, HST.out, BB.out⟩
            by_cases e : j = k
            · subst e; exact HOK.out
            · exact HALL.out j (by omega)
          case measure => simp [intOf]; omega
    · obtain rfl : k = L.length := by omega
      have hR : OK = true := hYES.out (fun j hj => hall j (by rw [List.length_map] at hj; exact hj))
      have hu := hUO.out hall
      subst hR
      have NU := Lib.hid (cused_any A c L wr (HL.out.later hbw) (by omega))
      obtain ⟨U, hU⟩ : ∃ U, Ca.used (L.map Bc.b) = U := ⟨_, rfl⟩
      rw [hU] at NU ⊢
      have BW := Lib.hid hbw
      have HU := Lib.hid hU
      clear hall hB hbw hu hU hYES
      go_wp2_with fail
      refine NU.out.mono ?_
      rintro e w3 ⟨rfl, b3⟩
      have BB := Lib.hid (below_on BW.out b3)
      clear b3 NU BW
      go_wp2
      go_ret
      exact ⟨by rw [HU.out]; simp, BB.out⟩
end Go.Proofs.Ytmccednfaemiaaa
