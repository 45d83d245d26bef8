/-
  What the landed cache's Formed answers: it keeps a set of the objects seen.
-/
import Derived.Test.YtmccednfaemiaaaCdA
import Derived.Test.YtmccednfaemiaaaMapSet
import Derived.Carry
namespace Go.Proofs.Ytmccednfaemiaaa
open Go.RowKit Go.Maps

theorem lawObj : Keyed Try.prog 3 := int_keyed Try.underlying3
theorem zeroUnit (w : World) : (zeroValue 50).run Try.prog w = .ok (.agg #[]) w := by kernel_rfl
namespace Ca
theorem ok_at {L : List Bc} {k : Nat} : ok (L.map Bc.b) k ↔ (Wi.bright (L.getD k Bc.zero).b = true ∧ ∀ i, i < k → (L.getD i Bc.zero).b.o ≠ (L.getD k Bc.zero).b.o) := by
  unfold ok
  rw [map_getD]
  exact ⟨fun ⟨h1, h2⟩ => ⟨h1, fun i hi => by have := h2 i hi; rwa [map_getD] at this⟩, fun ⟨h1, h2⟩ => ⟨h1, fun i hi => by rw [map_getD]; exact h2 i hi⟩⟩
theorem few_ok {l : List Bd} (h : ∀ j, j < l.length → ok l j) : l.length ≤ 256 := by
  have h1 := few_below 256 (l.map Bd.o) (by
    rw [List.pairwise_iff_getElem]
    intro i j hi hj hij
    simp only [List.length_map] at hi hj
    have h2 := (h j hj).2 i hij
    rw [List.getD_eq_getElem?_getD, List.getD_eq_getElem?_getD, List.getElem?_eq_getElem hi, List.getElem?_eq_getElem hj] at h2
    simpa using h2) (fun x hx => by
    obtain ⟨b, hb, rfl⟩ := List.mem_map.1 hx
    obtain ⟨j, hj, rfl⟩ := List.mem_iff_getElem.1 hb
    have h2 := (h j hj).1
    rw [List.getD_eq_getElem?_getD, List.getElem?_eq_getElem hj] at h2
    have h3 := right_obj h2
    dsimp only [Option.getD_some] at h3
    omega)
  rwa [List.length_map] at h1
theorem fmd_room {L : List Bc} {room : Int} (h0 : 0 ≤ room) (h1 : room ≤ 16777216) : fmd (L.map Bc.b) room = (oks (L.map Bc.b) && decide ((used (L.map Bc.b) : Int) ≤ room)) := by
  unfold fmd
  cases hq : oks (L.map Bc.b) with
  | false => rw [Bool.false_and, Bool.and_false]
  | true => rw [decide_eq_true ⟨h0, h1, few_ok ((oks_iff _).1 hq)⟩, Bool.true_and]
end Ca

set_option maxRecDepth 100000 in
set_option maxHeartbeats 3200000 in
theorem cdformed_any (A : Option Addr) (c : Nat) (L : List Bc) (room : Int) (w : World) (h : OneC w A c L) :
    Calls Try.prog 21 #[.slice A L.length c, .int .i64 room] w (Says (.bool (Ca.fmd (L.map Bc.b) room)) w) := by
  have hlen := h.len
  have hmax : L.length ≤ maxLen := Nat.le_trans h.le h.cap
  have HL := Lib.hid h
  by_cases c0 : room < 0
  · have d0 : decide (room < 0) = true := decide_eq_true c0
    have hF : Ca.fmd (L.map Bc.b) room = false := by unfold Ca.fmd; rw [decide_eq_false (fun h => absurd h.1 (by omega)), Bool.false_and]
    rw [hF]
    clear hF h
    go_enter Try.func21, Try.ntmps21
    go_wp2
    go_ret
    exact ⟨rfl, Below.refl _ _⟩
  by_cases c1 : 16777216 < room
  · have d0 : decide (room < 0) = false := decide_eq_false c0
    have d1 : decide (16777216 < room) = true := decide_eq_true c1
    have hF : Ca.fmd (L.map Bc.b) room = false := by unfold Ca.fmd; rw [decide_eq_false (fun h => absurd h.2.1 (by omega)), Bool.false_and]
    rw [hF]
    clear hF h
    go_enter Try.func21, Try.ntmps21
    go_wp2
    go_ret
    exact ⟨rfl, Below.refl _ _⟩
  have d0 : decide (room < 0) = false := decide_eq_false c0
  have d1 : decide (16777216 < room) = false := decide_eq_false c1
  rw [Ca.fmd_room (L := L) (show 0 ≤ room by omega) (show room ≤ 16777216 by omega)]
  have hOK := Lib.hid (fun k => Ca.ok_at (L := L) (k := k))
  have hNO := Lib.hid (fun k hk hx => Ca.oks_no (l := L.map Bc.b) k hk hx)
  have hYES := Lib.hid (Ca.oks_iff (L.map Bc.b)).2
  have hUO := Lib.hid (fun hx => Ca.used_oks (L := L) hx)
  have hFEW := Lib.hid (fun hx => Ca.few_ok (l := L.map Bc.b) hx)
  obtain ⟨OK, hok⟩ : ∃ q, Ca.oks (L.map Bc.b) = q := ⟨_, rfl⟩
  rw [hok] at hNO hYES ⊢
  have HM0 := Lib.hid (World.ownsMap_made (H := Unit) w Try.prog 3 unitElem)
  have HB0 := Lib.hid (below_new (Below.refl w.heap.size w) (.map #[] 0))
  have hmm := @run_makeMap Try.prog
  clear h hok c0 c1
  go_enter Try.func21, Try.ntmps21
  go_wp2_with fail
  go_loopw [19] (fun s19 wr => ∃ (k : Nat) (D : DataW Unit), k ≤ L.length ∧ s19 = .int .i64 (k : Int) ∧ (∀ j, j < k → Ca.ok (L.map Bc.b) j) ∧ wr.ownsMap Try.prog 3 unitElem w.heap.size k D ∧ (IsMap D ∧ ∀ o : Int, Maps.has D (.int .i64 o) = true ↔ ∃ j, j < k ∧ (L.getD j Bc.zero).b.o = o) ∧ Below w.heap.size w wr) (fun s19 _ => L.length - (intOf s19).toNat)
  case atStart => exact ⟨0, .map [], Nat.zero_le _, rfl, fun j hj => by omega, HM0.out, ⟨⟨_, rfl⟩, fun o => ⟨fun h => by simp [Maps.has] at h, fun ⟨j, hj, _⟩ => by omega⟩⟩, HB0.out⟩
  case round =>
    obtain ⟨k, D, hk, rfl, hall, hM, hD, hbw⟩ := hrel
    by_cases hlt : k < L.length
    · have hne : L ≠ [] := fun e => by subst e; simp at hlt
      obtain ⟨b, off, hA, hcs⟩ := (HL.out.later hbw).at hne
      obtain ⟨e0, e1, e2, e3⟩ := hcs k hlt
      have HL' := HL
      subst hA
      have hi0 : (0 : Int) ≤ (k : Int) := by omega
      have hi1 : (k : Int) < (L.length : Int) := by omega
      have hok := hOK.out k
      have hno := hNO.out k (by rw [List.length_map]; exact hlt)
      obtain ⟨x, hx⟩ : ∃ x, L.getD k Bc.zero = x := ⟨_, rfl⟩
      rw [hx] at e0 e1 e2 e3 hok
      obtain ⟨X, d, ⟨x0, x1, x2, v⟩⟩ := x
      dsimp only at e0 e1 e2 e3 hok
      have bn := below_new hbw (.cells #[.int .i64 x0, .int .i64 x1, .int .i64 x2, .slice X v.length d] 38)
      have bx := below_new (Below.refl wr.heap.size wr) (.cells #[.int .i64 x0, .int .i64 x1, .int .i64 x2, .slice X v.length d] 38)
      have hX := Blk.new wr 38 #[.int .i64 x0, .int .i64 x1, .int .i64 x2, .slice X v.length d]
      have hMx := map_later hM bx
      have hgx : wr.heap.size < (wr.alloc (.cells #[.int .i64 x0, .int .i64 x1, .int .i64 x2, .slice X v.length d] 38)).heap.size := hX.lt
      obtain ⟨W1, hW1⟩ : ∃ W1, wr.alloc (.cells #[.int .i64 x0, .int .i64 x1, .int .i64 x2, .slice X v.length d] 38) = W1 := ⟨_, rfl⟩
      rw [hW1] at bn hX hMx
      obtain ⟨r, hlk, hr⟩ := look_set hMx Try.underlying49 Try.underlying3 (zeroUnit W1) x0
      have bz := below_new (Below.refl W1.heap.size W1) (.cells #[] 50)
      obtain ⟨q, hq⟩ : ∃ q, Wi.bright ⟨x0, x1, x2, v⟩ = q := ⟨_, rfl⟩
      have NR := Lib.hid (fun wx => show Calls Try.prog 28 #[.agg #[.int .i64 x0, .int .i64 x1, .int .i64 x2, .slice X v.length d]] wx (Says (.bool q) wx) from by rw [← hq]; exact cdformedBody_any X d ⟨x0, x1, x2, v⟩ wx)
      have hwf : q = true → (Lit.int .i64 x0).wf = true := fun h => by
        rw [h] at hq
        have := Ca.right_obj hq
        dsimp only at this
        exact WalkArith.wf_i64 (by omega)
      rw [hq] at hok
      have HD := Lib.hid hD
      have HR := Lib.hid hr
      have HOK := Lib.hid hok
      have HWF := Lib.hid hwf
      have HNO := Lib.hid hno
      have HALL := Lib.hid hall
      have HW1 := Lib.hid hW1
      have HX := Lib.hid hX
      have HM := Lib.hid (map_later hMx bz)
      have HBB := Lib.hid (below_on bn bz)
      have HQ := Lib.hid hq
      have HXX := Lib.hid hx
      have hp0 := hX.cell (i := 0) rfl
      clear hcs hx hbw hok hno hall hM hMx hr hwf hD hW1 hX bn bx hgx hq
      cases r with
      | true =>
        have hR : OK = false := HNO.out (fun h => by
          have h1 := HOK.out.1 h
          obtain ⟨j, hj, hj2⟩ := (HD.out.2 x0).1 (HR.out (HWF.out h1.1)).symm
          exact h1.2 j hj hj2)
        subst hR
        clear NR HD HR HOK HWF HNO HALL HX HM HQ HXX
        go_upto_region 7 with (fail)
        rw [HW1.out]
        have HBBx := HBB
        clear HW1 e0 e1 e2 e3 bz
        go_wp2
        go_ret
        exact ⟨rfl, HBBx.out⟩
      | false =>
        have z1 := (HX.out.later bz).cell (i := 0) rfl
        have z2 := (HX.out.later bz).cell (i := 1) rfl
        have z3 := (HX.out.later bz).cell (i := 2) rfl
        have z4 := (HX.out.later bz).cell (i := 3) rfl
        cases q with
        | false =>
          have hR : OK = false := HNO.out (fun h => by have h1 := (HOK.out.1 h).1; cases h1)
          subst hR
          clear HD HR HOK HWF HNO HALL HX HM HQ HXX
          go_upto_region 7 with (fail)
          rw [HW1.out]
          clear HW1 e0 e1 e2 e3 bz
          go_wp2_with fail
          refine (NR.out _).mono ?_
          rintro e w3 ⟨rfl, b3⟩
          have BB := Lib.hid (below_on HBB.out b3)
          clear b3 NR HBB z1 z2 z3 z4 hp0 hlk
          go_wp2
          go_ret
          exact ⟨rfl, BB.out⟩
        | true =>
          have hok : Ca.ok (L.map Bc.b) k := HOK.out.2 ⟨rfl, fun i hi e => by
            have h1 := (HD.out.2 x0).2 ⟨i, hi, e⟩
            rw [← HR.out (HWF.out rfl)] at h1
            cases h1⟩
          have HOK2 := Lib.hid hok
          have hkey : keyOf Try.prog 3 (.int .i64 x0) = some (.int .i64 x0) := keyOf_int_mk Try.underlying3 (HWF.out rfl)
          clear hok
          go_upto_region 7 with (fail)
          rw [HW1.out]
          clear HW1 e0 e1 e2 e3
          go_wp2_with fail
          refine (NR.out _).mono ?_
          rintro e w3 ⟨rfl, b3⟩
          have hM3 := map_later HM.out b3
          have y1 := ((HX.out.later bz).later b3).cell (i := 0) rfl
          have BB := Lib.hid (below_on HBB.out b3)
          have hkm : k < maxLen := by omega
          clear b3 NR HBB z1 z2 z3 z4 hp0 hlk bz
          go_wp2_with (at_mapUpdate; refine wpList_mapUpdate_own _ rfl _ _ _ 49 rfl 3 50 lawObj Try.underlying49 (unitElem (H := Unit)) w.heap.size k _ rfl hM3 hkm _ _ _ rfl rfl hkey _ [] unitElem_mk ?_; intro w4 hM4 hg4)
          have HM4 := Lib.hid hM4
          have BB4 := Lib.hid (BB.out.grown hg4 BB.out.size (fun j hj => by cases hj; exact Nat.le_refl _))
          clear hM4 hg4 hM3 y1 hkey
          go_roundw
          case rel =>
            refine ⟨k + 1, _, by omega, by go_num, fun j hj => ?_, HM4.out, ⟨HD.out.1.put _ _, fun o => ?_⟩, BB4.out⟩
            · by_cases e : j = k
              · subst e; exact HOK2.out
              · exact HALL.out j (by omega)
            · by_cases e : o = x0
              · subst e
                rw [has_put_same (k := .int .i64 o) HD.out.1 (by simp [WideAt.IsKeyLit])]
                exact ⟨fun _ => ⟨k, by omega, by rw [HXX.out]⟩, fun _ => rfl⟩
              · rw [has_put_other (fun h => e (by cases h; rfl))]
                rw [HD.out.2 o]
                constructor
                · rintro ⟨j, hj, hj2⟩; exact ⟨j, by omega, hj2⟩
                · rintro ⟨j, hj, hj2⟩
                  refine ⟨j, ?_, hj2⟩
                  by_cases ej : j = k
                  · subst ej; rw [HXX.out] at hj2; exact absurd hj2.symm e
                  · omega
          case measure => simp [intOf]; omega
    · obtain rfl : k = L.length := by omega
      have hall' : ∀ j, j < (L.map Bc.b).length → Ca.ok (L.map Bc.b) j := fun j hj => hall j (by rw [List.length_map] at hj; exact hj)
      have hR : OK = true := hYES.out hall'
      have hu := hUO.out hall
      have hfew := hFEW.out hall'
      rw [List.length_map] at hfew
      subst hR
      have NU := Lib.hid (cdused_any A c L wr (HL.out.later hbw) (by omega))
      obtain ⟨U, hU⟩ : ∃ U, Ca.used (L.map Bc.b) = U := ⟨_, rfl⟩
      rw [hU] at NU ⊢
      have BW := Lib.hid hbw
      have HU := Lib.hid hU
      clear hall hall' hM hD hbw hu hU hYES hfew
      go_wp2_with fail
      refine NU.out.mono ?_
      rintro e w3 ⟨rfl, b3⟩
      have BB := Lib.hid (below_on BW.out b3)
      clear b3 NU BW
      go_wp2
      go_ret
      exact ⟨by rw [HU.out]; simp, BB.out⟩
end Go.Proofs.Ytmccednfaemiaaa
