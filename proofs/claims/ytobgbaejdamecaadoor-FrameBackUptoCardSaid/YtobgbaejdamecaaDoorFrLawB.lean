/-
  The laws FrameSeals and FrameOpens, walked.
-/
import Derived.Test.YtobgbaejdamecaaDoorFrLawA
import Derived.Test.YtobgbaejdamecaaDoorOwnPut
namespace Go.Proofs.YtobgbaejdamecaaDoor
open Go.RowKit

theorem set_cells (bs : List Int) (i : Nat) (y : Int) : (bs.map (Value.int .u8)).set i (.int .u8 y) = (bs.set i y).map (Value.int .u8) := by rw [List.map_set]
theorem get_cells (bs : List Int) (i : Nat) (hi : i < bs.length) : (bs.map (Value.int .u8))[i]? = some (.int .u8 (bs.getD i 0)) := bCells_get bs i hi

set_option maxRecDepth 100000 in
set_option maxHeartbeats 3200000 in
theorem lawFSeals_any (A : Option Addr) (c : Nat) (p : List Int) (w : World) (hl : p.length ≤ 140737488355328) (h : OneB w A c p) (hH : Halves w) :
    Calls Tryd.prog 4 #[.slice A p.length c] w (Says (.bool true) w) := by
  have CA := Lib.hid (falive_any w hH); have HB := Lib.hid h; have HH := Lib.hid hH
  have hLb : ∀ x ∈ (Fr.sealed p).1, isB x := by
    unfold Fr.sealed
    split
    · exact Fr.seal_byte h.byte
    · exact fun x hx => by cases hx
  have NS := fun O co wx (hx : OneB wx O co p) (hh : Halves wx) => dseal_any O co p wx hx hh
  have NR := fun wx (hx : OneB wx A c p) => rseal_any A c p wx hx
  have hLl : (Fr.sealed p).1.length ≤ 9223372036854775807 := by
    unfold Fr.sealed
    split
    · rw [Fr.seal_len]; omega
    · simp
  obtain ⟨L, hL⟩ : ∃ L, (Fr.sealed p).1 = L := ⟨_, rfl⟩
  obtain ⟨er, her⟩ : ∃ er, (Fr.sealed p).2 = er := ⟨_, rfl⟩
  rw [hL] at hLb hLl
  simp only [hL, her] at NS NR
  have NS := Lib.hid NS; have NR := Lib.hid NR; have HLB := Lib.hid hLb
  have hpl := h.len
  clear h hH hLb hL her
  go_enter Tryd.func4, Tryd.ntmps4
  go_wp2_with fail
  refine CA.out.mono ?_
  rintro e w1 ⟨rfl, b1⟩
  have CC := Lib.hid (bcopy_any A c p w1 hl (HB.out.later b1))
  go_wp2_with fail
  refine CC.out.mono ?_
  rintro e w2 ⟨v2, rfl, ho2, b2⟩
  obtain ⟨O, co, rfl, hO⟩ := OneB.of_own ho2 HB.out.byte
  have bb2 := below_on b1 b2
  have HO := Lib.hid hO; have BB2 := Lib.hid bb2
  have NS2 := Lib.hid (NS.out O co w2 hO (HH.out.later bb2))
  have hz2 := bb2.size
  clear ho2 hO bb2
  go_wp2_with fail
  refine NS2.out.mono ?_
  rintro e w3 ⟨v3, rfl, ho3, b3⟩
  obtain ⟨Y, cy, hv, -⟩ := own_form ho3
  rw [hv] at ho3
  subst hv
  have NR2 := Lib.hid (NR.out w3 (HB.out.later (below_on BB2.out b3)))
  have HO3 := Lib.hid ho3; have B3 := Lib.hid b3
  clear ho3
  go_wp2_with fail
  refine NR2.out.mono ?_
  rintro e w4 ⟨v4, rfl, ho4, b4⟩
  obtain ⟨Z, cz, rfl, hZ⟩ := OneB.of_own ho4 HLB.out
  have NM := bsame_any Y Z cy cz L L w4 (one_own (own_later HO3.out b4) HLB.out) hZ
  rw [decide_eq_true rfl] at NM
  have NM2 := Lib.hid NM
  have b34 := below_on B3.out b4
  clear NM ho4 hZ
  go_wp2_with fail
  refine NM2.out.mono ?_
  rintro e w5 ⟨rfl, b5⟩
  have B25 := Lib.hid (below_on b34 b5)
  have HO5 := Lib.hid (own_later HO3.out (below_on b4 b5))
  clear b34 b3
  go_wp2_with fail
  go_loopw [9] (fun s9 wr => ∃ (i : Nat) (bs : List Int), s9 = .int .i64 (i : Int) ∧ i ≤ L.length ∧ bs.length = L.length ∧ wr.ownsRow w2.heap.size 5 1 (.slice Y L.length cy) L.length (bs.map (Value.int .u8)) ∧ Below w2.heap.size w2 wr) (fun s9 _ => L.length - (intOf s9).toNat)
  case atStart => exact ⟨0, L, rfl, Nat.zero_le _, rfl, HO5.out, B25.out⟩
  case round =>
    obtain ⟨i, bs, rfl, hi, hbs, hown, hbw⟩ := hrel
    have HBS := Lib.hid hbs; have HOW := Lib.hid hown; have HBW := Lib.hid hbw
    clear hbs hown hbw
    by_cases hil : i < L.length
    · have hd : decide ((i : Int) < (L.length : Int)) = true := decide_eq_true (by omega)
      obtain ⟨g, cap, hv⟩ := own_len HOW.out (by omega)
      injection hv with e1 _ e3
      subst e1 e3
      have c0 := own_cell_at HOW.out (get_cells bs i (by rw [HBS.out]; exact hil))
      have f0 := own_free_at HOW.out i
      have hge := (own_base_le HOW.out).1
      obtain ⟨-, hcv⟩ : True ∧ L.length ≤ cy := ⟨trivial, by
        obtain ⟨A9, c9, hv9, h9, -⟩ := own_form HOW.out
        injection hv9 with _ _ e9
        omega⟩
      have hcap : cy ≤ 9223372036854775807 := by
        obtain ⟨A9, c9, hv9, -, h9, -⟩ := own_form HOW.out
        injection hv9 with _ _ e9
        unfold maxLen at h9
        omega
      have HP := Lib.hid (fun u => own_put HOW.out i u)
      have HW := Lib.hid (fun u => HBW.out.setCell (p := ⟨g, i, none⟩) hge u)
      obtain ⟨x, hx⟩ : ∃ x, bs.getD i 0 = x := ⟨_, rfl⟩
      rw [hx] at c0
      clear hx
      go_wp2_with fail
      go_roundw
      case rel => exact ⟨i + 1, bs.set i (bits BinOp.xor IntKind.u8 x 255), by first | rfl | (congr 1; omega), by omega, by rw [List.length_set]; exact HBS.out, (by rw [← set_cells]; exact HP.out _), HW.out _⟩
      case measure => simp [intOf]; omega
    · have hd : decide ((i : Int) < (L.length : Int)) = false := decide_eq_false (by omega)
      have bbr : Below w.heap.size w wr := BB2.out.trans (HBW.out.mono hz2)
      have NM := bsame_any O A co c p p wr (HO.out.later HBW.out) (HB.out.later bbr)
      rw [decide_eq_true rfl] at NM
      have NM3 := Lib.hid NM; have BBR := Lib.hid bbr
      clear NM bbr
      go_wp2_with fail
      refine NM3.out.mono ?_
      rintro e w6 ⟨rfl, b6⟩
      go_wp2
      go_ret
      exact ⟨rfl, below_on BBR.out b6⟩

set_option maxRecDepth 100000 in
set_option maxHeartbeats 3200000 in
theorem lawFOpens_any (A : Option Addr) (c : Nat) (p : List Int) (w : World) (hl : p.length ≤ 140737488355328) (h : OneB w A c p) (hH : Halves w) :
    Calls Tryd.prog 5 #[.slice A p.length c] w (Says (.bool true) w) := by
  have CA := Lib.hid (falive_any w hH); have HB := Lib.hid h; have HH := Lib.hid hH
  have NO := fun O co wx (hx : OneB wx O co p) (hh : Halves wx) => dopen_any O co p wx hx hh
  have NR := fun wx (hx : OneB wx A c p) => ropen_any A c p wx hx
  have NW := fun O co wx (hx : OneB wx O co p) (hh : Halves wx) => dwhole_any O co p wx hx hl hh
  have NV := fun wx (hx : OneB wx A c p) => rwhole_any A c p wx hx
  have hLb : ∀ x ∈ (Fr.opn p).1, isB x := fun x hx => by
    have h2 := Fr.opn_byte (l := p) (a := 0) (p := (Fr.opn p).1) (k := (Fr.opn p).2.1) (e := (Fr.opn p).2.2) h.byte (by rw [List.drop_zero])
    exact h2 x hx
  have hQb : ∀ x ∈ (Fr.whl p).1, isB x := fun x hx => by
    rw [Fr.whl_is] at hx
    split at hx
    · cases hx
    · exact hLb x hx
  obtain ⟨⟨P, n, er⟩, hr⟩ : ∃ r, Fr.opn p = r := ⟨_, rfl⟩
  obtain ⟨⟨Q, gr⟩, hq⟩ : ∃ r, Fr.whl p = r := ⟨_, rfl⟩
  rw [hr] at hLb
  rw [hq] at hQb
  simp only [hr] at NO NR
  simp only [hq] at NW NV
  simp only at hLb hQb
  have NO2 := Lib.hid NO; have NR2 := Lib.hid NR; have NW2 := Lib.hid NW; have NV2 := Lib.hid NV; have HLB := Lib.hid hLb; have HQB := Lib.hid hQb
  have hpl := h.len
  clear h hH hLb hQb hr hq NO NR NW NV
  go_enter Tryd.func5, Tryd.ntmps5
  go_wp2_with fail
  refine CA.out.mono ?_
  rintro e w1 ⟨rfl, b1⟩
  have CC := Lib.hid (bcopy_any A c p w1 hl (HB.out.later b1))
  go_wp2_with fail
  refine CC.out.mono ?_
  rintro e w2 ⟨v2, rfl, ho2, b2⟩
  obtain ⟨O, co, rfl, hO⟩ := OneB.of_own ho2 HB.out.byte
  have bb2 := below_on b1 b2
  have HO := Lib.hid hO; have BB2 := Lib.hid bb2
  have NO3 := Lib.hid (show Calls Tryd.prog 16 #[.slice O p.length co] w2 (GivesO (P, n, er) w2) from NO2.out O co w2 hO (HH.out.later bb2))
  have hz2 := bb2.size
  clear ho2 hO bb2
  go_wp2_with fail
  refine NO3.out.mono ?_
  rintro e w3 ⟨v3, rfl, ho3, b3⟩
  replace ho3 : w3.ownsRow w2.heap.size 5 1 v3 P.length (bCells P) := ho3
  obtain ⟨X, cx, hv, -⟩ := own_form ho3
  rw [hv] at ho3
  subst hv
  have bb3 := below_on BB2.out b3
  have NR3 := Lib.hid (show Calls Tryd.prog 17 #[.slice A p.length c] w3 (GivesO (P, n, er) w3) from NR2.out w3 (HB.out.later bb3))
  have HO3 := Lib.hid ho3; have B3 := Lib.hid b3
  clear ho3
  go_wp2_with fail
  refine NR3.out.mono ?_
  rintro e w4 ⟨v4, rfl, ho4, b4⟩
  replace ho4 : w4.ownsRow w3.heap.size 5 1 v4 P.length (bCells P) := ho4
  obtain ⟨Z, cz, rfl, hZ⟩ := OneB.of_own ho4 HLB.out
  have bb4 := below_on bb3 b4
  have B34 := Lib.hid (below_on B3.out b4)
  have NW3 := Lib.hid (show Calls Tryd.prog 18 #[.slice O p.length co] w4 (GivesBE Q gr w4) from NW2.out O co w4 (HO.out.later B34.out) (HH.out.later bb4))
  have HZ := Lib.hid hZ
  clear ho4 hZ
  go_wp2_with fail
  refine NW3.out.mono ?_
  rintro e w5 ⟨v5, rfl, ho5, b5⟩
  obtain ⟨S, cs, rfl, hS⟩ := OneB.of_own ho5 HQB.out
  have bb5 := below_on bb4 b5
  have NV3 := Lib.hid (show Calls Tryd.prog 19 #[.slice A p.length c] w5 (GivesBE Q gr w5) from NV2.out w5 (HB.out.later bb5))
  have HS := Lib.hid hS
  clear ho5 hS
  go_wp2_with fail
  refine NV3.out.mono ?_
  rintro e w6 ⟨v6, rfl, ho6, b6⟩
  obtain ⟨T, ct, rfl, hT⟩ := OneB.of_own ho6 HQB.out
  have HT := Lib.hid hT
  have b46 := below_on b5 b6
  have NM := bsame_any X Z cx cz P P w6 (one_own (own_later HO3.out (below_on b4 b46)) HLB.out) (HZ.out.later b46)
  rw [decide_eq_true rfl] at NM
  have NM2 := Lib.hid NM
  clear NM ho6 hT
  go_wp2_with fail
  refine NM2.out.mono ?_
  rintro e w7 ⟨rfl, b7⟩
  have NM := bsame_any S T cs ct Q Q w7 (HS.out.later (below_on b6 b7)) (HT.out.later b7)
  rw [decide_eq_true rfl] at NM
  have NM3 := Lib.hid NM
  clear NM
  go_wp2_with fail
  refine NM3.out.mono ?_
  rintro e w8 ⟨rfl, b8⟩
  have b38 := below_on b4 (below_on b46 (below_on b7 b8))
  have B25 := Lib.hid (below_on B3.out b38)
  have HO5 := Lib.hid (own_later HO3.out b38)
  clear b38 b3
  have hPl : P.length ≤ 9223372036854775807 := by
    obtain ⟨A9, c9, hv9, h8, h9, -⟩ := own_form HO5.out
    unfold maxLen at h9
    omega
  go_wp2_with fail
  go_loopw [15] (fun s15 wr => ∃ (i : Nat) (bs : List Int), s15 = .int .i64 (i : Int) ∧ i ≤ P.length ∧ bs.length = P.length ∧ wr.ownsRow w2.heap.size 5 1 (.slice X P.length cx) P.length (bs.map (Value.int .u8)) ∧ Below w2.heap.size w2 wr) (fun s15 _ => P.length - (intOf s15).toNat)
  case atStart => exact ⟨0, P, rfl, Nat.zero_le _, rfl, HO5.out, B25.out⟩
  case round =>
    obtain ⟨i, bs, rfl, hi, hbs, hown, hbw⟩ := hrel
    have HBS := Lib.hid hbs; have HOW := Lib.hid hown; have HBW := Lib.hid hbw
    clear hbs hown hbw
    by_cases hil : i < P.length
    · have hd : decide ((i : Int) < (P.length : Int)) = true := decide_eq_true (by omega)
      obtain ⟨g, cap, hv⟩ := own_len HOW.out (by omega)
      injection hv with e1 _ e3
      subst e1 e3
      have c0 := own_cell_at HOW.out (get_cells bs i (by rw [HBS.out]; exact hil))
      have f0 := own_free_at HOW.out i
      have hge := (own_base_le HOW.out).1
      obtain ⟨-, hcv⟩ : True ∧ P.length ≤ cx := ⟨trivial, by
        obtain ⟨A9, c9, hv9, h9, -⟩ := own_form HOW.out
        injection hv9 with _ _ e9
        omega⟩
      have hcap : cx ≤ 9223372036854775807 := by
        obtain ⟨A9, c9, hv9, -, h9, -⟩ := own_form HOW.out
        injection hv9 with _ _ e9
        unfold maxLen at h9
        omega
      have HP := Lib.hid (fun u => own_put HOW.out i u)
      have HW := Lib.hid (fun u => HBW.out.setCell (p := ⟨g, i, none⟩) hge u)
      obtain ⟨x, hx⟩ : ∃ x, bs.getD i 0 = x := ⟨_, rfl⟩
      rw [hx] at c0
      clear hx
      go_wp2_with fail
      go_roundw
      case rel => exact ⟨i + 1, bs.set i (bits BinOp.xor IntKind.u8 x 255), by first | rfl | (congr 1; omega), by omega, by rw [List.length_set]; exact HBS.out, (by rw [← set_cells]; exact HP.out _), HW.out _⟩
      case measure => simp [intOf]; omega
    · have hd : decide ((i : Int) < (P.length : Int)) = false := decide_eq_false (by omega)
      have bbr : Below w.heap.size w wr := BB2.out.trans (HBW.out.mono hz2)
      have NM := bsame_any O A co c p p wr (HO.out.later HBW.out) (HB.out.later bbr)
      rw [decide_eq_true rfl] at NM
      have NM3 := Lib.hid NM; have BBR := Lib.hid bbr
      clear NM bbr
      go_wp2_with fail
      refine NM3.out.mono ?_
      rintro e w6 ⟨rfl, b6⟩
      go_wp2
      go_ret
      exact ⟨rfl, below_on BBR.out b6⟩
end Go.Proofs.YtobgbaejdamecaaDoor
