/-
  The law FrameTurned, walked.
-/
import Derived.Test.YtobgbaejdamecaaDoorFrLawB
namespace Go.Proofs.YtobgbaejdamecaaDoor
open Go.RowKit

theorem xor_ne {a x : Nat} (h : x ≠ 0) : a ^^^ x ≠ a := by
  intro e
  apply h
  have h1 : a ^^^ (a ^^^ x) = a ^^^ a := by rw [e]
  rwa [← Nat.xor_assoc, Nat.xor_self, Nat.zero_xor] at h1

set_option maxRecDepth 100000 in
set_option maxHeartbeats 3200000 in
theorem lawFTurned_any (A : Option Addr) (c : Nat) (p : List Int) (a : Nat) (x : Int) (w : World) (ha : a < 4294967296) (hx : isB x) (h : OneB w A c p) (hH : Halves w) :
    Calls Tryd.prog 8 #[.slice A p.length c, .int .u32 (a : Int), .int .u8 x] w (Says (.bool true) w) := by
  have CA := Lib.hid (falive_any w hH); have HB := Lib.hid h; have HH := Lib.hid hH
  have NS := fun wx (hx : OneB wx A c p) (hh : Halves wx) => dseal_any A c p wx hx hh
  have hpl := h.len
  unfold isB at hx
  by_cases hp : p.length ≤ 1048576
  · have hse : Fr.sealed p = (Fr.frm p, 0) := by unfold Fr.sealed; rw [if_pos hp]
    have hfl := Fr.seal_len p
    have hfb := Fr.seal_byte h.byte
    have hwh := Fr.whl_seal p hp
    have htu := fun (i : Nat) (hi : i < 8 + p.length) (y : Int) (hy : isB y) (hne : y ≠ (Fr.frm p).getD i 0) => Fr.whl_turned h.byte hi hy hne
    simp only [hse] at NS
    obtain ⟨f, hf⟩ : ∃ f, Fr.frm p = f := ⟨_, rfl⟩
    rw [hf] at hfl hfb hwh
    simp only [hf] at NS htu
    have NW := fun O co l wx (hx : OneB wx O co l) (hl : l.length = f.length) (hh : Halves wx) => dwhole_any O co l wx hx (by omega) hh
    have hfle : f.length ≤ 1048584 := by omega
    have hfge : 8 ≤ f.length := by omega
    have HFL := Lib.hid hfl; have HFB := Lib.hid hfb; have HWH := Lib.hid hwh; have HTU := Lib.hid htu; have NS2 := Lib.hid NS; have NW2 := Lib.hid NW
    clear h hH hse hfl hfb hwh htu hf NS NW
    go_enter Tryd.func8, Tryd.ntmps8
    go_wp2_with fail
    refine CA.out.mono ?_
    rintro e w1 ⟨rfl, b1⟩
    go_wp2_with fail
    refine (NS2.out w1 (HB.out.later b1) (HH.out.later b1)).mono ?_
    rintro e w2 ⟨v2, rfl, ho2, b2⟩
    replace ho2 : w2.ownsRow w1.heap.size 5 1 v2 f.length (bCells f) := ho2
    obtain ⟨g, cap, rfl⟩ := own_len ho2 (by omega)
    have bb2 := below_on b1 b2
    have HO2 := Lib.hid ho2; have HBB2 := Lib.hid bb2
    have NW3 := NW2.out (some ⟨g, 0, none⟩) cap f w2 (one_own ho2 HFB.out) rfl (HH.out.later bb2)
    rw [HWH.out] at NW3
    have NW4 := Lib.hid NW3
    clear ho2 bb2 NW3
    go_wp2_with fail
    refine NW4.out.mono ?_
    rintro e w3 ⟨v3, rfl, ho3, b3⟩
    obtain ⟨Q, cq, rfl, hQ⟩ := OneB.of_own ho3 HB.out.byte
    have bb3 := below_on HBB2.out b3
    have NM := bsame_any Q A cq c p p w3 hQ (HB.out.later bb3)
    rw [decide_eq_true rfl] at NM
    have NM2 := Lib.hid NM
    clear NM ho3 hQ
    go_wp2_with fail
    refine NM2.out.mono ?_
    rintro e w4 ⟨rfl, b4⟩
    have bb4 := below_on bb3 b4
    have b24 := below_on b3 b4
    by_cases hx0 : x = 0
    · have hd : (x == 0) = true := by rw [beq_iff_eq]; exact hx0
      clear hx0
      go_wp2
      go_ret
      exact ⟨rfl, bb4⟩
    · have hd : (x == 0) = false := beq_eq_false_iff_ne.2 hx0
      have hown4 := own_later HO2.out b24
      obtain ⟨j, hj⟩ : ∃ j, a % f.length = j := ⟨_, rfl⟩
      have hjl : j < f.length := by rw [← hj]; exact Nat.mod_lt _ (by omega)
      have hrem : (a : Int) % (f.length : Int) = (j : Int) := by rw [← hj]; omega
      have c0 := own_cell_at hown4 (bCells_get f j hjl)
      have f0 := own_free_at hown4 j
      have hge := (own_base_le hown4).1
      obtain ⟨y0, hy0⟩ : ∃ y, f.getD j 0 = y := ⟨_, rfl⟩
      have hyb : isB y0 := by
        rw [← hy0, List.getD_eq_getElem?_getD, List.getElem?_eq_getElem hjl]
        exact HFB.out _ (List.getElem_mem hjl)
      have hyb2 := hyb
      unfold isB at hyb
      rw [hy0] at c0
      have hxr := u8_xor y0 x hyb.1 hyb.2 hx.1 hx.2
      have hv256 : y0.toNat ^^^ x.toNat < 256 := Nat.xor_lt_two_pow (n := 8) (by omega) (by omega)
      have hvne : ((y0.toNat ^^^ x.toNat : Nat) : Int) ≠ y0 := fun e => xor_ne (a := y0.toNat) (x := x.toNat) (by omega) (by omega)
      obtain ⟨v, hv⟩ : ∃ v, y0.toNat ^^^ x.toNat = v := ⟨_, rfl⟩
      rw [hv] at hxr hv256 hvne
      have hvb : isB (v : Int) := by unfold isB; omega
      have hwt := HTU.out j (by have := HFL.out; omega) (v : Int) hvb (by rw [hy0]; exact hvne)
      have hwe := Fr.whl_err hwt
      have hput := own_put hown4 j (.int .u8 (v : Int))
      have hset : (bCells f).set j (.int .u8 (v : Int)) = bCells (f.set j (v : Int)) := set_cells f j (v : Int)
      rw [hset] at hput
      have hsl : (f.set j (v : Int)).length = f.length := List.length_set ..
      have hfb2 : ∀ z ∈ f.set j (v : Int), isB z := fun z hz => by
        rcases List.mem_or_eq_of_mem_set hz with k | rfl
        · exact HFB.out z k
        · exact hvb
      have b5 : Below w.heap.size w (w4.setCell ⟨g, j, none⟩ (.int .u8 (v : Int))) := bb4.setCell (p := ⟨g, j, none⟩) (by have := b1.size; show w.heap.size ≤ g; omega) _
      obtain ⟨f2, hf2⟩ : ∃ f2, f.set j (v : Int) = f2 := ⟨_, rfl⟩
      rw [hf2] at hput hsl hfb2 hwt hwe
      obtain ⟨W5, hW5⟩ : ∃ W5, w4.setCell ⟨g, j, none⟩ (.int .u8 (v : Int)) = W5 := ⟨_, rfl⟩
      rw [hW5] at hput b5
      rw [← hsl] at hput
      have NW5 := NW2.out (some ⟨g, 0, none⟩) cap f2 W5 (one_own hput hfb2) hsl (HH.out.later b5)
      rw [hwe, hsl] at NW5
      obtain ⟨er, her⟩ : ∃ er, (Fr.whl f2).2 = er := ⟨_, rfl⟩
      rw [her] at NW5 hwt
      have hde : (er != 0) = true := bne_iff_ne.2 hwt
      have hcapl : f.length ≤ cap ∧ cap ≤ 9223372036854775807 := by
        obtain ⟨A9, c9, hv9, h8, h9, -⟩ := own_form hown4
        injection hv9 with _ _ e9
        unfold maxLen at h9
        omega
      have NW6 := Lib.hid NW5; have HW5 := Lib.hid hW5; have B5 := Lib.hid b5
      have hi0 : (0 : Int) ≤ (j : Int) := by omega
      have hi1 : (j : Int) < (f.length : Int) := by omega
      have hnz : (f.length : Int) ≠ 0 := by omega
      clear NW5 hW5 b5 hput hsl hfb2 hwt hwe her hf2 hset hv hvne hy0 hyb2 hown4 hvb hx0 hj
      go_wp2_with fail
      rw [HW5.out]
      refine NW6.out.mono ?_
      rintro e w6 ⟨v6, rfl, ho6, b6⟩
      replace ho6 : w6.ownsRow W5.heap.size 5 1 v6 ([] : List Int).length (bCells []) := ho6
      obtain ⟨T, ct, rfl, -⟩ := own_form ho6
      clear ho6
      go_wp2
      go_ret
      exact ⟨rfl, below_on B5.out b6⟩
  · have hse : Fr.sealed p = ([], 1) := by unfold Fr.sealed; rw [if_neg hp]
    simp only [hse] at NS
    have NS2 := Lib.hid NS
    have hd : decide ((1048576 : Int) < (p.length : Int)) = true := decide_eq_true (by omega)
    clear h hH hse NS hp
    go_enter Tryd.func8, Tryd.ntmps8
    go_wp2_with fail
    refine CA.out.mono ?_
    rintro e w1 ⟨rfl, b1⟩
    go_wp2_with fail
    refine (NS2.out w1 (HB.out.later b1) (HH.out.later b1)).mono ?_
    rintro e w2 ⟨v2, rfl, ho2, b2⟩
    clear ho2
    go_wp2
    go_ret
    exact ⟨rfl, below_on b1 b2⟩
end Go.Proofs.YtobgbaejdamecaaDoor
