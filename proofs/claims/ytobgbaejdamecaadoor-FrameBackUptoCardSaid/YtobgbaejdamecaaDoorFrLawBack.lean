/-
  The law FrameBack, walked.
-/
import Derived.Test.YtobgbaejdamecaaDoorFrLawT
namespace Go.Proofs.YtobgbaejdamecaaDoor
open Go.RowKit

namespace Fr
/-- The first frames, one behind the other. -/
def flat (ls : List (List Int)) (i : Nat) : List Int := ((ls.take i).map frm).flatten
theorem flat_succ {ls : List (List Int)} {i : Nat} (hi : i < ls.length) : flat ls (i + 1) = flat ls i ++ frm (ls.getD i []) := by
  unfold flat
  rw [List.take_succ_eq_append_getElem hi, List.getD_eq_getElem?_getD, List.getElem?_eq_getElem hi, List.map_append, List.flatten_append]
  simp
theorem flat_rest (ls : List (List Int)) (i : Nat) : flat ls ls.length = flat ls i ++ ((ls.drop i).map frm).flatten := by
  unfold flat
  rw [List.take_length]
  conv => lhs; rw [← List.take_append_drop i ls, List.map_append, List.flatten_append]
theorem flat_byte {ls : List (List Int)} {i : Nat} (h : ∀ l ∈ ls, ∀ x ∈ l, isB x) : ∀ x ∈ flat ls i, isB x := by
  intro x hx
  unfold flat at hx
  obtain ⟨f, hf, hx⟩ := List.mem_flatten.1 hx
  obtain ⟨p, hp, rfl⟩ := List.mem_map.1 hf
  exact seal_byte (h p (List.mem_of_mem_take hp)) x hx
/-- Where the frames end. -/
def ends (ls : List (List Int)) (i : Nat) : List Int := (List.range i).map fun j => ((flat ls (j + 1)).length : Int)
theorem ends_succ (ls : List (List Int)) (i : Nat) : ends ls (i + 1) = ends ls i ++ [((flat ls (i + 1)).length : Int)] := by
  unfold ends
  rw [List.range_succ, List.map_append]
  rfl
theorem ends_len (ls : List (List Int)) (i : Nat) : (ends ls i).length = i := by unfold ends; simp
theorem ends_cell (ls : List (List Int)) {i j : Nat} (h : j < i) : ((ends ls i).map (Value.int .i64))[j]? = some (.int .i64 ((flat ls (j + 1)).length : Int)) := by
  unfold ends
  simp [h]
theorem cut_all {ls : List (List Int)} (h : ∀ p ∈ ls, p.length ≤ 1048576) : it (flat ls ls.length) ls.length = ((flat ls ls.length).length, ls) ∧ Stop (flat ls ls.length) ls.length := by
  have h1 := it_frames ls.length ls (flat ls ls.length) (Nat.le_refl _) h (List.prefix_refl _)
  rw [List.take_length] at h1
  have h2 : (ls.map frm).flatten = flat ls ls.length := by unfold flat; rw [List.take_length]
  rw [h2] at h1
  refine ⟨h1, ?_⟩
  unfold Stop
  rw [h1]
  dsimp only
  rw [List.drop_length, opn_nil]
  decide
theorem cut_part {ls : List (List Int)} (h : ∀ p ∈ ls, p.length ≤ 1048576) {k a : Nat} (hk : k ≤ ls.length) (ha : (flat ls k).length ≤ a) (hn : k = ls.length ∨ a < (flat ls (k + 1)).length) :
    it ((flat ls ls.length).take a) k = ((flat ls k).length, ls.take k) ∧ Stop ((flat ls ls.length).take a) k := by
  have hr := flat_rest ls k
  have ht : (flat ls ls.length).take a = flat ls k ++ (((ls.drop k).map frm).flatten).take (a - (flat ls k).length) := by
    rw [hr, List.take_append, List.take_of_length_le ha]
  have h1 := it_frames k ls ((flat ls ls.length).take a) hk h ⟨_, ht.symm⟩
  refine ⟨h1, ?_⟩
  unfold Stop
  rw [h1]
  dsimp only
  have hd : ((flat ls ls.length).take a).drop ((List.map frm (List.take k ls)).flatten.length) = (((ls.drop k).map frm).flatten).take (a - (flat ls k).length) := by
    rw [ht]
    exact List.drop_left' rfl
  rw [hd]
  by_cases e : k = ls.length
  · rw [e, List.drop_length]
    simp only [List.map_nil, List.flatten_nil, List.take_nil]
    rw [opn_nil]
    decide
  · have hkl : k < ls.length := by omega
    have hs := flat_succ hkl
    have hlt : a < (flat ls (k + 1)).length := by
      rcases hn with h | h
      · exact absurd h e
      · exact h
    rw [hs, List.length_append, seal_len] at hlt
    have hdk : ls.drop k = ls.getD k [] :: ls.drop (k + 1) := by
      rw [List.drop_eq_getElem_cons hkl, List.getD_eq_getElem?_getD, List.getElem?_eq_getElem hkl]
      rfl
    have hm : ls.getD k [] ∈ ls := by rw [List.getD_eq_getElem?_getD, List.getElem?_eq_getElem hkl]; exact List.getElem_mem hkl
    rw [hdk, List.map_cons, List.flatten_cons, List.take_append_of_le_length (by rw [seal_len]; omega), opn_short _ (h _ hm) _ (by omega)]
    decide
theorem flat_le {ls : List (List Int)} : ∀ {i : Nat}, i ≤ ls.length → (∀ j, j < i → (ls.getD j []).length ≤ 4096) → (flat ls i).length ≤ i * 4104
  | 0, _, _ => by unfold flat; simp
  | i + 1, hi, h => by
    rw [flat_succ (by omega), List.length_append, seal_len]
    have := flat_le (i := i) (by omega) (fun j hj => h j (by omega))
    have := h i (by omega)
    omega
end Fr
theorem infoInt : (Tryd.prog.info? 3).map (fun i => (i.zero, i.size, i.bytes)) = some (some (.int .i64 0), 1, 8) := by kernel_rfl
theorem RowB.head {w : World} {A : Option Addr} {c : Nat} {ls : List (List Int)} (h : RowB w A c ls) (k : Nat) : RowB w A c (ls.take k) := by
  refine ⟨by rw [List.length_take]; have := h.le; omega, h.cap, fun e => ⟨by rw [List.length_take]; have := (h.noA e).1; omega, (h.noA e).2⟩, fun hne => ?_⟩
  obtain ⟨b, off, hA, hc⟩ := h.lies (fun e => hne (by rw [e]; simp))
  refine ⟨b, off, hA, fun j hj => ?_⟩
  rw [List.length_take] at hj
  obtain ⟨X, cx, h1, h2⟩ := hc j (by omega)
  have e : (ls.take k).getD j [] = ls.getD j [] := by rw [List.getD_eq_getElem?_getD, List.getD_eq_getElem?_getD, List.getElem?_take_of_lt (by omega)]
  rw [e]
  exact ⟨X, cx, h1, h2⟩
theorem RowB.byte {w : World} {A : Option Addr} {c : Nat} {ls : List (List Int)} (h : RowB w A c ls) : ∀ l ∈ ls, ∀ x ∈ l, isB x := by
  intro l hl x hx
  obtain ⟨k, hk, rfl⟩ := List.mem_iff_getElem.1 hl
  obtain ⟨b, off, hA, hc⟩ := h.lies (fun e => by subst e; simp at hk)
  obtain ⟨X, cx, h1, h2⟩ := hc k hk
  refine h2.byte x ?_
  rwa [List.getD_eq_getElem?_getD, List.getElem?_eq_getElem hk]
theorem rlists2_any (A B : Option Addr) (c1 c2 n m : Nat) (l r : List (List Int)) (w : World) (hn : l.length = n) (hm : r.length = m) (h1 : RowB w A c1 l) (h2 : RowB w B c2 r) : Calls Tryd.prog 22 #[.slice A n c1, .slice B m c2] w (Says (.bool (decide (l = r))) w) := by
  subst hn hm
  exact rlists_any A B c1 c2 l r w h1 h2
theorem dcut2_any (A : Option Addr) (c n : Nat) (l : List Int) (w : World) (hn : l.length = n) (hl : n ≤ 8388608) (h : OneB w A c l) (hH : Halves w) : Calls Tryd.prog 20 #[.slice A n c] w (CutB l w) := by
  subst hn
  exact dcut_any A c l w hl h hH

set_option maxRecDepth 100000 in
set_option maxHeartbeats 12800000 in
theorem lawFBack_any (A M : Option Addr) (c cm : Nat) (ls : List (List Int)) (n1 : Nat) (m : List Int) (w : World) (h : RowB w A c ls) (hn1 : n1 < 65536) (hm : OneB w M cm m) (hml : m.length ≤ 1048576) (hH : Halves w) :
    Calls Tryd.prog 7 #[.slice A ls.length c, .int .u16 (n1 : Int), .slice M m.length cm] w (Says (.bool true) w) := by
  obtain ⟨i0, hi0, hz0, hz1, hz2⟩ := info_parts infoBy
  obtain ⟨j0, hj0, jz0, jz1, jz2⟩ := info_parts infoInt
  have hbyte := h.byte
  have hll := h.len
  have CA := Lib.hid (falive_any w hH); have HR := Lib.hid h; have HH := Lib.hid hH; have HM := Lib.hid hm; have HBY := Lib.hid hbyte
  clear h hH hm hbyte
  by_cases h30 : 30 < ls.length
  · have hd : decide ((30 : Int) < (ls.length : Int)) = true := decide_eq_true (by omega)
    clear h30
    go_enter Tryd.func7, Tryd.ntmps7
    go_wp2_with fail
    refine CA.out.mono ?_
    rintro e w1 ⟨rfl, b1⟩
    go_wp2
    go_ret
    exact ⟨rfl, b1⟩
  have hd30 : decide ((30 : Int) < (ls.length : Int)) = false := decide_eq_false (by omega)
  have hL30 : ls.length ≤ 30 := by omega
  clear h30
  go_enter Tryd.func7, Tryd.ntmps7
  go_wp2_with fail
  refine CA.out.mono ?_
  rintro e w1 ⟨rfl, b1⟩
  go_wp2_with fail
  go_loopw [7, 8, 9, 10, 11, 12, 13, 14] (fun s7 s8 s9 _ _ _ _ _ wr => ∃ i : Nat, s9 = .int .i64 (i : Int) ∧ i ≤ ls.length ∧ wr.ownsRow w.heap.size 5 1 s7 (Fr.flat ls i).length (bCells (Fr.flat ls i)) ∧ wr.ownsRow w.heap.size 3 1 s8 i ((Fr.ends ls i).map (Value.int .i64)) ∧ (∀ j, j < i → (ls.getD j []).length ≤ 4096) ∧ Below w.heap.size w wr) (fun _ _ s9 _ _ _ _ _ _ => ls.length - (intOf s9).toNat)
  case atStart => exact ⟨0, rfl, Nat.zero_le _, ⟨rfl, .inl ⟨rfl, rfl⟩⟩, ⟨rfl, .inl ⟨rfl, rfl⟩⟩, (fun j hj => by omega), b1⟩
  case round =>
    obtain ⟨i, rfl, hi, hall, hends, hsm, hbw⟩ := hrel
    have hfl := Fr.flat_le hi hsm
    have HALL := Lib.hid hall; have HENDS := Lib.hid hends; have HSM := Lib.hid hsm; have HBW := Lib.hid hbw
    clear hall hends hsm hbw
    by_cases hil : i < ls.length
    · have hd : decide ((i : Int) < (ls.length : Int)) = true := decide_eq_true (by omega)
      have hne : ls ≠ [] := fun e => by rw [e] at hil; simp at hil
      obtain ⟨b, off, hA, hcA⟩ := (HR.out.later HBW.out).lies hne
      obtain ⟨X, cx, c0, hX⟩ := hcA i hil
      have hcap := HR.out.cap
      have hle := HR.out.le
      unfold maxLen at hcap
      have hsucc := Fr.flat_succ hil
      have hesucc := Fr.ends_succ ls i
      have hsm1 : ∀ x : List Int, ls.getD i [] = x → x.length ≤ 4096 → ∀ j, j < i + 1 → (ls.getD j []).length ≤ 4096 := fun x e hx j hj => by
        by_cases ej : j = i
        · rw [ej, e]; exact hx
        · exact HSM.out j (by omega)
      obtain ⟨x, hxe⟩ : ∃ x, ls.getD i [] = x := ⟨_, rfl⟩
      rw [hxe] at c0 hX hsucc
      have HSM1 := Lib.hid (hsm1 x hxe); have HX := Lib.hid hX; have HSU := Lib.hid hsucc; have HES := Lib.hid hesucc
      have hi1 : (0 : Int) ≤ (i : Int) := by omega
      have hi2 : (i : Int) < (ls.length : Int) := by omega
      subst hA
      clear hcA hsucc hesucc hsm1 hxe hX hne
      by_cases h4 : 4096 < x.length
      · have hd4 : decide ((4096 : Int) < (x.length : Int)) = true := decide_eq_true (by omega)
        clear h4
        go_wp2
        go_ret
        exact ⟨rfl, HBW.out⟩
      · have hd4 : decide ((4096 : Int) < (x.length : Int)) = false := decide_eq_false (by omega)
        have hx4 : x.length ≤ 4096 := by omega
        have hse : Fr.sealed x = (Fr.frm x, 0) := by unfold Fr.sealed; rw [if_pos (by omega)]
        have hop := Fr.opn_seal x m (by omega)
        have hfm := Fr.seal_len x
        have hfb := Fr.seal_byte HX.out.byte
        have NS := dseal_any X cx x wr HX.out (HH.out.later HBW.out)
        rw [hse] at NS
        obtain ⟨f, hf⟩ : ∃ f, Fr.frm x = f := ⟨_, rfl⟩
        have hsu := HSU.out
        have hes := HES.out
        rw [hf] at hop hfm hfb NS hsu
        have hflen : (Fr.flat ls (i + 1)).length = (Fr.flat ls i).length + f.length := by rw [hsu, List.length_append]
        rw [← hfm] at hop
        have NS2 := Lib.hid (show Calls Tryd.prog 13 #[.slice X x.length cx] wr (GivesBE f 0 wr) from NS)
        have HOP := Lib.hid hop; have HFM := Lib.hid hfm; have HFB := Lib.hid hfb; have HSU2 := Lib.hid hsu; have HES2 := Lib.hid hes; have HFLN := Lib.hid hflen
        have hf8 : f.length ≤ 4104 := by omega
        clear h4 hse hop hfm hfb NS hf hsu hes hflen HSU HES
        go_wp2_with fail
        refine NS2.out.mono ?_
        rintro e w2 ⟨v2, rfl, ho2, b2⟩
        obtain ⟨Y, cy, rfl, hY⟩ := OneB.of_own ho2 HFB.out
        have HY := Lib.hid hY
        have CC := Lib.hid (bcopy_any Y cy f w2 (by omega) hY)
        have bb2 := below_on HBW.out b2
        clear ho2 hY
        go_wp2_with fail
        refine CC.out.mono ?_
        rintro e w3 ⟨v3, rfl, ho3, b3⟩
        have bb3 := below_on bb2 b3
        have hz3 := b3.size
        have HO3 := Lib.hid ho3
        clear ho3
        go_wp2_with (at_builtin; refine wpList_append_lies _ rfl _ _ 22 rfl w2.heap.size 5 i0 (.int .u8 0) 1 1 Tryd.underlying22 hi0 hz0 hz1 hz2 rfl (by decide) _ f.length (bCells f) rfl HO3.out M m.length cm (HM.out.later bb3).noA (bCells m) rfl (by rw [bCells_length, Nat.mul_one]) (HM.out.later bb3).lies (bCells_one m) (by unfold maxLen; omega) (by omega) hz3 ?_)
        intro v4 w4 ho4 hg4 _
        have b4 : Below w2.heap.size w2 w4 := b3.grown hg4 hz3 (fun k' hk' => own_ge HO3.out k' hk')
        have bb4 := below_on bb2 b4
        rw [← bCells_append, ← List.length_append] at ho4
        obtain ⟨Z, cz, rfl, hZ⟩ := OneB.of_own ho4 (fun z hz => (List.mem_append.1 hz).elim (HFB.out z) (HM.out.byte z))
        have NO := dopen_any Z cz (f ++ m) w4 hZ (HH.out.later bb4)
        rw [HOP.out, List.length_append] at NO
        have NO2 := Lib.hid (show Calls Tryd.prog 16 #[.slice Z (f.length + m.length) cz] w4 (GivesO (x, (f.length : Int), 0) w4) from NO)
        have B4 := Lib.hid b4
        clear NO ho4 hg4 b4 hZ
        try rw [List.length_append]
        go_wp2_with fail
        refine NO2.out.mono ?_
        rintro e w5 ⟨v5, rfl, ho5, b5⟩
        replace ho5 : w5.ownsRow w4.heap.size 5 1 v5 x.length (bCells x) := ho5
        obtain ⟨P, cp, rfl, hP⟩ := OneB.of_own ho5 HX.out.byte
        have bb5 := below_on bb4 b5
        have b25 : Below wr.heap.size wr w5 := below_on b2 (below_on B4.out b5)
        have d0 := cell_later b25 c0
        have NM := bsame_any P X cp cx x x w5 hP (HX.out.later b25)
        rw [decide_eq_true rfl] at NM
        have NM2 := Lib.hid NM
        have hself : ((f.length : Int) != (f.length : Int)) = false := by simp
        clear NM ho5 hP
        go_wp2_with fail
        refine NM2.out.mono ?_
        rintro e w6 ⟨rfl, b6⟩
        have b26 : Below wr.heap.size wr w6 := below_on b25 b6
        have bb6 := below_on bb5 b6
        have hz6 := bb6.size
        have HALL6 := Lib.hid (own_later HALL.out b26)
        have hY6 := HY.out.later (below_on (below_on B4.out b5) b6)
        have HY6 := Lib.hid hY6
        have HENDS6 := Lib.hid (own_later HENDS.out b26)
        clear hY6 d0 c0 hself
        go_wp2_with (at_builtin; refine wpList_append_lies _ rfl _ _ 22 rfl w.heap.size 5 i0 (.int .u8 0) 1 1 Tryd.underlying22 hi0 hz0 hz1 hz2 rfl (by decide) _ (Fr.flat ls i).length (bCells (Fr.flat ls i)) rfl HALL6.out Y f.length cy HY6.out.noA (bCells f) rfl (by rw [bCells_length, Nat.mul_one]) HY6.out.lies (bCells_one f) (by unfold maxLen; omega) (by omega) hz6 ?_)
        intro v7 w7 ho7 hg7 _
        have b7 : Below w.heap.size w w7 := bb6.grown hg7 hz6 (fun k' hk' => own_ge HALL6.out k' hk')
        have hends7 := own_stays HENDS6.out (fun k hk => hg7.block k (own_lt HENDS6.out k hk) (own_apart HENDS6.out HALL6.out (by decide) k hk))
        rw [← bCells_append, ← List.length_append, ← HSU2.out] at ho7
        obtain ⟨Q, cq, hv7, -⟩ := own_form ho7
        rw [hv7] at ho7
        subst hv7
        have HO7 := Lib.hid ho7; have HE7 := Lib.hid hends7; have B7 := Lib.hid b7
        have hz7 := b7.size
        clear ho7 hg7 b7 hends7
        try rw [← List.length_append, ← HSU2.out]
        go_wp2_with (at_builtin; refine wpList_append_lies _ rfl _ _ 39 rfl w.heap.size 3 j0 (.int .i64 0) 1 8 Tryd.underlying39 hj0 jz0 jz1 jz2 rfl (by decide) _ i ((Fr.ends ls i).map (Value.int .i64)) rfl (HE7.out.alloc _) (some ⟨w7.heap.size, 0, none⟩) 1 1 (fun h => by cases h) [.int .i64 ((Fr.flat ls (i + 1)).length : Int)] rfl rfl (fun _ => ⟨w7.heap.size, 0, rfl, fun j u hu => by rw [Nat.zero_add]; exact (Blk.new w7 3 #[.int .i64 ((Fr.flat ls (i + 1)).length : Int)]).cell (by simpa using hu)⟩) (by intro u hu; simp at hu; subst hu; rfl) (by unfold maxLen; omega) (by omega) (by simp; omega) ?_)
        intro v8 w8 ho8 hg8 _
        have bn := below_new B7.out (.cells #[.int .i64 ((Fr.flat ls (i + 1)).length : Int)] 3)
        have b8 := bn.grown hg8 bn.size (fun k' hk' => own_ge (HE7.out.alloc (.cells #[.int .i64 ((Fr.flat ls (i + 1)).length : Int)] 3)) k' hk')
        have hall8 := own_stays (HO7.out.alloc (.cells #[.int .i64 ((Fr.flat ls (i + 1)).length : Int)] 3)) (fun k hk => hg8.block k (own_lt (HO7.out.alloc (.cells #[.int .i64 ((Fr.flat ls (i + 1)).length : Int)] 3)) k hk) (own_apart (HO7.out.alloc (.cells #[.int .i64 ((Fr.flat ls (i + 1)).length : Int)] 3)) (HE7.out.alloc (.cells #[.int .i64 ((Fr.flat ls (i + 1)).length : Int)] 3)) (by decide) k hk))
        have hcells : (Fr.ends ls i).map (Value.int .i64) ++ [.int .i64 ((Fr.flat ls (i + 1)).length : Int)] = (Fr.ends ls (i + 1)).map (Value.int .i64) := by rw [HES2.out, List.map_append]; rfl
        rw [hcells] at ho8
        have HO8 := Lib.hid ho8; have HA8 := Lib.hid hall8; have B8 := Lib.hid b8
        clear ho8 hg8 b8 hall8 bn hcells
        go_wp2_with fail
        go_roundw
        case rel => exact ⟨i + 1, by first | rfl | (congr 1; omega), by omega, HA8.out, HO8.out, HSM1.out hx4, B8.out⟩
        case measure => simp [intOf]; omega
    · obtain rfl : i = ls.length := by omega
      have hd : decide ((ls.length : Int) < (ls.length : Int)) = false := decide_eq_false (by omega)
      have hfi : ((Fr.flat ls ls.length).length : Int) ≤ 8388608 := by omega
      obtain ⟨FA, fc, rfl, hf1, hf2, hf3, hf4⟩ := own_form HALL.out
      obtain ⟨EA, ec, rfl, he1, he2, he3, he4⟩ := own_form HENDS.out
      have hFO := one_own HALL.out (Fr.flat_byte HBY.out)
      have hp20 : ∀ p ∈ ls, p.length ≤ 1048576 := fun p hp => by
        obtain ⟨j, hj, rfl⟩ := List.mem_iff_getElem.1 hp
        have := HSM.out j hj
        rw [List.getD_eq_getElem?_getD, List.getElem?_eq_getElem hj] at this
        exact Nat.le_trans this (by omega)
      obtain ⟨ha1, ha2⟩ := Fr.cut_all hp20
      have hpart := fun (k a : Nat) (hk : k ≤ ls.length) (ha : (Fr.flat ls k).length ≤ a) (hn : k = ls.length ∨ a < (Fr.flat ls (k + 1)).length) => Fr.cut_part hp20 hk ha hn
      have hflm : ∀ k, (Fr.flat ls 0).length ≤ k := fun k => by unfold Fr.flat; simp
      have hcellE : ∀ k, k < ls.length → ((Fr.ends ls ls.length).map (Value.int .i64))[k]? = some (.int .i64 ((Fr.flat ls (k + 1)).length : Int)) := fun k hk => Fr.ends_cell ls hk
      obtain ⟨F, hF⟩ : ∃ F, Fr.flat ls ls.length = F := ⟨_, rfl⟩
      rw [hF] at hfl hfi hf1 hf3 hf4 hFO ha1 ha2
      simp only [hF] at hpart
      have HF := Lib.hid hF
      have NC := Lib.hid (dcut_any FA fc F wr (by omega) hFO (HH.out.later HBW.out))
      have HPART := Lib.hid hpart; have HFO := Lib.hid hFO; have HA1 := Lib.hid ha1; have HA2 := Lib.hid ha2; have HP := Lib.hid hp20
      have HCE := Lib.hid hcellE; have HE4 := Lib.hid he4; have HFM := Lib.hid hflm
      clear hF hpart hFO ha1 ha2 hp20 hcellE he4 hf4 HALL HSM hflm
      rw [HF.out]
      go_wp2_with fail
      refine NC.out.mono ?_
      rintro e w2 ⟨v, cs, acc, at1, kk, rfl, hown, hit, hst, b2⟩
      have hit2 : (at1, acc) = (F.length, ls) := by rw [← hit, ← HA1.out]; exact Fr.it_one hst HA2.out
      injection hit2 with e1 e2
      subst e1 e2
      have bb2 := below_on HBW.out b2
      obtain ⟨LA, lc, rfl, hLA⟩ := hown.one
      have NL := rlists_any LA A lc c acc acc w2 hLA (HR.out.later bb2)
      rw [decide_eq_true rfl] at NL
      have NL2 := Lib.hid NL
      clear hit hst hown hLA NL
      have hbf : ((F.length : Int) != (F.length : Int)) = false := by simp
      go_wp2_with fail
      refine NL2.out.mono ?_
      rintro e w3 ⟨rfl, b3⟩
      have bb3 := below_on bb2 b3
      obtain ⟨a, ha⟩ : ∃ a, n1 % (F.length + 1) = a := ⟨_, rfl⟩
      have hal : a ≤ F.length := by rw [← ha]; have := Nat.mod_lt n1 (show 0 < F.length + 1 by omega); omega
      have hrem : (n1 : Int) % ((F.length : Int) + 1) = (a : Int) := by rw [← ha]; push_cast; rfl
      have hnz : ((F.length : Int) + 1) ≠ 0 := by omega
      have BB3 := Lib.hid bb3; have B3 := Lib.hid b3; have B2 := Lib.hid b2
      have b23 := below_on B2.out b3
      have HCL : Hid (∀ k, k < acc.length → ∃ b off, EA = some ⟨b, off, none⟩ ∧ w3.cell? ⟨b, off + k, none⟩ = some (.int .i64 ((Fr.flat acc (k + 1)).length : Int))) := Lib.hid (fun k hk => by
        obtain ⟨b, off, hA, hc⟩ := HE4.out (fun e => by
          have := HCE.out k hk
          rw [e] at this
          cases this)
        exact ⟨b, off, hA, cell_later b23 (hc k _ (HCE.out k hk))⟩)
      clear ha bb3 b3 b2 b23
      go_wp2_with fail
      go_loopw [18] (fun s18 wl => ∃ k : Nat, s18 = .int .i64 (k : Int) ∧ k ≤ acc.length ∧ (Fr.flat acc k).length ≤ a ∧ wl = w3) (fun s18 _ => acc.length - (intOf s18).toNat)
      case atStart => exact ⟨0, rfl, Nat.zero_le _, HFM.out a, rfl⟩
      case round =>
        obtain ⟨k, rfl, hk, hka, rfl⟩ := hrel
        by_cases hkl : k < acc.length
        · have hdk : decide ((k : Int) < (acc.length : Int)) = true := decide_eq_true (by omega)
          obtain ⟨eb, eo, rfl, c0⟩ := HCL.out k hkl
          have hk1 : (0 : Int) ≤ (k : Int) := by omega
          have hk2 : (k : Int) < (acc.length : Int) := by omega
          by_cases hka2 : (Fr.flat acc (k + 1)).length ≤ a
          · have hdf : decide (((Fr.flat acc (k + 1)).length : Int) ≤ (a : Int)) = true := decide_eq_true (by omega)
            go_wp2
            go_roundw
            case rel => exact ⟨k + 1, by first | rfl | (congr 1; omega), by omega, hka2, by first | trivial | rfl⟩
            case measure => simp [intOf]; omega
          · have hdf : decide (((Fr.flat acc (k + 1)).length : Int) ≤ (a : Int)) = false := decide_eq_false (by omega)
            obtain ⟨hp1, hp2⟩ := HPART.out k a hk hka (.inr (by omega))
            have htk : (acc.take k).length = k := by rw [List.length_take]; omega
            have NC2 := dcut2_any FA fc a (F.take a) wr (by rw [List.length_take]; omega) (by omega) ((HFO.out.later (below_on B2.out B3.out)).head a) (HH.out.later BB3.out)
            have HP1 := Lib.hid hp1; have HP2 := Lib.hid hp2; have NC3 := Lib.hid NC2; have HTK := Lib.hid htk
            clear hp1 hp2 NC2 htk
            go_wp2_with fail
            refine NC3.out.mono ?_
            rintro e w4 ⟨v4, cs4, acc4, at4, k4, rfl, hown4, hit4, hst4, b4⟩
            have hit5 : (at4, acc4) = ((Fr.flat acc k).length, acc.take k) := by rw [← hit4, ← HP1.out]; exact Fr.it_one hst4 HP2.out
            injection hit5 with e1 e2
            subst e1 e2
            have bb4 := below_on BB3.out b4
            obtain ⟨LB, lb, hv4, hLB⟩ := hown4.one
            rw [HTK.out] at hv4
            subst hv4
            have NL3 := rlists2_any LB A lb c k k (acc.take k) (acc.take k) w4 HTK.out HTK.out hLB ((HR.out.later bb4).head k)
            rw [decide_eq_true rfl] at NL3
            have NL4 := Lib.hid NL3
            have BB4 := Lib.hid bb4; have B4 := Lib.hid b4
            have hsk0 := HR.out.le
            have hsk : k ≤ c := by omega
            clear hit4 hst4 hown4 hLB NL3 bb4 b4
            by_cases hk0 : k = 0
            · have hd0 : ((k : Int) == 0) = true := by rw [beq_iff_eq]; omega
              have hn0 : (((Fr.flat acc k).length : Int) == 0) = true := by
                rw [beq_iff_eq, hk0]
                unfold Fr.flat
                simp
              clear hk0
              go_wp2_with fail
              refine NL4.out.mono ?_
              rintro e w5 ⟨rfl, b5⟩
              go_wp2_with fail
              go_ret
              exact ⟨rfl, below_on BB4.out b5⟩
            · have hd0 : ((k : Int) == 0) = false := by rw [beq_eq_false_iff_ne]; omega
              have hdg : decide ((0 : Int) < (k : Int)) = true := decide_eq_true (by omega)
              obtain ⟨j, hj⟩ : ∃ j, k = j + 1 := ⟨k - 1, by omega⟩
              obtain ⟨eb2, eo2, hE2, c2⟩ := HCL.out j (by omega)
              rw [← hj] at c2
              have hsub : (k : Int) - 1 = (j : Int) := by omega
              have hbs : (((Fr.flat acc k).length : Int) == ((Fr.flat acc k).length : Int)) = true := by simp
              have hj1 : (0 : Int) ≤ (j : Int) := by omega
              have hj2 : (j : Int) < (acc.length : Int) := by omega
              clear hj hk0
              cases hE2
              go_wp2_with fail
              refine NL4.out.mono ?_
              rintro e w5 ⟨rfl, b5⟩
              have c3 := cell_later (below_on B4.out b5) c2
              clear c2
              go_wp2_with fail
              go_ret
              exact ⟨rfl, below_on BB4.out b5⟩
        · have hdk : decide ((k : Int) < (acc.length : Int)) = false := decide_eq_false (by omega)
          obtain ⟨hp1, hp2⟩ := HPART.out k a hk hka (.inl (by omega))
          have htk : (acc.take k).length = k := by rw [List.length_take]; omega
          have NC2 := dcut2_any FA fc a (F.take a) wr (by rw [List.length_take]; omega) (by omega) ((HFO.out.later (below_on B2.out B3.out)).head a) (HH.out.later BB3.out)
          have HP1 := Lib.hid hp1; have HP2 := Lib.hid hp2; have NC3 := Lib.hid NC2; have HTK := Lib.hid htk
          clear hp1 hp2 NC2 htk
          go_wp2_with fail
          refine NC3.out.mono ?_
          rintro e w4 ⟨v4, cs4, acc4, at4, k4, rfl, hown4, hit4, hst4, b4⟩
          have hit5 : (at4, acc4) = ((Fr.flat acc k).length, acc.take k) := by rw [← hit4, ← HP1.out]; exact Fr.it_one hst4 HP2.out
          injection hit5 with e1 e2
          subst e1 e2
          have bb4 := below_on BB3.out b4
          obtain ⟨LB, lb, hv4, hLB⟩ := hown4.one
          rw [HTK.out] at hv4
          subst hv4
          have NL3 := rlists2_any LB A lb c k k (acc.take k) (acc.take k) w4 HTK.out HTK.out hLB ((HR.out.later bb4).head k)
          rw [decide_eq_true rfl] at NL3
          have NL4 := Lib.hid NL3
          have BB4 := Lib.hid bb4; have B4 := Lib.hid b4
          have hsk0 := HR.out.le
          have hsk : k ≤ c := by omega
          clear hit4 hst4 hown4 hLB NL3 bb4 b4
          by_cases hk0 : k = 0
          · have hd0 : ((k : Int) == 0) = true := by rw [beq_iff_eq]; omega
            have hn0 : (((Fr.flat acc k).length : Int) == 0) = true := by
              rw [beq_iff_eq, hk0]
              unfold Fr.flat
              simp
            clear hk0
            go_wp2_with fail
            refine NL4.out.mono ?_
            rintro e w5 ⟨rfl, b5⟩
            go_wp2_with fail
            go_ret
            exact ⟨rfl, below_on BB4.out b5⟩
          · have hd0 : ((k : Int) == 0) = false := by rw [beq_eq_false_iff_ne]; omega
            have hdg : decide ((0 : Int) < (k : Int)) = true := decide_eq_true (by omega)
            obtain ⟨j, hj⟩ : ∃ j, k = j + 1 := ⟨k - 1, by omega⟩
            obtain ⟨eb2, eo2, hE2, c2⟩ := HCL.out j (by omega)
            rw [← hj] at c2
            have hsub : (k : Int) - 1 = (j : Int) := by omega
            have hbs : (((Fr.flat acc k).length : Int) == ((Fr.flat acc k).length : Int)) = true := by simp
            have hj1 : (0 : Int) ≤ (j : Int) := by omega
            have hj2 : (j : Int) < (acc.length : Int) := by omega
            clear hj hk0
            subst hE2
            go_wp2_with fail
            refine NL4.out.mono ?_
            rintro e w5 ⟨rfl, b5⟩
            have c3 := cell_later (below_on B4.out b5) c2
            clear c2
            go_wp2_with fail
            go_ret
            exact ⟨rfl, below_on BB4.out b5⟩
end Go.Proofs.YtobgbaejdamecaaDoor
