/-
  The law DiskApart, walked.
-/
import Derived.Test.YtgjcpdcepmgafaaDkAlive
import Derived.Test.YtgjcpdcepmgafaaDkSame
import Derived.Test.YtgjcpdcepmgafaaDkRCrash
namespace Go.Proofs.Ytgjcpdcepmgafaa
open Go.RowKit

/-- Worlds that agree but for the blocks from lo up to hi. -/
structure Kept (lo hi : Nat) (w w' : World) : Prop where
  size : w.heap.size ≤ w'.heap.size
  same : ∀ k, k < w.heap.size → (k < lo ∨ hi ≤ k) → w'.heap[k]? = w.heap[k]?
theorem Kept.refl (lo hi : Nat) (w : World) : Kept lo hi w w := ⟨Nat.le_refl _, fun _ _ _ => rfl⟩
theorem Kept.put {lo hi : Nat} {w w' : World} (h : Kept lo hi w w') {p : Addr} (h1 : lo ≤ p.block) (h2 : p.block < hi) (u : Value) : Kept lo hi w (w'.setCell p u) :=
  ⟨by simpa using h.size, fun k hk ho => (Below.heap_setCell _ _ _ _ (by omega)).trans (h.same k hk ho)⟩
theorem Kept.blk {lo hi : Nat} {w w' : World} (h : Kept lo hi w w') {k d : Nat} {cs : Array Value} (hb : Blk w k d cs) (ho : k < lo ∨ hi ≤ k) : Blk w' k d cs := (h.same k hb.lt ho).trans hb
theorem OwnD.above {lo hi : Nat} {w w' : World} {base : Nat} {t e : TypeId} {v : Value} {L : List Fc} (h : OwnD w base t e v L) (hk : Kept lo hi w w') (hb : hi ≤ base) : OwnD w' base t e v L := by
  refine ⟨own_stays h.row fun k hkb => hk.same k ?_ (.inr (by have := own_ge h.row k hkb; omega)), fun f hf => (h.each f hf).stays fun k hkb => hk.same k ((h.each f hf).lt k hkb).2 (.inr (by have := ((h.each f hf).lt k hkb).1; omega)), h.apart⟩
  rcases h.row.2 with ⟨h1, _⟩ | ⟨g, cap, cur, h1, _, h3, _⟩
  · rw [h1] at hkb; cases hkb
  · rw [h1] at hkb
    injection hkb with hkb
    have hkb2 : g = k := hkb
    subst hkb2
    exact (Array.getElem?_eq_some_iff.1 h3).1
/-- A file's number, in place. -/
theorem OwnD.put0 {w : World} {n0 g N cap i : Nat} {t e : TypeId} {L : List Fc} {f : Fc} (hne : t ≠ e) (h : OwnD w n0 t e (.slice (some ⟨g, 0, none⟩) N cap) L) (hN : L.length = N) (hf : L[i]? = some f) (n : Int) : OwnD (w.setCell ⟨g, i * 3, none⟩ (.int .i64 n)) n0 t e (.slice (some ⟨g, 0, none⟩) N cap) (L.set i { f with num := n }) := by
  have ho := h.each f (List.mem_of_getElem? hf)
  have hrow : w.ownsRow n0 t 3 (.slice (some ⟨g, 0, none⟩) N cap) N (fCells L) := by have h9 := h.row; rw [hN] at h9; exact h9
  have hb := ho.off_row hrow hne
  have hr := own_put hrow (i * 3) (.int .i64 n)
  rw [fCells_set0 f n L i hf] at hr
  exact h.upd hne hN hf hr ((ho.num n f.s).far (p := ⟨g, i * 3, none⟩) hb _) rfl (fun _ _ h1 _ => Below.heap_setCell _ _ _ _ h1)
/-- One of its bytes, in place. -/
theorem OwnD.putB {w : World} {n0 g N cap i b off k : Nat} {t e : TypeId} {L : List Fc} {f : Fc} {y : Int} (hne : t ≠ e) (h : OwnD w n0 t e (.slice (some ⟨g, 0, none⟩) N cap) L) (hN : L.length = N) (hf : L[i]? = some f) (hX : f.X = some ⟨b, off, none⟩) (hy : isB y) :
    OwnD (w.setCell ⟨b, k, none⟩ (.int .u8 y)) n0 t e (.slice (some ⟨g, 0, none⟩) N cap) (L.set i { f with l := f.l.set k y }) := by
  have ho := h.each f (List.mem_of_getElem? hf)
  have hrow : w.ownsRow n0 t 3 (.slice (some ⟨g, 0, none⟩) N cap) N (fCells L) := by have h9 := h.row; rw [hN] at h9; exact h9
  have hng := ho.off_row hrow hne
  have hxb : f.blk = some b := by unfold Fc.blk; rw [hX]; rfl
  have hbg : g ≠ b := fun e => hng (by rw [hxb, e])
  refine h.upd hne hN hf ?_ (ho.put hX k y hy) rfl (fun q _ _ h3 => Below.heap_setCell _ _ _ _ (fun e => h3 (by rw [hxb]; exact congrArg some e.symm)))
  rw [fCells_same L i f _ hf (by rw [List.length_set])]
  have h5 := own_stays hrow (w' := w.setCell ⟨b, k, none⟩ (.int .u8 y)) (fun q hq => by
    have : g = q := by injection hq
    subst this
    exact Below.heap_setCell _ _ _ _ hbg)
  exact h5

set_option maxRecDepth 100000 in
set_option maxHeartbeats 6400000 in
theorem lawDiskApart_any (room n : Int) (A B : Option Addr) (c cb : Nat) (L : List Fc) (b : List Int) (w : World) (h : OneD w A c L) (hb : OneB w B cb b) :
    Calls Try.prog 6 #[.agg #[.int .i64 room, .slice A L.length c], .int .i64 n, .slice B b.length cb] w (Says (.bool true) w) := by
  obtain ⟨⟨rm, fs, k⟩, hR⟩ : ∃ r, Dk.appR room (L.map Fc.fi) n b = r := ⟨_, rfl⟩
  have HR := Lib.hid hR
  clear hR
  have hbl := hb.len
  have HD0 := Lib.hid h
  have HB0 := Lib.hid hb
  have b0 := below_new (Below.refl w.heap.size w) (.cells #[.int .i64 room, .slice A L.length c] 24)
  have HBB := Lib.hid (hb.later b0)
  clear b0 hb
  have bz := below_new (Below.refl w.heap.size w) (.cells #[.int .i64 room, .slice A L.length c] 24)
  have HD := Lib.hid (h.later bz)
  have Y3 := Lib.hid (Blk.new w 24 #[.int .i64 room, .slice A L.length c])
  have BB0 := Lib.hid bz
  clear bz h
  go_enter Try.func6, Try.ntmps6
  have nn := dalive_any (w.alloc (.cells #[.int .i64 room, .slice A L.length c] 24))
  have NN := Lib.hid nn
  clear nn
  go_wp2_with fail
  refine NN.out.mono ?_
  clear NN
  rintro e x1 ⟨rfl, bz⟩
  replace HBB := Lib.hid (HBB.out.later bz)
  replace HD := Lib.hid (HD.out.later bz)
  replace Y3 := Lib.hid (Y3.out.later bz)
  have BB1 := Lib.hid (below_on BB0.out bz)
  clear bz
  have h3x : w.heap.size < x1.heap.size := Y3.out.lt
  have nn := dappend_any room n A B c cb L b _ HD.out HBB.out
  rw [HR.out] at nn
  have NN := Lib.hid nn
  clear nn
  have cY30 := Y3.out.cell (i := 0) rfl
  have cY31 := Y3.out.cell (i := 1) rfl
  go_wp2_with fail
  refine NN.out.mono ?_
  clear NN
  intro e xx h
  obtain ⟨Ax, cx, Lx, rfl, hO, hf, bz⟩ := h.open
  clear h
  clear cY30 cY31
  replace HBB := Lib.hid (HBB.out.later bz)
  replace HD := Lib.hid (HD.out.later bz)
  replace Y3 := Lib.hid (Y3.out.later bz)
  have HLTx := Lib.hid hO.blk_lt
  have SZx := Lib.hid bz.size
  have HLGx := Lib.hid (fun (g : Nat) (hg : Ax = some ⟨g, 0, none⟩) => (show g < xx.heap.size from by subst hg; exact (own_base_le hO.row).2))
  have Px := Lib.hid (hO)
  have HFx := Lib.hid hf
  have BB2 := Lib.hid (below_on BB1.out bz)
  clear bz hO hf
  have bz := below_new (Below.refl xx.heap.size xx) (.cells #[.int .i64 rm, .slice Ax Lx.length cx] 24)
  replace HBB := Lib.hid (HBB.out.later bz)
  replace HD := Lib.hid (HD.out.later bz)
  replace Y3 := Lib.hid (Y3.out.later bz)
  replace Px := Lib.hid (Px.out.later bz)
  have Y7 := Lib.hid (Blk.new xx 24 #[.int .i64 rm, .slice Ax Lx.length cx])
  have BB2a := Lib.hid (below_on BB2.out bz)
  clear bz
  have nn := dappend_any room n A B c cb L b _ HD.out HBB.out
  rw [HR.out] at nn
  have NN := Lib.hid nn
  clear nn
  have cY30 := Y3.out.cell (i := 0) rfl
  have cY31 := Y3.out.cell (i := 1) rfl
  go_wp2_with fail
  refine NN.out.mono ?_
  clear NN
  intro e xy h
  obtain ⟨Ay, cy, Ly, rfl, hO, hf, bz⟩ := h.open
  clear h
  clear cY30 cY31
  replace HBB := Lib.hid (HBB.out.later bz)
  replace HD := Lib.hid (HD.out.later bz)
  replace Y3 := Lib.hid (Y3.out.later bz)
  replace Px := Lib.hid (Px.out.later bz)
  replace Y7 := Lib.hid (Y7.out.later bz)
  have HLTy := Lib.hid hO.blk_lt
  have SZy := Lib.hid bz.size
  have HLGy := Lib.hid (fun (g : Nat) (hg : Ay = some ⟨g, 0, none⟩) => (show g < xy.heap.size from by subst hg; exact (own_base_le hO.row).2))
  have Py := Lib.hid (hO)
  have HFy := Lib.hid hf
  have BB3 := Lib.hid (below_on BB2a.out bz)
  clear bz hO hf
  have bz := below_new (Below.refl xy.heap.size xy) (.cells #[.int .i64 rm, .slice Ay Ly.length cy] 24)
  replace HBB := Lib.hid (HBB.out.later bz)
  replace HD := Lib.hid (HD.out.later bz)
  replace Y3 := Lib.hid (Y3.out.later bz)
  replace Px := Lib.hid (Px.out.later bz)
  replace Y7 := Lib.hid (Y7.out.later bz)
  replace Py := Lib.hid (Py.out.later bz)
  have Y9 := Lib.hid (Blk.new xy 24 #[.int .i64 rm, .slice Ay Ly.length cy])
  have BB3a := Lib.hid (below_on BB3.out bz)
  clear bz
  have hlx : Lx.length ≤ 9223372036854775807 := Px.out.oneD.len
  have hb2 : (xx.alloc (.cells #[.int .i64 rm, .slice Ax Lx.length cx] 24)).heap.size = xx.heap.size + 1 := by simp
  have PY := Lib.hid (Py.out.lower (base' := xx.heap.size + 1) (by rw [hb2]; exact Nat.le_refl _))
  have hyy : xx.heap.size + 1 ≤ xy.heap.size := by have h := SZy.out; rw [hb2] at h; exact h
  have hxx : x1.heap.size ≤ xx.heap.size := SZx.out
  have hx9 := Y9.out.lt
  have hx7 := Y7.out.lt
  have hx3 := Y3.out.lt
  clear Py hb2 SZx SZy HLTy HLGy
  go_wp2_with fail
  go_loopw [11] (fun s11 wr => ∃ (i : Nat) (M : List Fc), i ≤ Lx.length ∧ s11 = .int .i64 (i : Int) ∧ OwnD wr x1.heap.size 43 5 (.slice Ax Lx.length cx) M ∧ M.length = Lx.length ∧ (∀ f ∈ M, ∀ b, f.blk = some b → b < xx.heap.size) ∧ Kept x1.heap.size xx.heap.size (xy.alloc (.cells #[.int .i64 rm, .slice Ay Ly.length cy] 24)) wr ∧ Below w.heap.size w wr) (fun s11 _ => Lx.length - (intOf s11).toNat)
  case atStart => exact ⟨0, Lx, Nat.zero_le _, rfl, Px.out, rfl, HLTx.out, Kept.refl _ _ _, BB3a.out⟩
  case round =>
    obtain ⟨i, M, hi, rfl, hO, hM, hlt, hK, hbw⟩ := hrel
    have hY7 := hK.blk Y7.out (.inr (Nat.le_refl _))
    have d1 := hY7.cell (i := 1) rfl
    by_cases hil : i < Lx.length
    · obtain ⟨g, cap, hgv⟩ := own_len hO.row (by omega)
      injection hgv with hV h2 h3
      have hgx := HLGx.out g hV
      subst hV h3
      clear h2
      obtain ⟨f, hf⟩ : ∃ f, M[i]? = some f := ⟨M[i]'(by omega), List.getElem?_eq_getElem (by omega)⟩
      have i0 : (0 : Int) ≤ (i : Int) := by omega
      have i1 : (i : Int) < (Lx.length : Int) := by omega
      have hle := (hO.each f (List.mem_of_getElem? hf)).le
      have hcm := (hO.each f (List.mem_of_getElem? hf)).cap
      unfold maxLen at hcm
      have HO := Lib.hid hO; have HM := Lib.hid hM; have HLT := Lib.hid hlt; have HK := Lib.hid hK; have HBW := Lib.hid hbw; have HF := Lib.hid hf
      clear hO hM hlt hK hbw hf hY7
      go_wp2_with fail
      go_loopw [12] (fun s12 wq => ∃ (k : Nat) (M2 : List Fc) (f2 : Fc), k ≤ f.l.length ∧ s12 = .int .i64 (k : Int) ∧ M2[i]? = some f2 ∧ f2.X = f.X ∧ f2.c = f.c ∧ f2.l.length = f.l.length ∧ OwnD wq x1.heap.size 43 5 (.slice (some ⟨g, 0, none⟩) Lx.length cx) M2 ∧ M2.length = Lx.length ∧ (∀ f ∈ M2, ∀ b, f.blk = some b → b < xx.heap.size) ∧ Kept x1.heap.size xx.heap.size (xy.alloc (.cells #[.int .i64 rm, .slice Ay Ly.length cy] 24)) wq ∧ Below w.heap.size w wq) (fun s12 _ => f.l.length - (intOf s12).toNat)
      case atStart => exact ⟨0, M, f, Nat.zero_le _, rfl, HF.out, rfl, rfl, rfl, HO.out, HM.out, HLT.out, HK.out, HBW.out⟩
      case round =>
        obtain ⟨k, M2, f2, hk, rfl, hf2, hX2, hc2, hl2, hO2, hM2, hlt2, hK2, hbw2⟩ := hrel
        have hrow2 : wr.ownsRow x1.heap.size 43 3 (.slice (some ⟨g, 0, none⟩) Lx.length cx) Lx.length (fCells M2) := by have h9 := hO2.row; rw [hM2] at h9; exact h9
        obtain ⟨-, r1, -⟩ := row_cells hrow2 hf2
        rw [hX2, hl2, hc2] at r1
        have hY7 := hK2.blk Y7.out (.inr (Nat.le_refl _))
        have e1 := hY7.cell (i := 1) rfl
        have hg := own_base_le hrow2
        have hfz := own_free_at hrow2 (i * 3)
        by_cases hkl : k < f.l.length
        · have hob := hO2.each f2 (List.mem_of_getElem? hf2)
          cases hX : f2.X with
          | none => exact absurd (hob.noA hX).1 (by omega)
          | some a =>
          obtain ⟨q, cur, rfl, hge, hBk, hsz, hcur⟩ := hob.at_ _ hX
          obtain ⟨y, hy⟩ : ∃ y, f2.l.getD k 0 = y := ⟨_, rfl⟩
          have hcell : wr.cell? ⟨q, k, none⟩ = some (.int .u8 y) := by
            refine hBk.cell ?_
            have h1 := bCells_get f2.l k (by omega)
            rw [← hcur, List.getElem?_take, hy] at h1
            split at h1
            · simpa using h1
            · cases h1
          have hyb : isB y := by
            rw [← hy, List.getD_eq_getElem?_getD, List.getElem?_eq_getElem (by omega)]
            exact hob.byte _ (List.getElem_mem _)
          have hfr := hBk.free k
          have hqx : q < xx.heap.size := hlt2 f2 (List.mem_of_getElem? hf2) q (by unfold Fc.blk; rw [hX]; rfl)
          have NO := Lib.hid (hO2.putB (k := k) (by decide) hM2 hf2 hX (Dk.trn_byte hyb (show (0 : Int) ≤ 255 ∧ (255 : Int) ≤ 255 from ⟨by decide, by decide⟩)))
          have NK := Lib.hid (hK2.put (p := ⟨q, k, none⟩) hge hqx (.int .u8 (Dk.trn y 255)))
          have NB := Lib.hid (hbw2.setCell (p := ⟨q, k, none⟩) (by show w.heap.size ≤ q; omega) (.int .u8 (Dk.trn y 255)))
          have NL := Lib.hid (show ∀ h ∈ M2.set i { f2 with l := f2.l.set k (Dk.trn y 255) }, ∀ b, h.blk = some b → b < xx.heap.size from fun h hh b hb => by
            rcases List.mem_or_eq_of_mem_set hh with h1 | h1
            · exact hlt2 h h1 b hb
            · subst h1
              exact hlt2 f2 (List.mem_of_getElem? hf2) b hb)
          have N2 := Lib.hid (show (M2.set i { f2 with l := f2.l.set k (Dk.trn y 255) })[i]? = some { f2 with l := f2.l.set k (Dk.trn y 255) } from List.getElem?_set_self (by rw [hM2]; exact hil))
          have HL2 := Lib.hid hl2; have HM2 := Lib.hid hM2; have HX2 := Lib.hid hX2; have HC2 := Lib.hid hc2
          rw [← hX2, hX] at r1
          have k0 : (0 : Int) ≤ (k : Int) := by omega
          have k1 : (k : Int) < (f.l.length : Int) := by omega
          unfold Dk.trn at NO NK NB
          clear hO2 hK2 hbw2 hlt2 hf2 hob hBk hcur hy hyb hX hX2 hc2 hl2 hM2 hrow2 hY7
          go_wp2_with fail
          go_roundw
          case rel => exact ⟨k + 1, _, _, by omega, by first | rfl | go_num, N2.out, HX2.out, HC2.out, by rw [← HL2.out]; exact List.length_set, NO.out, by rw [List.length_set]; exact HM2.out, NL.out, NK.out, NB.out⟩
          case measure => simp [intOf]; omega
        · have hd : decide ((k : Int) < (f.l.length : Int)) = false := decide_eq_false (by omega)
          have NO := Lib.hid (hO2.put0 (by decide) hM2 hf2 (-7))
          have NK := Lib.hid (hK2.put (p := ⟨g, i * 3, none⟩) hg.1 hgx (.int .i64 (-7)))
          have NB := Lib.hid (hbw2.setCell (p := ⟨g, i * 3, none⟩) (by show w.heap.size ≤ g; omega) (.int .i64 (-7)))
          have NL := Lib.hid (show ∀ h ∈ M2.set i { f2 with num := -7 }, ∀ b, h.blk = some b → b < xx.heap.size from fun h hh b hb => by
            rcases List.mem_or_eq_of_mem_set hh with h1 | h1
            · exact hlt2 h h1 b hb
            · subst h1
              exact hlt2 f2 (List.mem_of_getElem? hf2) b hb)
          have HM2 := Lib.hid hM2
          have hwn : (w.heap.size : Nat) ≤ g := by omega
          obtain ⟨r0, -⟩ := row_cells hrow2 hf2
          clear hO2 hK2 hbw2 hlt2 hf2 hX2 hc2 hl2 hM2 hrow2 hY7
          go_wp2_with fail
          go_roundw
          case rel => exact ⟨i + 1, _, by omega, by first | rfl | go_num, NO.out, by rw [List.length_set]; exact HM2.out, NL.out, NK.out, NB.out⟩
          case measure => simp [intOf]; omega
    · have hd : decide ((i : Int) < (Lx.length : Int)) = false := decide_eq_false (by omega)
      have HPY := Lib.hid (PY.out.above hK (Nat.le_succ _))
      have Y9z := Lib.hid (hK.blk Y9.out (.inr (by show xx.heap.size ≤ xy.heap.size; omega)))
      have Y3z := Lib.hid (hK.blk Y3.out (.inl (show w.heap.size < x1.heap.size from by omega)))
      have HDz := Lib.hid (HD0.out.later hbw)
      have HBz := Lib.hid (HB0.out.later hbw)
      have BW := Lib.hid hbw
      clear hO hM hlt hK hbw hY7 Y9 Y3 HD HBB
      have nn := rappend_any room n A B c cb L b _ HDz.out HBz.out
      rw [HR.out] at nn
      have NN := Lib.hid nn
      clear nn
      have cY3z0 := Y3z.out.cell (i := 0) rfl
      have cY3z1 := Y3z.out.cell (i := 1) rfl
      go_wp2_with fail
      refine NN.out.mono ?_
      clear NN
      intro e xz h
      obtain ⟨Az, cz, Lz, rfl, hO, hf, bz⟩ := h.open
      clear h
      clear cY3z0 cY3z1
      replace HPY := Lib.hid (HPY.out.later bz)
      replace Y9z := Lib.hid (Y9z.out.later bz)
      replace Y3z := Lib.hid (Y3z.out.later bz)
      replace HDz := Lib.hid (HDz.out.later bz)
      replace HBz := Lib.hid (HBz.out.later bz)
      have Oz := Lib.hid (hO.oneD)
      have HFz := Lib.hid hf
      have BB51 := Lib.hid (below_on BW.out bz)
      clear bz hO hf
      have bz := below_new (Below.refl xz.heap.size xz) (.cells #[.int .i64 rm, .slice Az Lz.length cz] 24)
      replace HPY := Lib.hid (HPY.out.later bz)
      replace Y9z := Lib.hid (Y9z.out.later bz)
      replace Y3z := Lib.hid (Y3z.out.later bz)
      replace HDz := Lib.hid (HDz.out.later bz)
      replace HBz := Lib.hid (HBz.out.later bz)
      replace Oz := Lib.hid (Oz.out.later bz)
      have Y13 := Lib.hid (Blk.new xz 24 #[.int .i64 rm, .slice Az Lz.length cz])
      have BB51a := Lib.hid (below_on BB51.out bz)
      clear bz
      have nn := rsameD_any rm rm Ay Az cy cz Ly Lz _ HPY.out.oneD Oz.out
      rw [decide_eq_true (show rm = rm ∧ Ly.map Fc.fi = Lz.map Fc.fi from ⟨rfl, by rw [HFy.out, HFz.out]⟩)] at nn
      have NN := Lib.hid nn
      clear nn
      have cY9z0 := Y9z.out.cell (i := 0) rfl
      have cY9z1 := Y9z.out.cell (i := 1) rfl
      have cY130 := Y13.out.cell (i := 0) rfl
      have cY131 := Y13.out.cell (i := 1) rfl
      go_wp2_with fail
      refine NN.out.mono ?_
      clear NN
      rintro e x52 ⟨rfl, bz⟩
      clear cY9z0 cY9z1 cY130 cY131
      replace HPY := Lib.hid (HPY.out.later bz)
      replace Y9z := Lib.hid (Y9z.out.later bz)
      replace Y3z := Lib.hid (Y3z.out.later bz)
      replace HDz := Lib.hid (HDz.out.later bz)
      replace HBz := Lib.hid (HBz.out.later bz)
      replace Oz := Lib.hid (Oz.out.later bz)
      replace Y13 := Lib.hid (Y13.out.later bz)
      have BB52 := Lib.hid (below_on BB51a.out bz)
      clear bz
      go_wp2
      go_ret
      exact ⟨rfl, BB52.out⟩
end Go.Proofs.Ytgjcpdcepmgafaa
