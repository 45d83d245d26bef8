/-
  What the reader's Vector and Set answer.
  Reading a write, a note: what is read, step by step; lists that stay where a reader, a note's block and new memory turn.
  Bodies in memory; what telltaleref06's Right, empty and SameBody answer.
  What the reader's Body answers.
-/
import Derived.Test.YtbbmngabbbehcaaG10
import Derived.Test.YtbbmngabbbehcaaG11
import Derived.Test.YtbbmngabbbehcaaG09
import Derived.Test.YtbbmngabbbehcaaG07
namespace Go.Proofs.Ytbbmngabbbehcaa
open Go.RowKit

/-- A list of pairs was read. -/
def RdList (p : Nat → Option (List (Int × Int) × Nat)) (g : Nat) (A : Option Addr) (c : Nat) (l : List Int) (s : Option Nat) (w : World) (e : Ending) (w' : World) : Prop :=
  ∃ D d v, e = .returned (.slice D v.length d) ∧ v.length ≤ l.length + 1 ∧ OneL w' D d v ∧ RdAt w' g A c l (Wi.nxt p s) ∧ Only g w w' ∧ Wi.Got p s v

/-- A list of pairs was read, in memory of the call's own. -/
def RdListO (t : TypeId) (p : Nat → Option (List (Int × Int) × Nat)) (g : Nat) (A : Option Addr) (c : Nat) (l : List Int) (s : Option Nat) (w : World) (e : Ending) (w' : World) : Prop :=
  ∃ D d v, e = .returned (.slice D v.length d) ∧ v.length ≤ l.length + 1 ∧ w'.ownsRow w.heap.size t 2 (.slice D v.length d) v.length (stCells v) ∧ RdAt w' g A c l (Wi.nxt p s) ∧ Only g w w' ∧ Wi.Got p s v
theorem oneL_own0 {w : World} {base : Nat} {t : TypeId} {l : List (Int × Int)} {A : Option Addr} {c : Nat} (h : w.ownsRow base t 2 (.slice A l.length c) l.length (stCells l)) : OneL w A c l := by
  obtain ⟨A', c', hv, ho⟩ := OneL.of_own h
  cases hv
  exact ho
theorem RdListO.rd {t : TypeId} {p : Nat → Option (List (Int × Int) × Nat)} {g : Nat} {A : Option Addr} {c : Nat} {l : List Int} {s : Option Nat} {w w' : World} {e : Ending} (h : RdListO t p g A c l s w e w') : RdList p g A c l s w e w' := by
  obtain ⟨D, d, v, h1, h2, h3, h4⟩ := h
  exact ⟨D, d, v, h1, h2, oneL_own0 h3, h4⟩

/-- A list of pairs of whole numbers doesn't lie in a reader. -/
theorem Lies.rd {w w1 : World} {A B : Option Addr} {xs : List Value} {u v : Value} {g n c : Nat} {a : Int} {b : Bool} {t : TypeId} (h : Lies w A (u :: v :: xs)) (hu : isInt u = true) (hv : isInt v = true) (hB : Blk w g t #[.slice B n c, .int .i64 a, .bool b]) (hO : Only g w w1) : Lies w1 A (u :: v :: xs) := by
  obtain ⟨k, off, hA, hl⟩ := h (by simp)
  have hne : k ≠ g := fun e => by
    subst e
    have h0 := hl 0 u rfl
    have h1 := hl 1 v rfl
    rw [Nat.add_zero, cell_of_row w k off _ t (0, 0) hB] at h0
    rw [cell_of_row w k (off + 1) _ t (0, 0) hB] at h1
    match off, h0, h1 with
    | 0, h0, _ => cases h0; cases hu
    | 1, _, h1 => cases h1; cases hv
    | 2, h0, _ => cases h0; cases hu
    | m + 3, h0, _ => simp at h0
  refine fun _ => ⟨k, off, hA, fun j x hx => ?_⟩
  have h1 := hl j x hx
  exact (World.cell?_of_block (a := ⟨k, off + j, none⟩) (hO.block k (World.block_lt_of_cell? _ _ h1) hne)).trans h1
theorem OneL.rd {w w1 : World} {A B : Option Addr} {k : Nat} {l : List (Int × Int)} {g n c : Nat} {a : Int} {b : Bool} {t : TypeId} (h : OneL w A k l) (hB : Blk w g t #[.slice B n c, .int .i64 a, .bool b]) (hO : Only g w w1) : OneL w1 A k l := by
  refine ⟨h.1, h.2.1, h.2.2.1, ?_⟩
  cases l with
  | nil => exact fun hne => absurd rfl hne
  | cons x r => exact Lies.rd h.2.2.2 rfl rfl hB hO

theorem infoStW : (Try.prog.info? 61).map (fun i => (i.zero, i.size, i.bytes)) = some (some (.agg #[.int .i64 0, .int .i64 0]), 2, 16) := by kernel_rfl
set_option maxHeartbeats 6400000 in
set_option maxRecDepth 100000 in
theorem rdvec_own (g : Nat) (A : Option Addr) (c : Nat) (l : List Int) (s : Option Nat) (w : World) (hl : l.length ≤ 1099511627776) (h : RdAt w g A c l s) :
    Calls Try.prog 14 #[.pointer (some ⟨g, 0, none⟩)] w (RdListO 61 (Wi.pvec l) g A c l s w) := by
  obtain ⟨i0, hi, hz0, hz1, hz2⟩ := info_parts infoStW
  have hgl := h.lt
  have hbyte : ∀ x ∈ l, isB x := by
    obtain ⟨_, _, _, hO, _⟩ := h
    exact hO.byte
  obtain ⟨ea, eb, hB0, hO0, hea, hs0⟩ := h
  have h : RdAt w g A c l s := ⟨ea, eb, hB0, hO0, hea, hs0⟩
  have mk := fun (wx : World) (hx : Only g w wx) (a : Nat) (b : Bool) (hB : Blk wx g 32 #[.slice A l.length c, .int .i64 (a : Int), .bool b]) (ha : a ≤ l.length) => (show RdAt wx g A c l (if b then none else some a) from ⟨a, b, hB, hO0.only hx hB0 rd_noU8s, ha, rfl⟩)
  have MK := Lib.hid mk
  clear hB0 hO0 hea hs0 mk
  have HBY := Lib.hid hbyte
  have NN := Lib.hid (fun s wx (hx : RdAt wx g A c l s) => rdnum_any g A c l s wx hx)
  have H := Lib.hid h
  clear h hbyte
  go_enter Try.func14, Try.ntmps14
  go_wp2_with fail
  refine (NN.out s w H.out).mono ?_
  rintro e w1 ⟨n, rfl, hn63, hR1, hO1, hG1, _⟩
  have hinv := Wi.inv_start (p := Wi.pst l) hG1
  have HR1 := Lib.hid hR1; have HO1 := Lib.hid hO1; have HI := Lib.hid hinv; clear hR1 hO1 hinv hG1
  have hs1 : ∀ a, Wi.nxt (Wi.pnum l) s = some a → 0 ≤ a := fun a _ => Nat.zero_le a
  go_wp2_with fail
  go_loopw [3, 4, 5] (fun s3 s4 s5 wr => ∃ (k : Nat) (acc : List (Int × Int)) (st : Option Nat), s4 = .int .i64 (k : Int) ∧ k ≤ 9223372036854775807 ∧ wr.ownsRow w.heap.size 61 2 s3 acc.length (stCells acc) ∧ RdAt wr g A c l st ∧ Only g w wr ∧ Wi.Inv (Wi.pst l) (s.bind (Wi.plist (Wi.pst l) l)) k acc st ∧ acc.length ≤ l.length + 1 ∧ (∀ a, st = some a → acc.length ≤ a)) (fun _ s4 _ _ => (intOf s4).toNat)
  case atStart => exact ⟨n, [], _, rfl, hn63, ⟨rfl, .inl ⟨rfl, rfl⟩⟩, HR1.out, HO1.out, HI.out, by simp, fun a _ => by simp⟩
  case round =>
    obtain ⟨k, acc, st, rfl, hk63, hown, hR, hOn, hinv, hal, haa⟩ := hrel
    have hsz := hOn.size
    obtain ⟨ra, rb, hB, hOB, hra, hst⟩ := hR
    have c2 := hB.cell (i := 2) rfl
    have f2 := hB.free 2
    have HB := Lib.hid hB; have HOB := Lib.hid hOB; have HST := Lib.hid hst; have HINV := Lib.hid hinv; have HON := Lib.hid hOn; have HAA := Lib.hid haa
    clear hB hOB hst hinv hOn haa HI HR1 HO1 hs1
    by_cases hk : 0 < k ∧ rb = false
    · obtain ⟨hk0, rfl⟩ := hk
      obtain ⟨k, rfl⟩ : ∃ m, k = m + 1 := ⟨k - 1, by omega⟩
      have hst2 : st = some ra := HST.out
      have hac := HAA.out ra hst2
      have HS2 := Lib.hid hst2; clear hst2
      have hd : decide ((0 : Int) < ((k + 1 : Nat) : Int)) = true := decide_eq_true (by omega)
      have hkk : ((k + 1 : Nat) : Int) - 1 = (k : Int) := by omega
      have hRr : RdAt wr g A c l (some ra) := ⟨ra, false, HB.out, HOB.out, hra, rfl⟩
      have HRR := Lib.hid hRr; clear hRr
      have HW := Lib.hid hown; clear hown
      go_wp2_with fail
      refine (NN.out _ wr HRR.out).mono ?_
      rintro e w2 ⟨x, rfl, hx63, hR2, hO2, hG2, _⟩
      have HR2 := Lib.hid hR2; have HO2 := Lib.hid hO2; have HG2 := Lib.hid hG2; clear hR2 hO2 hG2
      go_wp2_with fail
      have bA : Below w2.heap.size w2 (w2.alloc (.cells #[.int .i64 0, .int .i64 (x : Int)] 61)) := below_new (Below.refl _ _) _
      have kB2 := Blk.new w2 61 #[.int .i64 0, .int .i64 (x : Int)]
      have hRA := HR2.out.later bA
      refine (NN.out _ _ hRA).mono ?_
      rintro e w3 ⟨y, rfl, hy63, hR3, hO3, hG3, _⟩
      have h2s := HO2.out.size
      have kB3 := hO3.blk kB2 (show w2.heap.size ≠ g by omega)
      have q0 := kB3.cell (i := 0) rfl; have q1 := kB3.cell (i := 1) rfl; have g0 := kB3.free 0
      have own3 := hO3.own ((HO2.out.own HW.out hgl).alloc (.cells #[.int .i64 0, .int .i64 (x : Int)] 61)) hgl
      have own4 := own_stays (w' := w3.setCell ⟨w2.heap.size, 0, none⟩ (.int .i64 (y : Int))) own3 (fun k' hk' => Below.heap_setCell _ _ _ _ (by have := own_lt HW.out k' hk'; show k' ≠ w2.heap.size; omega))
      have on3 : Only g w w3 := ((HON.out.on HO2.out).below bA).on hO3
      have on4 := on3.setNew (show w.heap.size ≤ w2.heap.size by omega) 0 (.int .i64 (y : Int))
      obtain ⟨a3, b3, hB3, hOB3, ha3, hst3⟩ := hR3
      have hB4 := hB3.far (p := ⟨w2.heap.size, 0, none⟩) (show g ≠ w2.heap.size by omega) (.int .i64 (y : Int))
      have h3s := on3.size
      have OWN := Lib.hid own4; have ON4 := Lib.hid on4; have HB4 := Lib.hid hB4; have HG3 := Lib.hid hG3; have HST3 := Lib.hid hst3; have HR2S := HR2
      clear kB2 kB3 hRA own3 own4 on3 on4 hB3 hB4 hOB3 hst3 hG3 hO3 bA
      have hap : acc.length + 1 ≤ 1099511627778 := by omega
      go_wp2_with (at_builtin; refine wpList_append_lies _ rfl _ _ 22 rfl w.heap.size 61 i0 (.agg #[.int .i64 0, .int .i64 0]) 2 16 Try.underlying22 hi hz0 hz1 hz2 rfl (by decide) _ acc.length (stCells acc) rfl (OWN.out.alloc _) (some ⟨w3.heap.size, 0, none⟩) 1 1 (fun h => by cases h) (stCells [((y : Nat), (x : Nat))]) rfl rfl ?c1 (stCells_one _) ?c3 ?c4 ?c5 ?_)
      case c1 =>
        intro _
        refine ⟨w3.heap.size, 0, rfl, fun j u hu => ?_⟩
        rw [Nat.zero_add]
        have kk := Blk.new (w3.setCell ⟨w2.heap.size, 0, none⟩ (.int .i64 (y : Int))) 61 #[.int .i64 (y : Int), .int .i64 (x : Int)]
        have e0 : (w3.setCell ⟨w2.heap.size, 0, none⟩ (.int .i64 (y : Int))).heap.size = w3.heap.size := by simp [World.setCell]
        rw [e0] at kk
        exact kk.cell (by simpa [stCells] using hu)
      case c3 => unfold maxLen; omega
      case c4 => omega
      case c5 => simp [World.setCell]; omega
      intro v5 w5 ho5 hg5 _
      have on5 := (ON4.out.below (below_new (Below.refl _ _) (.cells #[.int .i64 (y : Int), .int .i64 (x : Int)] 61))).grown hg5 (fun k' hk' => own_ge OWN.out k' hk')
      have hB5 : Blk w5 g 32 #[.slice A l.length c, .int .i64 (a3 : Int), .bool b3] := (hg5.block g (by have := (HB4.out.alloc (.cells #[.int .i64 (y : Int), .int .i64 (x : Int)] 61)).lt; exact this) (fun e => by have := own_ge OWN.out g e.symm; omega)).trans (HB4.out.alloc _)
      rw [← stCells_append, show acc.length + 1 = (acc ++ [(((y : Nat) : Int), ((x : Nat) : Int))]).length from by simp] at ho5
      have HO5 := Lib.hid ho5; have ON5 := Lib.hid on5; have HB5 := Lib.hid hB5
      clear ho5 hg5 on5 hB5 q0 q1 g0 c2 f2 HB HOB
      go_wp2_with fail
      go_roundw
      case rel =>
        have hR5 := MK.out w5 ON5.out a3 b3 HB5.out ha3
        rw [← HST3.out] at hR5
        have t1 := Wi.two_got HG2.out HG3.out
        have t2 : Wi.nxt (Wi.pnum l) (Wi.nxt (Wi.pnum l) (some ra)) = Wi.nxt (Wi.pst l) (some ra) := (Wi.two_nxt l _).trans (Wi.st_nxt l _).symm
        have hnv := HINV.out
        rw [HS2.out] at hnv
        have hi2 := Wi.inv_step hnv t2 (Wi.st_got t1)
        refine ⟨k, _, _, by first | rfl | (congr 1; omega), by omega, HO5.out, hR5, ON5.out, hi2, by simp; omega, fun a' ha' => ?_⟩
        obtain ⟨a2, h2⟩ : ∃ a2, Wi.nxt (Wi.pnum l) (some ra) = some a2 := by
          cases hh : Wi.nxt (Wi.pnum l) (some ra) with
          | none => rw [hh] at ha'; cases ha'
          | some a2 => exact ⟨a2, rfl⟩
        rw [h2] at ha'
        have b1 := Wi.nxt_num HBY.out hra h2
        have b2 := Wi.nxt_num HBY.out b1.2 ha'
        simp
        omega
      case measure => simp [intOf]
    · have hend : k = 0 ∨ st = none := by
        rcases Nat.eq_zero_or_pos k with h0 | h0
        · exact .inl h0
        · cases rb with
          | true => exact .inr HST.out
          | false => exact absurd ⟨h0, rfl⟩ hk
      have hfin := Wi.inv_end HINV.out hend
      obtain ⟨hx1, hx2⟩ := Wi.such_end (f := Ve.fmd) hfin
      obtain ⟨D, d, rfl, hOL⟩ := OneL.of_own hown
      have HX1 := Lib.hid hx1; have HX2 := Lib.hid hx2; have HOL := Lib.hid hOL; have HOW := Lib.hid hown
      clear hfin hx1 hx2 hOL hown
      cases rb with
      | true =>
        have hstn : st = none := HST.out
        have HSN := Lib.hid hstn; clear hstn hend hk
        have hfinal : RdListO 61 (Wi.pvec l) g A c l s w (.returned (.slice D acc.length d)) (wr.setCell ⟨g, 2, none⟩ (.bool true)) := by
          have onF := HON.out.set 2 (.bool true)
          have hR := MK.out _ onF ra true (HB.out.put 2 _) hra
          have hn : Wi.nxt (Wi.pvec l) s = none := by
            refine HX1.out.trans ?_
            rw [HSN.out]
            cases Ve.fmd acc <;> rfl
          exact ⟨D, d, acc, rfl, hal, ((Only.refl g wr).set 2 _).own HOW.out hgl, by rw [hn]; exact hR, onF, HX2.out⟩
        have HF := Lib.hid hfinal; clear hfinal
        rcases Nat.eq_zero_or_pos k with h0 | h0
        · subst h0
          go_wp2
          go_ret
          exact HF.out
        · have hd : decide ((0 : Int) < (k : Int)) = true := decide_eq_true (by omega)
          go_wp2
          go_ret
          exact HF.out
      | false =>
        have hk0 : k = 0 := by
          rcases Nat.eq_zero_or_pos k with h0 | h0
          · exact h0
          · exact absurd ⟨h0, rfl⟩ hk
        subst hk0
        have hsta : st = some ra := HST.out
        have HSA := Lib.hid hsta; clear hsta hend hk
        have NF := Lib.hid (rformed_any D d acc wr HOL.out.len HOL.out.stamps)
        have hfinal : ∀ w6, Below wr.heap.size wr w6 → RdListO 61 (Wi.pvec l) g A c l s w (.returned (.slice D acc.length d)) (w6.setCell ⟨g, 2, none⟩ (.bool (!Ve.fmd acc))) := fun w6 hb6 => by
          have on6 := HON.out.below hb6
          have onF := on6.set 2 (.bool (!Ve.fmd acc))
          have hB6 := HB.out.later hb6
          have hR := MK.out _ onF ra (!Ve.fmd acc) (hB6.put 2 _) hra
          have hn : Wi.nxt (Wi.pvec l) s = (if (!Ve.fmd acc) = true then none else some ra) := by
            refine HX1.out.trans ?_
            rw [HSA.out]
            cases Ve.fmd acc <;> rfl
          exact ⟨D, d, acc, rfl, hal, ((Only.refl g w6).set 2 _).own (own_later HOW.out hb6) hgl, by rw [hn]; exact hR, onF, HX2.out⟩
        have HF := Lib.hid hfinal; clear hfinal
        go_wp2_with fail
        refine NF.out.mono ?_
        rintro e w6 ⟨rfl, hb6⟩
        have hB6 := HB.out.later hb6
        have c6 := hB6.cell (i := 2) rfl; have f6 := hB6.free 2
        have HF6 := Lib.hid (HF.out w6 hb6)
        clear hB6 HF
        obtain ⟨fb, hfb⟩ : ∃ fb, Ve.fmd acc = fb := ⟨_, rfl⟩
        rw [hfb] at HF6
        cases fb with
        | true =>
          rw [hfb]
          go_wp2
          go_ret
          exact HF6.out
        | false =>
          rw [hfb]
          go_wp2
          go_ret
          exact HF6.out


theorem infoSpW : (Try.prog.info? 95).map (fun i => (i.zero, i.size, i.bytes)) = some (some (.agg #[.int .i64 0, .int .i64 0]), 2, 16) := by kernel_rfl
set_option maxHeartbeats 6400000 in
set_option maxRecDepth 100000 in
theorem rdset_own (g : Nat) (A : Option Addr) (c : Nat) (l : List Int) (s : Option Nat) (w : World) (hl : l.length ≤ 1099511627776) (h : RdAt w g A c l s) :
    Calls Try.prog 22 #[.pointer (some ⟨g, 0, none⟩)] w (RdListO 95 (Wi.pset l) g A c l s w) := by
  obtain ⟨i0, hi, hz0, hz1, hz2⟩ := info_parts infoSpW
  have hgl := h.lt
  have hbyte : ∀ x ∈ l, isB x := by
    obtain ⟨_, _, _, hO, _⟩ := h
    exact hO.byte
  obtain ⟨ea, eb, hB0, hO0, hea, hs0⟩ := h
  have h : RdAt w g A c l s := ⟨ea, eb, hB0, hO0, hea, hs0⟩
  have mk := fun (wx : World) (hx : Only g w wx) (a : Nat) (b : Bool) (hB : Blk wx g 32 #[.slice A l.length c, .int .i64 (a : Int), .bool b]) (ha : a ≤ l.length) => (show RdAt wx g A c l (if b then none else some a) from ⟨a, b, hB, hO0.only hx hB0 rd_noU8s, ha, rfl⟩)
  have MK := Lib.hid mk
  clear hB0 hO0 hea hs0 mk
  have HBY := Lib.hid hbyte
  have NN := Lib.hid (fun s wx (hx : RdAt wx g A c l s) => rdnum_any g A c l s wx hx)
  have H := Lib.hid h
  clear h hbyte
  go_enter Try.func22, Try.ntmps22
  go_wp2_with fail
  refine (NN.out s w H.out).mono ?_
  rintro e w1 ⟨n, rfl, hn63, hR1, hO1, hG1, _⟩
  have hinv := Wi.inv_start (p := Wi.ptwo l) hG1
  have HR1 := Lib.hid hR1; have HO1 := Lib.hid hO1; have HI := Lib.hid hinv; clear hR1 hO1 hinv hG1
  have hs1 : ∀ a, Wi.nxt (Wi.pnum l) s = some a → 0 ≤ a := fun a _ => Nat.zero_le a
  go_wp2_with fail
  go_loopw [3, 4, 5] (fun s3 s4 s5 wr => ∃ (k : Nat) (acc : List (Int × Int)) (st : Option Nat), s4 = .int .i64 (k : Int) ∧ k ≤ 9223372036854775807 ∧ wr.ownsRow w.heap.size 95 2 s3 acc.length (stCells acc) ∧ RdAt wr g A c l st ∧ Only g w wr ∧ Wi.Inv (Wi.ptwo l) (s.bind (Wi.plist (Wi.ptwo l) l)) k acc st ∧ acc.length ≤ l.length + 1 ∧ (∀ a, st = some a → acc.length ≤ a)) (fun _ s4 _ _ => (intOf s4).toNat)
  case atStart => exact ⟨n, [], _, rfl, hn63, ⟨rfl, .inl ⟨rfl, rfl⟩⟩, HR1.out, HO1.out, HI.out, by simp, fun a _ => by simp⟩
  case round =>
    obtain ⟨k, acc, st, rfl, hk63, hown, hR, hOn, hinv, hal, haa⟩ := hrel
    have hsz := hOn.size
    obtain ⟨ra, rb, hB, hOB, hra, hst⟩ := hR
    have c2 := hB.cell (i := 2) rfl
    have f2 := hB.free 2
    have HB := Lib.hid hB; have HOB := Lib.hid hOB; have HST := Lib.hid hst; have HINV := Lib.hid hinv; have HON := Lib.hid hOn; have HAA := Lib.hid haa
    clear hB hOB hst hinv hOn haa HI HR1 HO1 hs1
    by_cases hk : 0 < k ∧ rb = false
    · obtain ⟨hk0, rfl⟩ := hk
      obtain ⟨k, rfl⟩ : ∃ m, k = m + 1 := ⟨k - 1, by omega⟩
      have hst2 : st = some ra := HST.out
      have hac := HAA.out ra hst2
      have HS2 := Lib.hid hst2; clear hst2
      have hd : decide ((0 : Int) < ((k + 1 : Nat) : Int)) = true := decide_eq_true (by omega)
      have hkk : ((k + 1 : Nat) : Int) - 1 = (k : Int) := by omega
      have hRr : RdAt wr g A c l (some ra) := ⟨ra, false, HB.out, HOB.out, hra, rfl⟩
      have HRR := Lib.hid hRr; clear hRr
      have HW := Lib.hid hown; clear hown
      go_wp2_with fail
      refine (NN.out _ wr HRR.out).mono ?_
      rintro e w2 ⟨x, rfl, hx63, hR2, hO2, hG2, _⟩
      have HR2 := Lib.hid hR2; have HO2 := Lib.hid hO2; have HG2 := Lib.hid hG2; clear hR2 hO2 hG2
      go_wp2_with fail
      have bA : Below w2.heap.size w2 (w2.alloc (.cells #[.int .i64 (x : Int), .int .i64 0] 95)) := below_new (Below.refl _ _) _
      have kB2 := Blk.new w2 95 #[.int .i64 (x : Int), .int .i64 0]
      have hRA := HR2.out.later bA
      refine (NN.out _ _ hRA).mono ?_
      rintro e w3 ⟨y, rfl, hy63, hR3, hO3, hG3, _⟩
      have h2s := HO2.out.size
      have kB3 := hO3.blk kB2 (show w2.heap.size ≠ g by omega)
      have q0 := kB3.cell (i := 0) rfl; have q1 := kB3.cell (i := 1) rfl; have g0 := kB3.free 1
      have own3 := hO3.own ((HO2.out.own HW.out hgl).alloc (.cells #[.int .i64 (x : Int), .int .i64 0] 95)) hgl
      have own4 := own_stays (w' := w3.setCell ⟨w2.heap.size, 1, none⟩ (.int .i64 (y : Int))) own3 (fun k' hk' => Below.heap_setCell _ _ _ _ (by have := own_lt HW.out k' hk'; show k' ≠ w2.heap.size; omega))
      have on3 : Only g w w3 := ((HON.out.on HO2.out).below bA).on hO3
      have on4 := on3.setNew (show w.heap.size ≤ w2.heap.size by omega) 1 (.int .i64 (y : Int))
      obtain ⟨a3, b3, hB3, hOB3, ha3, hst3⟩ := hR3
      have hB4 := hB3.far (p := ⟨w2.heap.size, 1, none⟩) (show g ≠ w2.heap.size by omega) (.int .i64 (y : Int))
      have h3s := on3.size
      have OWN := Lib.hid own4; have ON4 := Lib.hid on4; have HB4 := Lib.hid hB4; have HG3 := Lib.hid hG3; have HST3 := Lib.hid hst3; have HR2S := HR2
      clear kB2 kB3 hRA own3 own4 on3 on4 hB3 hB4 hOB3 hst3 hG3 hO3 bA
      have hap : acc.length + 1 ≤ 1099511627778 := by omega
      go_wp2_with (at_builtin; refine wpList_append_lies _ rfl _ _ 40 rfl w.heap.size 95 i0 (.agg #[.int .i64 0, .int .i64 0]) 2 16 Try.underlying40 hi hz0 hz1 hz2 rfl (by decide) _ acc.length (stCells acc) rfl (OWN.out.alloc _) (some ⟨w3.heap.size, 0, none⟩) 1 1 (fun h => by cases h) (stCells [((x : Nat), (y : Nat))]) rfl rfl ?c1 (stCells_one _) ?c3 ?c4 ?c5 ?_)
      case c1 =>
        intro _
        refine ⟨w3.heap.size, 0, rfl, fun j u hu => ?_⟩
        rw [Nat.zero_add]
        have kk := Blk.new (w3.setCell ⟨w2.heap.size, 1, none⟩ (.int .i64 (y : Int))) 95 #[.int .i64 (x : Int), .int .i64 (y : Int)]
        have e0 : (w3.setCell ⟨w2.heap.size, 1, none⟩ (.int .i64 (y : Int))).heap.size = w3.heap.size := by simp [World.setCell]
        rw [e0] at kk
        exact kk.cell (by simpa [stCells] using hu)
      case c3 => unfold maxLen; omega
      case c4 => omega
      case c5 => simp [World.setCell]; omega
      intro v5 w5 ho5 hg5 _
      have on5 := (ON4.out.below (below_new (Below.refl _ _) (.cells #[.int .i64 (x : Int), .int .i64 (y : Int)] 95))).grown hg5 (fun k' hk' => own_ge OWN.out k' hk')
      have hB5 : Blk w5 g 32 #[.slice A l.length c, .int .i64 (a3 : Int), .bool b3] := (hg5.block g (by have := (HB4.out.alloc (.cells #[.int .i64 (x : Int), .int .i64 (y : Int)] 95)).lt; exact this) (fun e => by have := own_ge OWN.out g e.symm; omega)).trans (HB4.out.alloc _)
      rw [← stCells_append, show acc.length + 1 = (acc ++ [(((x : Nat) : Int), ((y : Nat) : Int))]).length from by simp] at ho5
      have HO5 := Lib.hid ho5; have ON5 := Lib.hid on5; have HB5 := Lib.hid hB5
      clear ho5 hg5 on5 hB5 q0 q1 g0 c2 f2 HB HOB
      go_wp2_with fail
      go_roundw
      case rel =>
        have hR5 := MK.out w5 ON5.out a3 b3 HB5.out ha3
        rw [← HST3.out] at hR5
        have t1 := Wi.two_got HG2.out HG3.out
        have t2 : Wi.nxt (Wi.pnum l) (Wi.nxt (Wi.pnum l) (some ra)) = Wi.nxt (Wi.ptwo l) (some ra) := Wi.two_nxt l _
        have hnv := HINV.out
        rw [HS2.out] at hnv
        have hi2 := Wi.inv_step hnv t2 (t1)
        refine ⟨k, _, _, by first | rfl | (congr 1; omega), by omega, HO5.out, hR5, ON5.out, hi2, by simp; omega, fun a' ha' => ?_⟩
        obtain ⟨a2, h2⟩ : ∃ a2, Wi.nxt (Wi.pnum l) (some ra) = some a2 := by
          cases hh : Wi.nxt (Wi.pnum l) (some ra) with
          | none => rw [hh] at ha'; cases ha'
          | some a2 => exact ⟨a2, rfl⟩
        rw [h2] at ha'
        have b1 := Wi.nxt_num HBY.out hra h2
        have b2 := Wi.nxt_num HBY.out b1.2 ha'
        simp
        omega
      case measure => simp [intOf]
    · have hend : k = 0 ∨ st = none := by
        rcases Nat.eq_zero_or_pos k with h0 | h0
        · exact .inl h0
        · cases rb with
          | true => exact .inr HST.out
          | false => exact absurd ⟨h0, rfl⟩ hk
      have hfin := Wi.inv_end HINV.out hend
      obtain ⟨hx1, hx2⟩ := Wi.such_end (f := Sp.fmd) hfin
      obtain ⟨D, d, rfl, hOL⟩ := OneL.of_own hown
      have HX1 := Lib.hid hx1; have HX2 := Lib.hid hx2; have HOL := Lib.hid hOL; have HOW := Lib.hid hown
      clear hfin hx1 hx2 hOL hown
      cases rb with
      | true =>
        have hstn : st = none := HST.out
        have HSN := Lib.hid hstn; clear hstn hend hk
        have hfinal : RdListO 95 (Wi.pset l) g A c l s w (.returned (.slice D acc.length d)) (wr.setCell ⟨g, 2, none⟩ (.bool true)) := by
          have onF := HON.out.set 2 (.bool true)
          have hR := MK.out _ onF ra true (HB.out.put 2 _) hra
          have hn : Wi.nxt (Wi.pset l) s = none := by
            refine HX1.out.trans ?_
            rw [HSN.out]
            cases Sp.fmd acc <;> rfl
          exact ⟨D, d, acc, rfl, hal, ((Only.refl g wr).set 2 _).own HOW.out hgl, by rw [hn]; exact hR, onF, HX2.out⟩
        have HF := Lib.hid hfinal; clear hfinal
        rcases Nat.eq_zero_or_pos k with h0 | h0
        · subst h0
          go_wp2
          go_ret
          exact HF.out
        · have hd : decide ((0 : Int) < (k : Int)) = true := decide_eq_true (by omega)
          go_wp2
          go_ret
          exact HF.out
      | false =>
        have hk0 : k = 0 := by
          rcases Nat.eq_zero_or_pos k with h0 | h0
          · exact h0
          · exact absurd ⟨h0, rfl⟩ hk
        subst hk0
        have hsta : st = some ra := HST.out
        have HSA := Lib.hid hsta; clear hsta hend hk
        have NF := Lib.hid (sformed_any D d acc wr HOL.out)
        have hfinal : ∀ w6, Below wr.heap.size wr w6 → RdListO 95 (Wi.pset l) g A c l s w (.returned (.slice D acc.length d)) (w6.setCell ⟨g, 2, none⟩ (.bool (!Sp.fmd acc))) := fun w6 hb6 => by
          have on6 := HON.out.below hb6
          have onF := on6.set 2 (.bool (!Sp.fmd acc))
          have hB6 := HB.out.later hb6
          have hR := MK.out _ onF ra (!Sp.fmd acc) (hB6.put 2 _) hra
          have hn : Wi.nxt (Wi.pset l) s = (if (!Sp.fmd acc) = true then none else some ra) := by
            refine HX1.out.trans ?_
            rw [HSA.out]
            cases Sp.fmd acc <;> rfl
          exact ⟨D, d, acc, rfl, hal, ((Only.refl g w6).set 2 _).own (own_later HOW.out hb6) hgl, by rw [hn]; exact hR, onF, HX2.out⟩
        have HF := Lib.hid hfinal; clear hfinal
        go_wp2_with fail
        refine NF.out.mono ?_
        rintro e w6 ⟨rfl, hb6⟩
        have hB6 := HB.out.later hb6
        have c6 := hB6.cell (i := 2) rfl; have f6 := hB6.free 2
        have HF6 := Lib.hid (HF.out w6 hb6)
        clear hB6 HF
        obtain ⟨fb, hfb⟩ : ∃ fb, Sp.fmd acc = fb := ⟨_, rfl⟩
        rw [hfb] at HF6
        cases fb with
        | true =>
          rw [hfb]
          go_wp2
          go_ret
          exact HF6.out
        | false =>
          rw [hfb]
          go_wp2
          go_ret
          exact HF6.out
theorem rdvec_any (g : Nat) (A : Option Addr) (c : Nat) (l : List Int) (s : Option Nat) (w : World) (hl : l.length ≤ 1099511627776) (h : RdAt w g A c l s) :
    Calls Try.prog 14 #[.pointer (some ⟨g, 0, none⟩)] w (RdList (Wi.pvec l) g A c l s w) := (rdvec_own g A c l s w hl h).mono fun _ _ => RdListO.rd
theorem rdset_any (g : Nat) (A : Option Addr) (c : Nat) (l : List Int) (s : Option Nat) (w : World) (hl : l.length ≤ 1099511627776) (h : RdAt w g A c l s) :
    Calls Try.prog 22 #[.pointer (some ⟨g, 0, none⟩)] w (RdList (Wi.pset l) g A c l s w) := (rdset_own g A c l s w hl h).mono fun _ _ => RdListO.rd
end Go.Proofs.Ytbbmngabbbehcaa
namespace Go.Proofs.Ytbbmngabbbehcaa
open Go.RowKit

namespace Wi
section
variable {α γ : Type} {p : Nat → Option (α × Nat)} {s : Option Nat}
/-- A thing that must be so, else nothing was read. -/
theorem nxt_if {t : α → Bool} {f : α → γ} {x : α} (h : Got p s x) : nxt (fun a => (p a).bind fun y => if t y.1 then some (f y.1, y.2) else none) s = if t x then nxt p s else none := by
  cases s with
  | none => simp [nxt]
  | some a =>
    show ((p a).bind _).map _ = if t x then (p a).map _ else none
    cases hp : p a with
    | none => simp
    | some u =>
      obtain ⟨u, c⟩ := u
      have e := h u c hp
      subst e
      show (if t x then some (f x, c) else none : Option (γ × Nat)).map _ = _
      cases t x <;> rfl
theorem got_if {t : α → Bool} {f : α → γ} {x : α} (h : Got p s x) : Got (fun a => (p a).bind fun y => if t y.1 then some (f y.1, y.2) else none) s (f x) := by
  intro z b hz
  cases s with
  | none => cases hz
  | some a =>
    have hz : (p a).bind (fun y => if t y.1 then some (f y.1, y.2) else none) = some (z, b) := hz
    cases hp : p a with
    | none => rw [hp] at hz; cases hz
    | some u =>
      obtain ⟨u, c⟩ := u
      have e := h u c hp
      subst e
      rw [hp] at hz
      have hz : (if t x then some (f x, c) else none : Option (γ × Nat)) = some (z, b) := hz
      cases ht : t x with
      | true => rw [ht] at hz; cases hz; rfl
      | false => rw [ht] at hz; cases hz
end
/-- A write's bytes, read. -/
theorem pwr_nxt {l : List Int} {s : Option Nat} {o n c g : Nat} (ho : Got (pnum l) s o) (hn : Got (pnum l) (nxt (pnum l) s) n) (hc : Got (pnum l) (nxt (pnum l) (nxt (pnum l) s)) c) (hg : Got (pnum l) (nxt (pnum l) (nxt (pnum l) (nxt (pnum l) s))) g) :
    nxt (pwr l) s = (if decide (g ≤ 1) then nxt (pnum l) (nxt (pnum l) (nxt (pnum l) (nxt (pnum l) s))) else none) ∧ Got (pwr l) s ((c : Int), (n : Int), (o : Int), decide (g = 1)) := by
  have e3 : ∀ o' n' c' : Nat, (fun a => (pnum l a).bind fun y => if decide (y.1 ≤ 1) then some ((((c' : Nat) : Int), ((n' : Nat) : Int), ((o' : Nat) : Int), decide (y.1 = 1)), y.2) else none) = fun a => (pnum l a).bind fun y => if y.1 ≤ 1 then some ((((c' : Nat) : Int), ((n' : Nat) : Int), ((o' : Nat) : Int), decide (y.1 = 1)), y.2) else none := fun o' n' c' => by
    funext a
    congr 1
    funext y
    by_cases h : y.1 ≤ 1
    · rw [if_pos h, if_pos (decide_eq_true h)]
    · rw [if_neg h, if_neg (by simpa using h)]
  have q3 := nxt_if (p := pnum l) (t := fun y => decide (y ≤ 1)) (f := fun y => (((c : Nat) : Int), ((n : Nat) : Int), ((o : Nat) : Int), decide (y = 1))) hg
  have g3 := got_if (p := pnum l) (t := fun y => decide (y ≤ 1)) (f := fun y => (((c : Nat) : Int), ((n : Nat) : Int), ((o : Nat) : Int), decide (y = 1))) hg
  rw [e3 o n c] at q3 g3
  have g2 := got_bind (p := pnum l) (x := c) (q := fun c' a => (pnum l a).bind fun y => if y.1 ≤ 1 then some ((((c' : Nat) : Int), ((n : Nat) : Int), ((o : Nat) : Int), decide (y.1 = 1)), y.2) else none) hc g3
  have g1 := got_bind (p := pnum l) (x := n) (q := fun n' a => (pnum l a).bind fun x => (pnum l x.2).bind fun y => if y.1 ≤ 1 then some ((((x.1 : Nat) : Int), ((n' : Nat) : Int), ((o : Nat) : Int), decide (y.1 = 1)), y.2) else none) hn g2
  have g0 := got_bind (p := pnum l) (x := o) (q := fun o' a => (pnum l a).bind fun z => (pnum l z.2).bind fun x => (pnum l x.2).bind fun y => if y.1 ≤ 1 then some ((((x.1 : Nat) : Int), ((z.1 : Nat) : Int), ((o' : Nat) : Int), decide (y.1 = 1)), y.2) else none) ho g1
  refine ⟨?_, g0⟩
  exact (nxt_bind (p := pnum l) (x := o) (q := fun o' a => (pnum l a).bind fun z => (pnum l z.2).bind fun x => (pnum l x.2).bind fun y => if y.1 ≤ 1 then some ((((x.1 : Nat) : Int), ((z.1 : Nat) : Int), ((o' : Nat) : Int), decide (y.1 = 1)), y.2) else none) ho).trans
    ((nxt_bind (p := pnum l) (x := n) (q := fun n' a => (pnum l a).bind fun x => (pnum l x.2).bind fun y => if y.1 ≤ 1 then some ((((x.1 : Nat) : Int), ((n' : Nat) : Int), ((o : Nat) : Int), decide (y.1 = 1)), y.2) else none) hn).trans
      ((nxt_bind (p := pnum l) (x := c) (q := fun c' a => (pnum l a).bind fun y => if y.1 ≤ 1 then some ((((c' : Nat) : Int), ((n : Nat) : Int), ((o : Nat) : Int), decide (y.1 = 1)), y.2) else none) hc).trans q3))
/-- A note's bytes, read. -/
theorem pnote_nxt {l : List Int} {s0 s4 : Option Nat} {s e b : List (Int × Int)} {ws : List Wr} (hs : Got (pvec l) s0 s) (he : Got (pvec l) (nxt (pvec l) s0) e) (hb : Got (pset l) (nxt (pvec l) (nxt (pvec l) s0)) b)
    (hw : (nxt (pset l) (nxt (pvec l) (nxt (pvec l) s0))).bind (plist (pwr l) l) = s4.map fun a => (ws, a)) :
    nxt (pnote l) s0 = (if Nt.fmd ⟨s, e, b, ws⟩ then s4 else none) ∧ Got (pnote l) s0 ⟨s, e, b, ws⟩ := by
  obtain ⟨st, hst⟩ : ∃ st, nxt (pset l) (nxt (pvec l) (nxt (pvec l) s0)) = st := ⟨_, rfl⟩
  rw [hst] at hw
  have gw : Got (plist (pwr l) l) st ws := by
    intro z c hz
    rw [hw] at hz
    cases s4 with
    | none => cases hz
    | some a => cases hz; rfl
  have nw : nxt (plist (pwr l) l) st = s4 := by
    unfold nxt
    rw [hw]
    cases s4 <;> rfl
  have g3 := got_map (p := plist (pwr l) l) (f := fun v => (⟨s, e, b, v⟩ : Note)) gw
  rw [← hst] at g3
  have g2 := got_bind (p := pset l) (x := b) (q := fun b' a => (plist (pwr l) l a).map fun v => ((⟨s, e, b', v.1⟩ : Note), v.2)) hb g3
  have g1 := got_bind (p := pvec l) (x := e) (q := fun e' a => (pset l a).bind fun b => (plist (pwr l) l b.2).map fun v => ((⟨s, e', b.1, v.1⟩ : Note), v.2)) he g2
  have g0 := got_bind (p := pvec l) (x := s) (q := fun s' a => (pvec l a).bind fun e => (pset l e.2).bind fun b => (plist (pwr l) l b.2).map fun v => ((⟨s', e.1, b.1, v.1⟩ : Note), v.2)) hs g1
  refine ⟨(nxt_such (f := Nt.fmd) g0).trans ?_, got_such (f := Nt.fmd) g0⟩
  have n0 : nxt (fun a => (pvec l a).bind fun y => (pvec l y.2).bind fun e => (pset l e.2).bind fun b => (plist (pwr l) l b.2).map fun v => ((⟨y.1, e.1, b.1, v.1⟩ : Note), v.2)) s0 = s4 :=
    (nxt_bind (p := pvec l) (x := s) (q := fun s' a => (pvec l a).bind fun e => (pset l e.2).bind fun b => (plist (pwr l) l b.2).map fun v => ((⟨s', e.1, b.1, v.1⟩ : Note), v.2)) hs).trans
      ((nxt_bind (p := pvec l) (x := e) (q := fun e' a => (pset l a).bind fun b => (plist (pwr l) l b.2).map fun v => ((⟨s, e', b.1, v.1⟩ : Note), v.2)) he).trans
        ((nxt_bind (p := pset l) (x := b) (q := fun b' a => (plist (pwr l) l a).map fun v => ((⟨s, e, b', v.1⟩ : Note), v.2)) hb).trans
          (nxt_map.trans (by rw [hst]; exact nw))))
  rw [n0]
end Wi

/-- A list of pairs stays where a reader, a block of slices and new memory turn. -/
theorem OneL.but2 {w w1 : World} {A : Option Addr} {k : Nat} {l : List (Int × Int)} {g b : Nat} (h : OneL w A k l) (hb : But g b w w1) {B : Option Addr} {n c : Nat} {a : Int} {f : Bool} {t t' : TypeId} {cs : Array Value} (hG : Blk w g t #[.slice B n c, .int .i64 a, .bool f]) (hN : Blk w b t' cs) (hc : ∀ x ∈ cs.toList, isInt x = false) : OneL w1 A k l := by
  refine ⟨h.1, h.2.1, h.2.2.1, fun hne => ?_⟩
  obtain ⟨kb, off, hA, hl⟩ := h.2.2.2 hne
  cases l with
  | nil => exact absurd rfl hne
  | cons x r =>
    have h0 := hl 0 (.int .i64 x.1) rfl
    have h1 := hl 1 (.int .i64 x.2) rfl
    have hg : kb ≠ g := fun e => by
      subst e
      rw [Nat.add_zero, cell_of_row w kb off _ t (0, 0) hG] at h0
      rw [cell_of_row w kb (off + 1) _ t (0, 0) hG] at h1
      match off, h0, h1 with
      | 0, h0, _ => cases h0
      | 1, _, h1 => cases h1
      | 2, h0, _ => cases h0
      | m + 3, h0, _ => simp at h0
    have hbb : kb ≠ b := fun e => by
      subst e
      rw [Nat.add_zero, cell_of_row w kb off _ t' (0, 0) hN] at h0
      have h2 := hc _ (Array.mem_toList_iff.2 (Array.mem_of_getElem? h0))
      cases h2
    refine ⟨kb, off, hA, fun j u hu => ?_⟩
    have h3 := hl j u hu
    exact (World.cell?_of_block (a := ⟨kb, off + j, none⟩) (hb.2 kb (World.block_lt_of_cell? _ _ h3) hg hbb)).trans h3
theorem But.of_only {g b : Nat} {w w1 w2 : World} (h : But g b w w1) (ho : Only g w1 w2) : But g b w w2 := ⟨Nat.le_trans h.1 ho.size, fun k hk h1 h2 => (ho.block k (by have := h.1; omega) h1).trans (h.2 k hk h1 h2)⟩
theorem But.setNew {g b : Nat} {w w1 : World} (h : But g b w w1) {c : Nat} (hc : w.heap.size ≤ c) (i : Nat) (x : Value) : But g b w (w1.setCell ⟨c, i, none⟩ x) := ⟨by simpa [World.setCell] using h.1, fun k hk h1 h2 => (Below.heap_setCell w1 ⟨c, i, none⟩ x k (by show k ≠ c; omega)).trans (h.2 k hk h1 h2)⟩

end Go.Proofs.Ytbbmngabbbehcaa
namespace Go.Proofs.Ytbbmngabbbehcaa
open Go.RowKit

/-- A body's cells. -/
def bdCells (D : Option Addr) (d : Nat) (x : Bd) : Array Value := #[.int .i64 x.o, .int .i64 x.c, .int .i64 x.n, .slice D x.v.length d]
theorem bd_cells {w : World} {g : Nat} {t : TypeId} {D : Option Addr} {d : Nat} {x : Bd} (h : Blk w g t (bdCells D d x)) : w.cell? ⟨g, 0, none⟩ = some (.int .i64 x.o) ∧ w.cell? ⟨g, 1, none⟩ = some (.int .i64 x.c) ∧ w.cell? ⟨g, 2, none⟩ = some (.int .i64 x.n) ∧ w.cell? ⟨g, 3, none⟩ = some (.slice D x.v.length d) :=
  ⟨h.cell rfl, h.cell rfl, h.cell rfl, h.cell rfl⟩

set_option maxHeartbeats 3200000 in
theorem bright_any (D : Option Addr) (d : Nat) (x : Bd) (w : World) :
    Calls Try.prog 31 #[.agg (bdCells D d x)] w (Says (.bool (Wi.bright x)) w) := by
  obtain ⟨o, c, n, l⟩ := x
  unfold bdCells
  simp only
  obtain ⟨W, hW⟩ : ∃ W, w.alloc (.cells #[.int .i64 o, .int .i64 c, .int .i64 n, .slice D l.length d] 63) = W := ⟨_, rfl⟩
  have hb0 : Below w.heap.size w W := by rw [← hW]; exact below_new (Below.refl _ _) _
  have hB0 : Blk W w.heap.size 63 #[.int .i64 o, .int .i64 c, .int .i64 n, .slice D l.length d] := by rw [← hW]; exact Blk.new w _ _
  have c0 := hB0.cell (i := 0) rfl
  have c1 := hB0.cell (i := 1) rfl
  have c2 := hB0.cell (i := 2) rfl
  have c3 := hB0.cell (i := 3) rfl
  have hR := Lib.hid (show Wi.bright ⟨o, c, n, l⟩ = (decide (0 ≤ o) && (decide (o ≤ 255) && (St.rgt c n && decide (l.length ≤ 256)))) from rfl)
  have HW := Lib.hid hW
  have NR := Lib.hid (rright_any c n W)
  obtain ⟨rg, hrg⟩ : ∃ rg, St.rgt c n = rg := ⟨_, rfl⟩
  rw [hrg] at hR NR
  clear hW hrg
  by_cases h1 : 0 ≤ o
  · have d1 : decide (0 ≤ o) = true := decide_eq_true h1
    by_cases h2 : o ≤ 255
    · have d2 : decide (o ≤ 255) = true := decide_eq_true h2
      cases rg with
      | true =>
        go_enter Try.func31, Try.ntmps31
        go_wp2_with fail
        rw [HW.out]
        refine NR.out.mono ?_
        rintro e w1 ⟨rfl, b1⟩
        have e3 := cell_later b1 c3
        clear c0 c1 c2 c3
        by_cases h3 : l.length ≤ 256
        · have d3 : decide ((l.length : Int) ≤ 256) = true := decide_eq_true (by omega)
          go_wp2
          go_ret
          exact ⟨by rw [hR.out, d1, d2, decide_eq_true h3]; first | rfl | simp, below_on hb0 b1⟩
        · have d3 : decide ((l.length : Int) ≤ 256) = false := decide_eq_false (by omega)
          go_wp2
          go_ret
          exact ⟨by rw [hR.out, d1, d2, decide_eq_false h3]; first | rfl | simp, below_on hb0 b1⟩
      | false =>
        go_enter Try.func31, Try.ntmps31
        go_wp2_with fail
        rw [HW.out]
        refine NR.out.mono ?_
        rintro e w1 ⟨rfl, b1⟩
        go_wp2
        go_ret
        exact ⟨by rw [hR.out, d1, d2]; first | rfl | simp, below_on hb0 b1⟩
    · have d2 : decide (o ≤ 255) = false := decide_eq_false h2
      go_enter Try.func31, Try.ntmps31
      go_wp2_with fail
      rw [HW.out]
      go_wp2
      go_ret
      exact ⟨by rw [hR.out, d1, d2]; first | rfl | simp, hb0⟩
  · have d1 : decide (0 ≤ o) = false := decide_eq_false h1
    go_enter Try.func31, Try.ntmps31
    go_wp2_with fail
    rw [HW.out]
    go_wp2
    go_ret
    exact ⟨by rw [hR.out, d1]; first | rfl | simp, hb0⟩

namespace Wi
/-- Has a body nothing in it but its object? -/
def bempty (x : Bd) : Bool := decide (x.c = 0 ∧ x.n = 0) && decide (x.v = [])
/-- The same bodies? -/
def bsame (x y : Bd) : Bool := decide (x.o = y.o) && (decide (x.c = y.c ∧ x.n = y.n) && decide (x.v = y.v))
theorem bsame_iff (x y : Bd) : bsame x y = true ↔ x = y := by
  obtain ⟨o, c, n, l⟩ := x
  obtain ⟨o', c', n', l'⟩ := y
  unfold bsame
  simp [and_assoc]
end Wi

end Go.Proofs.Ytbbmngabbbehcaa
namespace Go.Proofs.Ytbbmngabbbehcaa
open Go.RowKit

theorem infoBd : (Try.prog.info? 63).map (·.size) = some 4 := by kernel_rfl
/-- A body was read. -/
def RdBody (g : Nat) (A : Option Addr) (c : Nat) (l : List Int) (s : Option Nat) (w : World) (e : Ending) (w' : World) : Prop :=
  ∃ D d x, e = .returned (.agg (bdCells D d x)) ∧ OneB w' D d x.v ∧ RdAt w' g A c l (Wi.nxt (Wi.pbody l) s) ∧ Only g w w' ∧ Wi.Got (Wi.pbody l) s x
theorem OneB.rd {w w1 : World} {A B : Option Addr} {k : Nat} {l : List Int} {g n c : Nat} {a : Int} {b : Bool} {t : TypeId} (h : OneB w A k l) (hB : Blk w g t #[.slice B n c, .int .i64 a, .bool b]) (hO : Only g w w1) : OneB w1 A k l := h.only hO hB rd_noU8s
/-- A reader and what it reads, where the reader's own function began: wherever all else stays, the bytes do. -/
theorem RdAt.keeps {w : World} {g : Nat} {A : Option Addr} {c : Nat} {l : List Int} {s : Option Nat} (h : RdAt w g A c l s) : ∀ (wx : World), Only g w wx → ∀ (a : Nat) (b : Bool), Blk wx g 32 #[.slice A l.length c, .int .i64 (a : Int), .bool b] → a ≤ l.length → RdAt wx g A c l (if b then none else some a) := by
  obtain ⟨ea, eb, hB0, hO0, _, _⟩ := h
  exact fun wx hx a b hB ha => ⟨a, b, hB, hO0.only hx hB0 rd_noU8s, ha, rfl⟩

set_option maxHeartbeats 6400000 in
set_option maxRecDepth 100000 in
theorem rdbody_any (g : Nat) (A : Option Addr) (c : Nat) (l : List Int) (s : Option Nat) (w : World) (hl : l.length ≤ 1099511627776) (h : RdAt w g A c l s) :
    Calls Try.prog 34 #[.pointer (some ⟨g, 0, none⟩)] w (RdBody g A c l s w) := by
  have hgl := h.lt
  have MK := Lib.hid h.keeps
  have NN := Lib.hid (fun s wx (hx : RdAt wx g A c l s) => rdnum_any g A c l s wx hx)
  have NR := Lib.hid (fun s wx (hx : RdAt wx g A c l s) => rdrow_any g A c l 256 s wx (by omega) hx)
  have bA : Below w.heap.size w (w.alloc (.cells #[.int .i64 0, .int .i64 0, .int .i64 0, .slice none 0 0] 63)) := below_new (Below.refl _ _) _
  have kA := Blk.new w 63 #[.int .i64 0, .int .i64 0, .int .i64 0, .slice none 0 0]
  have hA := Lib.hid (h.later bA)
  have oA : Only g w _ := Only.of_below g bA
  have KA := Lib.hid kA; have OA := Lib.hid oA
  clear h bA kA oA
  go_enter Try.func34, Try.ntmps34
  go_wp2_with fail
  refine (NN.out s _ hA.out).mono ?_
  rintro e w1 ⟨o, rfl, ho63, hR1, hO1, hG1, _⟩
  have s1 : w.heap.size < w1.heap.size := by have := hO1.size; simp at this; omega
  have kA1 := hO1.blk KA.out (show w.heap.size ≠ g by omega)
  have on1 := OA.out.on hO1
  have bB : Below w1.heap.size w1 (w1.alloc (.cells #[.int .i64 (o : Int), .int .i64 0, .int .i64 0, .slice none 0 0] 63)) := below_new (Below.refl _ _) _
  have kB := Blk.new w1 63 #[.int .i64 (o : Int), .int .i64 0, .int .i64 0, .slice none 0 0]
  have rB := Lib.hid (hR1.later bB)
  have onB := on1.below bB
  have kAB := kA1.later bB
  have KB := Lib.hid kB; have ONB := Lib.hid onB; have KAB := Lib.hid kAB; have HG1 := Lib.hid hG1
  clear hR1 hO1 hG1 kA1 on1 bB kB onB kAB KA OA hA
  go_wp2_with fail
  refine (NN.out _ _ rB.out).mono ?_
  rintro e w2 ⟨n, rfl, hn63, hR2, hO2, hG2, _⟩
  obtain ⟨a2, b2, hB2, hOB2, ha2, hs2⟩ := hR2
  have s2 : w1.heap.size < w2.heap.size := by have := hO2.size; simp at this; omega
  have k2 := hO2.blk KB.out (show w1.heap.size ≠ g by omega)
  have f2 := k2.free 2
  have kk2 := k2.put 2 (.int .i64 (n : Int))
  have on2 := (ONB.out.on hO2).setNew (show w.heap.size ≤ w1.heap.size by omega) 2 (.int .i64 (n : Int))
  have kA2 := (hO2.blk KAB.out (show w.heap.size ≠ g by omega)).far (p := ⟨w1.heap.size, 2, none⟩) (show w.heap.size ≠ w1.heap.size by omega) (.int .i64 (n : Int))
  have r2 := MK.out _ on2 a2 b2 (hB2.far (p := ⟨w1.heap.size, 2, none⟩) (show g ≠ w1.heap.size by omega) (.int .i64 (n : Int))) ha2
  rw [← hs2] at r2
  have z2 := k2.cell (i := 2) rfl
  have K2 := Lib.hid kk2; have ON2 := Lib.hid on2; have KA2 := Lib.hid kA2; have R2 := Lib.hid r2; have HG2 := Lib.hid hG2
  clear hB2 hOB2 hs2 hO2 hG2 k2 kk2 on2 kA2 r2 rB KB ONB KAB
  go_wp2_with fail
  refine (NN.out _ _ R2.out).mono ?_
  rintro e w3 ⟨cc, rfl, hc63, hR3, hO3, hG3, _⟩
  obtain ⟨a3, b3, hB3, hOB3, ha3, hs3⟩ := hR3
  have s3 : w2.heap.size ≤ w3.heap.size := by have := hO3.size; simpa [World.setCell] using this
  have k3 := hO3.blk K2.out (show w1.heap.size ≠ g by omega)
  have f3 := k3.free 1
  have z3 := k3.cell (i := 1) rfl
  have kk3 := k3.put 1 (.int .i64 (cc : Int))
  have on3 := (ON2.out.on hO3).setNew (show w.heap.size ≤ w1.heap.size by omega) 1 (.int .i64 (cc : Int))
  have kA3 := (hO3.blk KA2.out (show w.heap.size ≠ g by omega)).far (p := ⟨w1.heap.size, 1, none⟩) (show w.heap.size ≠ w1.heap.size by omega) (.int .i64 (cc : Int))
  have r3 := MK.out _ on3 a3 b3 (hB3.far (p := ⟨w1.heap.size, 1, none⟩) (show g ≠ w1.heap.size by omega) (.int .i64 (cc : Int))) ha3
  rw [← hs3] at r3
  have K3 := Lib.hid kk3; have ON3 := Lib.hid on3; have KA3 := Lib.hid kA3; have R3 := Lib.hid r3; have HG3 := Lib.hid hG3
  clear hB3 hOB3 hs3 hO3 hG3 k3 kk3 on3 kA3 r3 K2 ON2 KA2 R2 f2 z2
  go_wp2_with fail
  refine (NR.out _ _ R3.out).mono ?_
  rintro e w4 ⟨D, d, q, rfl, hq, hR4, hO4, hG4⟩
  obtain ⟨a4, b4, hB4, hOB4, ha4, hs4⟩ := hR4
  have s4 : w3.heap.size ≤ w4.heap.size := by have := hO4.size; simpa [World.setCell] using this
  have k4 := hO4.blk K3.out (show w1.heap.size ≠ g by omega)
  have f4 := k4.free 3
  have z4 := k4.cell (i := 3) rfl
  have kk4 := k4.put 3 (.slice D q.length d)
  have on4 := (ON3.out.on hO4).setNew (show w.heap.size ≤ w1.heap.size by omega) 3 (.slice D q.length d)
  have kA4 := (hO4.blk KA3.out (show w.heap.size ≠ g by omega)).far (p := ⟨w1.heap.size, 3, none⟩) (show w.heap.size ≠ w1.heap.size by omega) (.slice D q.length d)
  have hB4' := hB4.far (p := ⟨w1.heap.size, 3, none⟩) (show g ≠ w1.heap.size by omega) (.slice D q.length d)
  have hq4 : OneB (w4.setCell ⟨w1.heap.size, 3, none⟩ (.slice D q.length d)) D d q := hq.only ((Only.refl _ _).set 3 _) k4 (by intro x hx; simp at hx; rcases hx with rfl | rfl | rfl | rfl <;> rfl)
  have hb3 : (bdCells D d ⟨(o : Int), (cc : Int), (n : Int), q⟩) = #[.int .i64 (o : Int), .int .i64 (cc : Int), .int .i64 (n : Int), .slice D q.length d] := rfl
  -- what was read
  have c4 := Wi.got_map (f := fun v => (⟨(o : Int), (cc : Int), (n : Int), v⟩ : Bd)) hG4
  have c3 := Wi.got_bind (p := Wi.pnum l) (x := cc) (q := fun c0 a => (Wi.prow l 256 a).map fun v => ((⟨(o : Int), (c0 : Int), (n : Int), v.1⟩ : Bd), v.2)) HG3.out c4
  have c2 := Wi.got_bind (p := Wi.pnum l) (x := n) (q := fun n0 a => (Wi.pnum l a).bind fun c => (Wi.prow l 256 c.2).map fun v => ((⟨(o : Int), (c.1 : Int), (n0 : Int), v.1⟩ : Bd), v.2)) HG2.out c3
  have c1 := Wi.got_bind (p := Wi.pnum l) (x := o) (q := fun o0 a => (Wi.pnum l a).bind fun n => (Wi.pnum l n.2).bind fun c => (Wi.prow l 256 c.2).map fun v => ((⟨(o0 : Int), (c.1 : Int), (n.1 : Int), v.1⟩ : Bd), v.2)) HG1.out c2
  have n1 := (Wi.nxt_bind (p := Wi.pnum l) (x := o) (q := fun o0 a => (Wi.pnum l a).bind fun n => (Wi.pnum l n.2).bind fun c => (Wi.prow l 256 c.2).map fun v => ((⟨(o0 : Int), (c.1 : Int), (n.1 : Int), v.1⟩ : Bd), v.2)) HG1.out).trans ((Wi.nxt_bind (p := Wi.pnum l) (x := n) (q := fun n0 a => (Wi.pnum l a).bind fun c => (Wi.prow l 256 c.2).map fun v => ((⟨(o : Int), (c.1 : Int), (n0 : Int), v.1⟩ : Bd), v.2)) HG2.out).trans ((Wi.nxt_bind (p := Wi.pnum l) (x := cc) (q := fun c0 a => (Wi.prow l 256 a).map fun v => ((⟨(o : Int), (c0 : Int), (n : Int), v.1⟩ : Bd), v.2)) HG3.out).trans Wi.nxt_map))
  have fin1 : Wi.nxt (Wi.pbody l) s = if Wi.bright ⟨(o : Int), (cc : Int), (n : Int), q⟩ then (if b4 = true then none else some a4) else none := (Wi.nxt_such (f := Wi.bright) c1).trans (by rw [n1, hs4])
  have fin2 : Wi.Got (Wi.pbody l) s ⟨(o : Int), (cc : Int), (n : Int), q⟩ := Wi.got_such (f := Wi.bright) c1
  have K4 := Lib.hid kk4; have ON4 := Lib.hid on4; have KA4 := Lib.hid kA4; have HB4 := Lib.hid hB4'; have HQ4 := Lib.hid hq4; have FIN1 := Lib.hid fin1; have FIN2 := Lib.hid fin2
  have NB := Lib.hid (bright_any D d ⟨(o : Int), (cc : Int), (n : Int), q⟩ (w4.setCell ⟨w1.heap.size, 3, none⟩ (.slice D q.length d)))
  rw [hb3] at NB
  have zg := hB4.cell (i := 2) rfl
  have fg := hB4.free 2
  clear hB4 hB4' hOB4 hs4 hO4 hG4 k4 kk4 on4 kA4 hq hq4 K3 ON3 KA3 R3 f3 z3 c1 c2 c3 c4 n1 fin1 fin2 hb3 HG1 HG2 HG3

  cases b4 with
  | true =>
    have hR9 : ∀ w9 : World, Blk w9 g 32 #[.slice A l.length c, .int .i64 (a4 : Int), .bool true] → Only g w w9 → RdAt w9 g A c l (Wi.nxt (Wi.pbody l) s) := fun w9 hb ho => by
      have h9 := MK.out w9 ho a4 true hb ha4
      rw [FIN1.out]
      cases Wi.bright ⟨(o : Int), (cc : Int), (n : Int), q⟩ <;> exact h9
    have HR9 := Lib.hid hR9; clear hR9
    have u1 := (ON4.out).set 2 (.bool true)
    have u2 := (((u1.setNew (Nat.le_refl _) 0 (.int .i64 (o : Int))).setNew (Nat.le_refl _) 1 (.int .i64 (cc : Int))).setNew (Nat.le_refl _) 2 (.int .i64 (n : Int))).setNew (Nat.le_refl _) 3 (.slice D q.length d)
    have v1 := (KA4.out).far (p := ⟨g, 2, none⟩) (show w.heap.size ≠ g by omega) (.bool true)
    have v2 := (((v1.put 0 (.int .i64 (o : Int))).put 1 (.int .i64 (cc : Int))).put 2 (.int .i64 (n : Int))).put 3 (.slice D q.length d)
    have x1 := (HB4.out).put 2 (.bool true)
    have x2 := (((x1.far (p := ⟨w.heap.size, 0, none⟩) (show g ≠ w.heap.size by omega) (.int .i64 (o : Int))).far (p := ⟨w.heap.size, 1, none⟩) (show g ≠ w.heap.size by omega) (.int .i64 (cc : Int))).far (p := ⟨w.heap.size, 2, none⟩) (show g ≠ w.heap.size by omega) (.int .i64 (n : Int))).far (p := ⟨w.heap.size, 3, none⟩) (show g ≠ w.heap.size by omega) (.slice D q.length d)
    have y1 := (HQ4.out).only ((Only.refl _ _).set 2 (.bool true)) (HB4.out) rd_noU8s
    have nb : ∀ z ∈ (#[.int .i64 0, .int .i64 0, .int .i64 0, .slice none 0 0] : Array Value).toList, isU8 z = false := by intro z hz; simp at hz; rcases hz with rfl | rfl <;> rfl
    have y2 := y1.only (((((Only.refl _ _).set 0 (.int .i64 (o : Int))).set 1 (.int .i64 (cc : Int))).set 2 (.int .i64 (n : Int))).set 3 (.slice D q.length d)) v1 nb
    have V2 := Lib.hid v2; have U2 := Lib.hid u2; have X2 := Lib.hid x2; have Y2 := Lib.hid y2
    clear u1 u2 v1 v2 x1 x2 y1 y2 nb
    have q0 := (K4.out).cell (i := 0) rfl; have q1 := (K4.out).cell (i := 1) rfl; have q2 := (K4.out).cell (i := 2) rfl; have q3 := (K4.out).cell (i := 3) rfl
    have y0 := (KA4.out).cell (i := 0) rfl; have y1 := (KA4.out).cell (i := 1) rfl; have y2 := (KA4.out).cell (i := 2) rfl; have y3 := (KA4.out).cell (i := 3) rfl
    have t0 := (KA4.out).free 0; have t1 := (KA4.out).free 1; have t2 := (KA4.out).free 2; have t3 := (KA4.out).free 3
    go_wp2
    exact bodyPost_ret (v := .agg (bdCells D d ⟨(o : Int), (cc : Int), (n : Int), q⟩)) (results_cell_row rfl _ _ w.heap.size 63 (bdCells D d ⟨(o : Int), (cc : Int), (n : Int), q⟩) (0, 0) _ rfl V2.out Try.underlying63 rfl infoBd) rfl ⟨D, d, ⟨(o : Int), (cc : Int), (n : Int), q⟩, rfl, Y2.out, HR9.out _ X2.out U2.out, U2.out, FIN2.out⟩
  | false =>
    obtain ⟨fb, hfb⟩ : ∃ fb, Wi.bright ⟨(o : Int), (cc : Int), (n : Int), q⟩ = fb := ⟨_, rfl⟩
    have hR9 : ∀ w9 : World, Blk w9 g 32 #[.slice A l.length c, .int .i64 (a4 : Int), .bool (!fb)] → Only g w w9 → RdAt w9 g A c l (Wi.nxt (Wi.pbody l) s) := fun w9 hb ho => by
      have h9 := MK.out w9 ho a4 (!fb) hb ha4
      rw [FIN1.out, hfb]
      cases fb <;> exact h9
    have HR9 := Lib.hid hR9; clear hR9
    rw [hfb] at NB
    clear hfb
    have p0 := K4.out.cell (i := 0) rfl; have p1 := K4.out.cell (i := 1) rfl; have p2 := K4.out.cell (i := 2) rfl; have p3 := K4.out.cell (i := 3) rfl
    go_wp2_with fail
    refine NB.out.mono ?_
    rintro e w5 ⟨rfl, b5⟩
    have ON5 := Lib.hid (ON4.out.below b5); have KA5 := Lib.hid (KA4.out.later b5); have KB5 := Lib.hid (K4.out.later b5); have HB5 := Lib.hid (HB4.out.later b5); have HQ5 := Lib.hid (HQ4.out.later b5)
    have zg5 := HB5.out.cell (i := 2) rfl; have fg5 := HB5.out.free 2
    clear p0 p1 p2 p3 zg fg z4 f4
    cases fb with
    | true =>
      have u1 := (ON5.out).set 2 (.bool false)
      have u2 := (((u1.setNew (Nat.le_refl _) 0 (.int .i64 (o : Int))).setNew (Nat.le_refl _) 1 (.int .i64 (cc : Int))).setNew (Nat.le_refl _) 2 (.int .i64 (n : Int))).setNew (Nat.le_refl _) 3 (.slice D q.length d)
      have v1 := (KA5.out).far (p := ⟨g, 2, none⟩) (show w.heap.size ≠ g by omega) (.bool false)
      have v2 := (((v1.put 0 (.int .i64 (o : Int))).put 1 (.int .i64 (cc : Int))).put 2 (.int .i64 (n : Int))).put 3 (.slice D q.length d)
      have x1 := (HB5.out).put 2 (.bool false)
      have x2 := (((x1.far (p := ⟨w.heap.size, 0, none⟩) (show g ≠ w.heap.size by omega) (.int .i64 (o : Int))).far (p := ⟨w.heap.size, 1, none⟩) (show g ≠ w.heap.size by omega) (.int .i64 (cc : Int))).far (p := ⟨w.heap.size, 2, none⟩) (show g ≠ w.heap.size by omega) (.int .i64 (n : Int))).far (p := ⟨w.heap.size, 3, none⟩) (show g ≠ w.heap.size by omega) (.slice D q.length d)
      have y1 := (HQ5.out).only ((Only.refl _ _).set 2 (.bool false)) (HB5.out) rd_noU8s
      have nb : ∀ z ∈ (#[.int .i64 0, .int .i64 0, .int .i64 0, .slice none 0 0] : Array Value).toList, isU8 z = false := by intro z hz; simp at hz; rcases hz with rfl | rfl <;> rfl
      have y2 := y1.only (((((Only.refl _ _).set 0 (.int .i64 (o : Int))).set 1 (.int .i64 (cc : Int))).set 2 (.int .i64 (n : Int))).set 3 (.slice D q.length d)) v1 nb
      have V2 := Lib.hid v2; have U2 := Lib.hid u2; have X2 := Lib.hid x2; have Y2 := Lib.hid y2
      clear u1 u2 v1 v2 x1 x2 y1 y2 nb
      have q0 := (KB5.out).cell (i := 0) rfl; have q1 := (KB5.out).cell (i := 1) rfl; have q2 := (KB5.out).cell (i := 2) rfl; have q3 := (KB5.out).cell (i := 3) rfl
      have y0 := (KA5.out).cell (i := 0) rfl; have y1 := (KA5.out).cell (i := 1) rfl; have y2 := (KA5.out).cell (i := 2) rfl; have y3 := (KA5.out).cell (i := 3) rfl
      have t0 := (KA5.out).free 0; have t1 := (KA5.out).free 1; have t2 := (KA5.out).free 2; have t3 := (KA5.out).free 3
      go_wp2
      exact bodyPost_ret (v := .agg (bdCells D d ⟨(o : Int), (cc : Int), (n : Int), q⟩)) (results_cell_row rfl _ _ w.heap.size 63 (bdCells D d ⟨(o : Int), (cc : Int), (n : Int), q⟩) (0, 0) _ rfl V2.out Try.underlying63 rfl infoBd) rfl ⟨D, d, ⟨(o : Int), (cc : Int), (n : Int), q⟩, rfl, Y2.out, HR9.out _ X2.out U2.out, U2.out, FIN2.out⟩
    | false =>
      have u1 := (ON5.out).set 2 (.bool true)
      have u2 := (((u1.setNew (Nat.le_refl _) 0 (.int .i64 (o : Int))).setNew (Nat.le_refl _) 1 (.int .i64 (cc : Int))).setNew (Nat.le_refl _) 2 (.int .i64 (n : Int))).setNew (Nat.le_refl _) 3 (.slice D q.length d)
      have v1 := (KA5.out).far (p := ⟨g, 2, none⟩) (show w.heap.size ≠ g by omega) (.bool true)
      have v2 := (((v1.put 0 (.int .i64 (o : Int))).put 1 (.int .i64 (cc : Int))).put 2 (.int .i64 (n : Int))).put 3 (.slice D q.length d)
      have x1 := (HB5.out).put 2 (.bool true)
      have x2 := (((x1.far (p := ⟨w.heap.size, 0, none⟩) (show g ≠ w.heap.size by omega) (.int .i64 (o : Int))).far (p := ⟨w.heap.size, 1, none⟩) (show g ≠ w.heap.size by omega) (.int .i64 (cc : Int))).far (p := ⟨w.heap.size, 2, none⟩) (show g ≠ w.heap.size by omega) (.int .i64 (n : Int))).far (p := ⟨w.heap.size, 3, none⟩) (show g ≠ w.heap.size by omega) (.slice D q.length d)
      have y1 := (HQ5.out).only ((Only.refl _ _).set 2 (.bool true)) (HB5.out) rd_noU8s
      have nb : ∀ z ∈ (#[.int .i64 0, .int .i64 0, .int .i64 0, .slice none 0 0] : Array Value).toList, isU8 z = false := by intro z hz; simp at hz; rcases hz with rfl | rfl <;> rfl
      have y2 := y1.only (((((Only.refl _ _).set 0 (.int .i64 (o : Int))).set 1 (.int .i64 (cc : Int))).set 2 (.int .i64 (n : Int))).set 3 (.slice D q.length d)) v1 nb
      have V2 := Lib.hid v2; have U2 := Lib.hid u2; have X2 := Lib.hid x2; have Y2 := Lib.hid y2
      clear u1 u2 v1 v2 x1 x2 y1 y2 nb
      have q0 := (KB5.out).cell (i := 0) rfl; have q1 := (KB5.out).cell (i := 1) rfl; have q2 := (KB5.out).cell (i := 2) rfl; have q3 := (KB5.out).cell (i := 3) rfl
      have y0 := (KA5.out).cell (i := 0) rfl; have y1 := (KA5.out).cell (i := 1) rfl; have y2 := (KA5.out).cell (i := 2) rfl; have y3 := (KA5.out).cell (i := 3) rfl
      have t0 := (KA5.out).free 0; have t1 := (KA5.out).free 1; have t2 := (KA5.out).free 2; have t3 := (KA5.out).free 3
      go_wp2
      exact bodyPost_ret (v := .agg (bdCells D d ⟨(o : Int), (cc : Int), (n : Int), q⟩)) (results_cell_row rfl _ _ w.heap.size 63 (bdCells D d ⟨(o : Int), (cc : Int), (n : Int), q⟩) (0, 0) _ rfl V2.out Try.underlying63 rfl infoBd) rfl ⟨D, d, ⟨(o : Int), (cc : Int), (n : Int), q⟩, rfl, Y2.out, HR9.out _ X2.out U2.out, U2.out, FIN2.out⟩

end Go.Proofs.Ytbbmngabbbehcaa
