/-
  What the reader's Note answers.
  What wire's readWrite and readBody answer.
  What wire's readList answers, for stamps and spans.
  What telltaleref06's Note answers: a note's bytes.
-/
import Derived.Test.YtbbmngabbbehcaaG14
import Derived.Test.YtbbmngabbbehcaaG13
namespace Go.Proofs.Ytbbmngabbbehcaa
open Go.RowKit

theorem infoNtW : (Try.prog.info? 51).map (·.size) = some 4 := by kernel_rfl
theorem infoWrW : (Try.prog.info? 101).map (fun i => (i.zero, i.size, i.bytes)) = some (some (.agg #[.int .i64 0, .int .i64 0, .int .i64 0, .bool false]), 4, 32) := by kernel_rfl
/-- A note was read. -/
def RdNote (g : Nat) (A : Option Addr) (c : Nat) (l : List Int) (s : Option Nat) (w : World) (e : Ending) (w' : World) : Prop :=
  ∃ S E B V cs ce cb cv n, e = .returned (.agg (noteCells S E B V cs ce cb cv n)) ∧ NoteAt w' S E B V cs ce cb cv n ∧ n.s.length ≤ l.length + 1 ∧ n.e.length ≤ l.length + 1 ∧ n.b.length ≤ l.length + 1 ∧ n.ws.length ≤ l.length + 1 ∧ RdAt w' g A c l (Wi.nxt (Wi.pnote l) s) ∧ Only g w w' ∧ Wi.Got (Wi.pnote l) s n

/-- A note was read, all of it in memory of the call's own. -/
def RdNoteO (g : Nat) (A : Option Addr) (c : Nat) (l : List Int) (s : Option Nat) (w : World) (e : Ending) (w' : World) : Prop :=
  ∃ S E B V cs ce cb cv n, e = .returned (.agg (noteCells S E B V cs ce cb cv n)) ∧ NoteAt w' S E B V cs ce cb cv n ∧ n.s.length ≤ l.length + 1 ∧ n.e.length ≤ l.length + 1 ∧ n.b.length ≤ l.length + 1 ∧ n.ws.length ≤ l.length + 1 ∧ RdAt w' g A c l (Wi.nxt (Wi.pnote l) s) ∧ Only g w w' ∧ Wi.Got (Wi.pnote l) s n ∧
    w'.ownsRow w.heap.size 61 2 (.slice S n.s.length cs) n.s.length (stCells n.s) ∧ w'.ownsRow w.heap.size 61 2 (.slice E n.e.length ce) n.e.length (stCells n.e) ∧ w'.ownsRow w.heap.size 95 2 (.slice B n.b.length cb) n.b.length (stCells n.b) ∧ w'.ownsRow w.heap.size 101 4 (.slice V n.ws.length cv) n.ws.length (Nt.wrCells n.ws)
/-- An own row that lies apart from block j, through what is done. -/
structure OwnF (w : World) (base j : Nat) (t : TypeId) (sz : Nat) (v : Value) (n : Nat) (xs : List Value) : Prop where
  row : w.ownsRow base t sz v n xs
  far : ∀ k, v.ownBlock = some k → k ≠ j
theorem OwnF.only {w w1 : World} {base j sz n g : Nat} {t : TypeId} {v : Value} {xs : List Value} (h : OwnF w base j t sz v n xs) (ho : Only g w w1) (hg : g < base) : OwnF w1 base j t sz v n xs := ⟨ho.own h.row hg, h.far⟩
theorem OwnF.put {w : World} {base j sz n : Nat} {t : TypeId} {v : Value} {xs : List Value} (h : OwnF w base j t sz v n xs) (i : Nat) (u : Value) : OwnF (w.setCell ⟨j, i, none⟩ u) base j t sz v n xs := ⟨own_stays h.row (fun k hk => Below.heap_setCell _ _ _ _ (h.far k hk)), h.far⟩
theorem OwnF.but {w w1 : World} {base j sz n g : Nat} {t : TypeId} {v : Value} {xs : List Value} (h : OwnF w base j t sz v n xs) (hb : But g j w w1) (hg : g < base) : OwnF w1 base j t sz v n xs :=
  ⟨own_stays h.row (fun k hk => hb.2 k (own_lt h.row k hk) (by have := own_ge h.row k hk; omega) (h.far k hk)), h.far⟩
theorem own_set0 {w : World} {base size n : Nat} {e : TypeId} {v : Value} {xs : List Value} (h : w.ownsRow base e size v n xs) {B : Nat} (hB : B < base) (i : Nat) (u : Value) : (w.setCell ⟨B, i, none⟩ u).ownsRow base e size v n xs :=
  own_stays h (fun k hk => Below.heap_setCell _ _ _ _ (by have := own_ge h k hk; show k ≠ B; omega))
theorem own_five {w : World} {base size n : Nat} {e : TypeId} {v : Value} {xs : List Value} (h : w.ownsRow base e size v n xs) {g j : Nat} (hg : g < base) (hj : j < base) (b a0 a1 a2 a3 : Value) :
    (((((w.setCell ⟨g, 2, none⟩ b).setCell ⟨j, 0, none⟩ a0).setCell ⟨j, 1, none⟩ a1).setCell ⟨j, 2, none⟩ a2).setCell ⟨j, 3, none⟩ a3).ownsRow base e size v n xs :=
  own_set0 (own_set0 (own_set0 (own_set0 (own_set0 h hg 2 b) hj 0 a0) hj 1 a1) hj 2 a2) hj 3 a3

theorem OneW.rd {w w1 : World} {A B : Option Addr} {k : Nat} {l : List Wr} {g n c : Nat} {a : Int} {b : Bool} {t : TypeId} (h : OneW w A k l) (hB : Blk w g t #[.slice B n c, .int .i64 a, .bool b]) (hO : Only g w w1) : OneW w1 A k l := by
  refine ⟨h.1, h.2.1, h.2.2.1, ?_⟩
  cases l with
  | nil => exact fun hne => absurd rfl hne
  | cons x r => exact Lies.rd (u := .int .i64 x.1) (v := .int .i64 x.2.1) h.2.2.2 rfl rfl hB hO
theorem NoteAt.rd {w w1 : World} {S E B V A : Option Addr} {cs ce cb cv : Nat} {n : Note} {g m c : Nat} {a : Int} {b : Bool} {t : TypeId} (h : NoteAt w S E B V cs ce cb cv n) (hB : Blk w g t #[.slice A m c, .int .i64 a, .bool b]) (hO : Only g w w1) : NoteAt w1 S E B V cs ce cb cv n := ⟨h.hs.rd hB hO, h.he.rd hB hO, h.hb.rd hB hO, h.hv.rd hB hO⟩
theorem slices_noInt {cs : Array Value} (h : ∀ u ∈ cs.toList, isSl u = true) : ∀ u ∈ cs.toList, isInt u = false := fun u hu => by
  have := h u hu
  cases u <;> first | rfl | cases this
theorem Wi.nxt_lt4 {l : List Int} {a b : Nat} (hl : ∀ x ∈ l, isB x) (ha : a ≤ l.length) (h : Wi.nxt (Wi.pnum l) (Wi.nxt (Wi.pnum l) (Wi.nxt (Wi.pnum l) (Wi.nxt (Wi.pnum l) (some a)))) = some b) : a < b ∧ b ≤ l.length := by
  have key : ∀ s : Option Nat, Wi.nxt (Wi.pnum l) s ≠ none → s ≠ none := fun s h1 h2 => h1 (by rw [h2]; rfl)
  cases h1 : Wi.nxt (Wi.pnum l) (some a) with
  | none => rw [h1] at h; cases h
  | some a1 =>
    rw [h1] at h
    have e1 := Wi.nxt_num hl ha h1
    cases h2 : Wi.nxt (Wi.pnum l) (some a1) with
    | none => rw [h2] at h; cases h
    | some a2 =>
      rw [h2] at h
      have e2 := Wi.nxt_num hl e1.2 h2
      cases h3 : Wi.nxt (Wi.pnum l) (some a2) with
      | none => rw [h3] at h; cases h
      | some a3 =>
        rw [h3] at h
        have e3 := Wi.nxt_num hl e2.2 h3
        have e4 := Wi.nxt_num hl e3.2 h
        exact ⟨by omega, e4.2⟩

set_option maxHeartbeats 12800000 in
set_option maxRecDepth 100000 in
theorem rdnote_own (g : Nat) (A : Option Addr) (c : Nat) (l : List Int) (s : Option Nat) (w : World) (hl : l.length ≤ 1099511627776) (h : RdAt w g A c l s) :
    Calls Try.prog 28 #[.pointer (some ⟨g, 0, none⟩)] w (RdNoteO g A c l s w) := by
  obtain ⟨i0, hi, hz0, hz1, hz2⟩ := info_parts infoWrW
  have hgl := h.lt
  have MK := Lib.hid h.keeps
  have hbyte : ∀ x ∈ l, isB x := by
    obtain ⟨_, _, _, hO, _⟩ := h
    exact hO.byte
  have HBY := Lib.hid hbyte
  have NN := Lib.hid (fun s wx (hx : RdAt wx g A c l s) => rdnum_any g A c l s wx hx)
  have NV := Lib.hid (fun s wx (hx : RdAt wx g A c l s) => rdvec_own g A c l s wx hl hx)
  have NS := Lib.hid (fun s wx (hx : RdAt wx g A c l s) => rdset_own g A c l s wx hl hx)
  have bA : Below w.heap.size w (w.alloc (.cells #[.slice none 0 0, .slice none 0 0, .slice none 0 0, .slice none 0 0] 51)) := below_new (Below.refl _ _) _
  have kA := Blk.new w 51 #[.slice none 0 0, .slice none 0 0, .slice none 0 0, .slice none 0 0]
  have hA := Lib.hid (h.later bA)
  have oA : Only g w _ := Only.of_below g bA
  have KA := Lib.hid kA; have OA := Lib.hid oA
  clear h bA kA oA hbyte
  go_enter Try.func28, Try.ntmps28
  go_wp2_with fail
  refine (NV.out s _ hA.out).mono ?_
  rintro e w1 ⟨S, cs, ls, rfl, hsl, hSo, hR1, hO1, hG1⟩
  have hS1 := oneL_own0 hSo
  have hSo1 : w1.ownsRow (w.heap.size + 1) 61 2 (.slice S ls.length cs) ls.length (stCells ls) := own_base hSo (by simp)
  have s1 : w.heap.size < w1.heap.size := by have := hO1.size; simp at this; omega
  have kA1 := hO1.blk KA.out (show w.heap.size ≠ g by omega)
  have on1 := OA.out.on hO1
  have bB : Below w1.heap.size w1 (w1.alloc (.cells #[.slice S ls.length cs, .slice none 0 0, .slice none 0 0, .slice none 0 0] 51)) := below_new (Below.refl _ _) _
  have OS := Lib.hid (show OwnF (w1.alloc (.cells #[.slice S ls.length cs, .slice none 0 0, .slice none 0 0, .slice none 0 0] 51)) (w.heap.size + 1) w1.heap.size 61 2 (.slice S ls.length cs) ls.length (stCells ls) from ⟨hSo1.alloc _, fun k hk => by have := own_lt hSo1 k hk; omega⟩)
  clear hSo hSo1
  have hgl1 : g < w.heap.size + 1 := by omega
  have KB := Lib.hid (Blk.new w1 51 #[.slice S ls.length cs, .slice none 0 0, .slice none 0 0, .slice none 0 0])
  have rB := Lib.hid (hR1.later bB)
  have ONB := Lib.hid (on1.below bB); have KAB := Lib.hid (kA1.later bB); have HG1 := Lib.hid hG1; have HSB := Lib.hid (hS1.later bB)
  clear hR1 hO1 hG1 kA1 on1 bB hS1 KA OA hA
  go_wp2_with fail
  refine (NV.out _ _ rB.out).mono ?_
  rintro e w2 ⟨E, ce, le, rfl, hel, hEo, hR2, hO2, hG2⟩
  have hE2 := oneL_own0 hEo
  have OE := Lib.hid (show OwnF w2 (w.heap.size + 1) w1.heap.size 61 2 (.slice E le.length ce) le.length (stCells le) from ⟨own_base hEo (by simp; omega), fun k hk => by have := own_ge hEo k hk; simp at this; omega⟩)
  have OS2 := Lib.hid ((OS.out.only hO2 hgl1).put 1 (.slice E le.length ce)); have OE2 := Lib.hid (OE.out.put 1 (.slice E le.length ce))
  clear hEo
  obtain ⟨a1', b1', hB1', -, -, -⟩ := rB.out
  obtain ⟨a2, b2, hB2, hOB2, ha2, hs2⟩ := hR2
  have s2 : w1.heap.size < w2.heap.size := by have := hO2.size; simp at this; omega
  have k2 := hO2.blk KB.out (show w1.heap.size ≠ g by omega)
  have f2 := k2.free 1; have z2 := k2.cell (i := 1) rfl
  have sl2 : ∀ u ∈ (#[.slice S ls.length cs, .slice none 0 0, .slice none 0 0, .slice none 0 0] : Array Value).toList, isSl u = true := by intro u hu; simp at hu; rcases hu with rfl | rfl <;> rfl
  have S2 := Lib.hid ((HSB.out.rd hB1' hO2).slPut k2 sl2 1 (.slice E le.length ce))
  have E2 := Lib.hid (hE2.slPut k2 sl2 1 (.slice E le.length ce))
  have K2 := Lib.hid (k2.put 1 (.slice E le.length ce))
  have ON2 := Lib.hid ((ONB.out.on hO2).setNew (show w.heap.size ≤ w1.heap.size by omega) 1 (.slice E le.length ce))
  have KA2 := Lib.hid ((hO2.blk KAB.out (show w.heap.size ≠ g by omega)).far (p := ⟨w1.heap.size, 1, none⟩) (show w.heap.size ≠ w1.heap.size by omega) (.slice E le.length ce))
  have hB2' := hB2.far (p := ⟨w1.heap.size, 1, none⟩) (show g ≠ w1.heap.size by omega) (.slice E le.length ce)
  have r2 := MK.out _ ON2.out a2 b2 hB2' ha2
  rw [← hs2] at r2
  have R2 := Lib.hid r2; have HG2 := Lib.hid hG2; have HB2 := Lib.hid hB2'
  clear hB2 hB2' hOB2 hs2 hO2 hG2 k2 r2 rB KB ONB KAB hE2 HSB sl2 hB1'
  go_wp2_with fail
  refine (NS.out _ _ R2.out).mono ?_
  rintro e w3 ⟨B, cb, lb, rfl, hbl, hBo, hR3, hO3, hG3⟩
  have hB3x := oneL_own0 hBo
  have OB := Lib.hid (show OwnF w3 (w.heap.size + 1) w1.heap.size 95 2 (.slice B lb.length cb) lb.length (stCells lb) from ⟨own_base hBo (by simp [World.setCell]; omega), fun k hk => by have := own_ge hBo k hk; simp [World.setCell] at this; omega⟩)
  have OS3 := Lib.hid ((OS2.out.only hO3 hgl1).put 2 (.slice B lb.length cb)); have OE3 := Lib.hid ((OE2.out.only hO3 hgl1).put 2 (.slice B lb.length cb)); have OB3 := Lib.hid (OB.out.put 2 (.slice B lb.length cb))
  clear hBo
  obtain ⟨a3, b3, hB3, hOB3, ha3, hs3⟩ := hR3
  have s3 : w2.heap.size ≤ w3.heap.size := by have := hO3.size; simpa [World.setCell] using this
  have k3 : Blk w3 w1.heap.size 51 #[.slice S ls.length cs, .slice E le.length ce, .slice none 0 0, .slice none 0 0] := hO3.blk K2.out (show w1.heap.size ≠ g by omega)
  have f3 := k3.free 2; have z3 := k3.cell (i := 2) rfl
  have sl3 : ∀ u ∈ (#[.slice S ls.length cs, .slice E le.length ce, .slice none 0 0, .slice none 0 0] : Array Value).toList, isSl u = true := by intro u hu; simp at hu; rcases hu with rfl | rfl | rfl <;> rfl
  have S3 := Lib.hid ((S2.out.rd HB2.out hO3).slPut k3 sl3 2 (.slice B lb.length cb))
  have E3 := Lib.hid ((E2.out.rd HB2.out hO3).slPut k3 sl3 2 (.slice B lb.length cb))
  have B3 := Lib.hid (hB3x.slPut k3 sl3 2 (.slice B lb.length cb))
  have K3 := Lib.hid (show Blk _ w1.heap.size 51 #[.slice S ls.length cs, .slice E le.length ce, .slice B lb.length cb, .slice none 0 0] from k3.put 2 (.slice B lb.length cb))
  have ON3 := Lib.hid ((ON2.out.on hO3).setNew (show w.heap.size ≤ w1.heap.size by omega) 2 (.slice B lb.length cb))
  have KA3 := Lib.hid ((hO3.blk KA2.out (show w.heap.size ≠ g by omega)).far (p := ⟨w1.heap.size, 2, none⟩) (show w.heap.size ≠ w1.heap.size by omega) (.slice B lb.length cb))
  have hB3' := hB3.far (p := ⟨w1.heap.size, 2, none⟩) (show g ≠ w1.heap.size by omega) (.slice B lb.length cb)
  have r3 := MK.out _ ON3.out a3 b3 hB3' ha3
  rw [← hs3] at r3
  have R3 := Lib.hid r3; have HG3 := Lib.hid hG3; have HB3 := Lib.hid hB3'
  clear hB3 hB3' hOB3 hs3 hO3 hG3 k3 r3 K2 ON2 KA2 R2 S2 E2 HB2 f2 z2 hB3x sl3
  go_wp2_with fail
  refine (NN.out _ _ R3.out).mono ?_
  rintro e w4 ⟨kn, rfl, hkn63, hR4, hO4, hG4, _⟩
  have s4 : w3.heap.size ≤ w4.heap.size := by have := hO4.size; simpa [World.setCell] using this
  have K4 := Lib.hid (hO4.blk K3.out (show w1.heap.size ≠ g by omega))
  have S4 := Lib.hid (S3.out.rd HB3.out hO4); have E4 := Lib.hid (E3.out.rd HB3.out hO4); have B4 := Lib.hid (B3.out.rd HB3.out hO4)
  have OS4 := Lib.hid (OS3.out.only hO4 hgl1); have OE4 := Lib.hid (OE3.out.only hO4 hgl1); have OB4 := Lib.hid (OB3.out.only hO4 hgl1)
  have ON4 := Lib.hid (ON3.out.on hO4)
  have KA4 := Lib.hid (hO4.blk KA3.out (show w.heap.size ≠ g by omega))
  have HINV := Lib.hid (Wi.inv_start (p := Wi.pwr l) hG4)
  have R4 := Lib.hid hR4
  obtain ⟨a4, b4, hB4, -, -, -⟩ := hR4
  have HB4 := Lib.hid hB4
  clear hO4 hG4 K3 ON3 KA3 R3 S3 E3 B3 HB3 f3 z3 hB4
  have hg4 : g < w4.heap.size := by omega
  have h14 : w1.heap.size < w4.heap.size := by omega
  go_wp2_with fail
  go_loopw [4, 5, 6] (fun s4 s5 s6 wr => ∃ (k : Nat) (acc : List Wr) (st : Option Nat) (V : Value), s4 = .int .i64 (k : Int) ∧ k ≤ 9223372036854775807 ∧ wr.ownsRow w4.heap.size 101 4 V acc.length (Nt.wrCells acc) ∧ Blk wr w1.heap.size 51 #[.slice S ls.length cs, .slice E le.length ce, .slice B lb.length cb, V] ∧ Blk wr w.heap.size 51 #[.slice none 0 0, .slice none 0 0, .slice none 0 0, .slice none 0 0] ∧ RdAt wr g A c l st ∧ Only g w wr ∧ But g w1.heap.size w4 wr ∧ Wi.Inv (Wi.pwr l) ((Wi.nxt (Wi.pset l) (Wi.nxt (Wi.pvec l) (Wi.nxt (Wi.pvec l) s))).bind (Wi.plist (Wi.pwr l) l)) k acc st ∧ acc.length ≤ l.length + 1 ∧ (∀ a, st = some a → acc.length ≤ a)) (fun s4 _ _ _ => (intOf s4).toNat)
  case atStart => exact ⟨kn, [], _, .slice none 0 0, rfl, hkn63, ⟨rfl, .inl ⟨rfl, rfl⟩⟩, K4.out, KA4.out, R4.out, ON4.out, But.refl _ _ _, HINV.out, by simp, fun a _ => by simp⟩
  case round =>
    obtain ⟨k, acc, st, V, rfl, hk63, hown, hK, hKA, hR, hOn, hBut, hinv, hal, haa⟩ := hrel
    have hsz := hBut.1
    obtain ⟨ra, rb, hB, hOB, hra, hst⟩ := hR
    have c2 := hB.cell (i := 2) rfl; have f2 := hB.free 2
    have HW := Lib.hid hown; have HK := Lib.hid hK; have HKA := Lib.hid hKA; have HB := Lib.hid hB; have HOB := Lib.hid hOB; have HST := Lib.hid hst; have HNV := Lib.hid hinv; have HON := Lib.hid hOn; have HAA := Lib.hid haa; have HBT := Lib.hid hBut
    clear hown hK hKA hB hOB hst hinv hOn haa hBut HINV KA4 R4 ON4
    by_cases hk : 0 < k ∧ rb = false
    · obtain ⟨hk0, rfl⟩ := hk
      obtain ⟨k, rfl⟩ : ∃ m, k = m + 1 := ⟨k - 1, by omega⟩
      have HS2 := Lib.hid (show st = some ra from HST.out)
      have hac := HAA.out ra HS2.out
      have hd : decide ((0 : Int) < ((k + 1 : Nat) : Int)) = true := decide_eq_true (by omega)
      have hkk : ((k + 1 : Nat) : Int) - 1 = (k : Int) := by omega
      have HRR := Lib.hid (show RdAt wr g A c l (some ra) from ⟨ra, false, HB.out, HOB.out, hra, rfl⟩)
      go_wp2_with fail
      refine (NN.out _ wr HRR.out).mono ?_
      rintro e w6 ⟨ob, rfl, hob63, hR6, hO6, hG6, _⟩
      have s6 : wr.heap.size ≤ w6.heap.size := hO6.size
      have bA6 : Below w6.heap.size w6 (w6.alloc (.cells #[.int .i64 0, .int .i64 0, .int .i64 (ob : Int), .bool false] 101)) := below_new (Below.refl _ _) _
      have KW6 := Lib.hid (Blk.new w6 101 #[.int .i64 0, .int .i64 0, .int .i64 (ob : Int), .bool false])
      have K6 := Lib.hid ((hO6.blk HK.out (show w1.heap.size ≠ g by omega)).later bA6)
      have KA6 := Lib.hid ((hO6.blk HKA.out (show w.heap.size ≠ g by omega)).later bA6)
      have ON6 := Lib.hid ((HON.out.on hO6).below bA6)
      have BT6 := Lib.hid ((HBT.out.of_only hO6).below bA6)
      have OW6 := Lib.hid ((hO6.own HW.out hg4).alloc (.cells #[.int .i64 0, .int .i64 0, .int .i64 (ob : Int), .bool false] 101))
      have R6 := Lib.hid (hR6.later bA6)
      have HG6 := Lib.hid hG6
      have owl : ∀ k', V.ownBlock = some k' → k' < wr.heap.size := fun k' hk' => own_lt HW.out k' hk'
      have OWL := Lib.hid owl
      clear hR6 hO6 hG6 bA6 owl

      go_wp2_with fail
      refine (NN.out _ _ R6.out).mono ?_
      rintro e w7 ⟨nd, rfl, hnd63, hR, hO, hG, _⟩
      have s7 : w6.heap.size < w7.heap.size := by have := hO.size; simp at this; omega
      obtain ⟨ax, bx, hBx, -, hax, hsx⟩ := hR
      have kx := hO.blk KW6.out (show w6.heap.size ≠ g by omega)
      have fx := kx.free 1; have zx := kx.cell (i := 1) rfl
      have KW7 := Lib.hid (kx.put 1 (.int .i64 (nd : Int)))
      have K7 := Lib.hid ((hO.blk K6.out (show w1.heap.size ≠ g by omega)).far (p := ⟨w6.heap.size, 1, none⟩) (show w1.heap.size ≠ w6.heap.size by omega) (.int .i64 (nd : Int)))
      have KA7 := Lib.hid ((hO.blk KA6.out (show w.heap.size ≠ g by omega)).far (p := ⟨w6.heap.size, 1, none⟩) (show w.heap.size ≠ w6.heap.size by omega) (.int .i64 (nd : Int)))
      have ON7 := Lib.hid ((ON6.out.on hO).setNew (show w.heap.size ≤ w6.heap.size by omega) 1 (.int .i64 (nd : Int)))
      have BT7 := Lib.hid ((BT6.out.of_only hO).setNew (show w4.heap.size ≤ w6.heap.size by omega) 1 (.int .i64 (nd : Int)))
      have OW7 := Lib.hid (own_stays (w' := w7.setCell ⟨w6.heap.size, 1, none⟩ (.int .i64 (nd : Int))) (hO.own OW6.out hg4) (fun k' hk' => Below.heap_setCell _ _ _ _ (by have := OWL.out k' hk'; show k' ≠ w6.heap.size; omega)))
      have rx := MK.out _ ON7.out ax bx (hBx.far (p := ⟨w6.heap.size, 1, none⟩) (show g ≠ w6.heap.size by omega) (.int .i64 (nd : Int))) hax
      rw [← hsx] at rx
      have R7 := Lib.hid rx; have HG7 := Lib.hid hG
      clear hO hG hBx hsx kx rx KW6 K6 KA6 ON6 BT6 OW6 R6
      clear c2 f2
      go_wp2_with fail
      refine (NN.out _ _ R7.out).mono ?_
      rintro e w8 ⟨ct, rfl, hct63, hR, hO, hG, _⟩
      have s8 : w6.heap.size < w8.heap.size := by have := hO.size; simp only [World.setCell, Array.size_modify] at this; omega
      obtain ⟨ax, bx, hBx, -, hax, hsx⟩ := hR
      have kx := hO.blk KW7.out (show w6.heap.size ≠ g by omega)
      have fx := kx.free 0; have zx := kx.cell (i := 0) rfl
      have KW8 := Lib.hid (kx.put 0 (.int .i64 (ct : Int)))
      have K8 := Lib.hid ((hO.blk K7.out (show w1.heap.size ≠ g by omega)).far (p := ⟨w6.heap.size, 0, none⟩) (show w1.heap.size ≠ w6.heap.size by omega) (.int .i64 (ct : Int)))
      have KA8 := Lib.hid ((hO.blk KA7.out (show w.heap.size ≠ g by omega)).far (p := ⟨w6.heap.size, 0, none⟩) (show w.heap.size ≠ w6.heap.size by omega) (.int .i64 (ct : Int)))
      have ON8 := Lib.hid ((ON7.out.on hO).setNew (show w.heap.size ≤ w6.heap.size by omega) 0 (.int .i64 (ct : Int)))
      have BT8 := Lib.hid ((BT7.out.of_only hO).setNew (show w4.heap.size ≤ w6.heap.size by omega) 0 (.int .i64 (ct : Int)))
      have OW8 := Lib.hid (own_stays (w' := w8.setCell ⟨w6.heap.size, 0, none⟩ (.int .i64 (ct : Int))) (hO.own OW7.out hg4) (fun k' hk' => Below.heap_setCell _ _ _ _ (by have := OWL.out k' hk'; show k' ≠ w6.heap.size; omega)))
      have rx := MK.out _ ON8.out ax bx (hBx.far (p := ⟨w6.heap.size, 0, none⟩) (show g ≠ w6.heap.size by omega) (.int .i64 (ct : Int))) hax
      rw [← hsx] at rx
      have R8 := Lib.hid rx; have HG8 := Lib.hid hG
      clear hO hG hBx hsx kx rx KW7 K7 KA7 ON7 BT7 OW7 R7
      go_wp2_with fail
      refine (NN.out _ _ R8.out).mono ?_
      rintro e w9 ⟨gn, rfl, hgn63, hR, hO, hG, _⟩
      have s9 : w6.heap.size < w9.heap.size := by have := hO.size; simp only [World.setCell, Array.size_modify] at this; omega
      obtain ⟨a9, b9, hB9, -, ha9, hs9⟩ := hR
      have KW9 := Lib.hid (hO.blk KW8.out (show w6.heap.size ≠ g by omega))
      have K9 := Lib.hid (hO.blk K8.out (show w1.heap.size ≠ g by omega))
      have KA9 := Lib.hid (hO.blk KA8.out (show w.heap.size ≠ g by omega))
      have ON9 := Lib.hid (ON8.out.on hO); have BT9 := Lib.hid (BT8.out.of_only hO); have OW9 := Lib.hid (hO.own OW8.out hg4); have HB9 := Lib.hid hB9; have HS9 := Lib.hid hs9; have HG9 := Lib.hid hG
      obtain ⟨hw1, hw2⟩ := Wi.pwr_nxt HG6.out HG7.out HG8.out HG9.out
      rw [HS9.out] at hw1
      have HW1 := Lib.hid hw1; have HW2 := Lib.hid hw2
      have f9 := KW9.out.free 3; have z9 := KW9.out.cell (i := 3) rfl
      clear hO hG hB9 hs9 hw1 hw2 KW8 K8 KA8 ON8 BT8 OW8 R8 fx zx HRR
      have hgb : ((gn : Int) == 1) = decide (gn = 1) := by
        by_cases h : gn = 1
        · subst h; rfl
        · rw [decide_eq_false h]; exact beq_eq_false_iff_ne.2 (by omega)
      have HGB := Lib.hid hgb; clear hgb
      have cg := HB9.out.cell (i := 2) rfl; have fg := HB9.out.free 2
      have u0 := KW9.out.cell (i := 0) rfl; have u1 := KW9.out.cell (i := 1) rfl; have u2 := KW9.out.cell (i := 2) rfl; have u3 := K9.out.cell (i := 3) rfl
      cases b9 with
      | true =>
        have k11 := (K9.out.far (p := ⟨w6.heap.size, 3, none⟩) (show w1.heap.size ≠ w6.heap.size by omega) (.bool ((gn : Int) == 1))).far (p := ⟨g, 2, none⟩) (show w1.heap.size ≠ g by omega) (.bool true)
        have ka11 := (KA9.out.far (p := ⟨w6.heap.size, 3, none⟩) (show w.heap.size ≠ w6.heap.size by omega) (.bool ((gn : Int) == 1))).far (p := ⟨g, 2, none⟩) (show w.heap.size ≠ g by omega) (.bool true)
        have on11 := (ON9.out.setNew (show w.heap.size ≤ w6.heap.size by omega) 3 (.bool ((gn : Int) == 1))).set 2 (.bool true)
        have bt11 := (BT9.out.setNew (show w4.heap.size ≤ w6.heap.size by omega) 3 (.bool ((gn : Int) == 1))).setA 2 (.bool true)
        have hb11 := (HB9.out.far (p := ⟨w6.heap.size, 3, none⟩) (show g ≠ w6.heap.size by omega) (.bool ((gn : Int) == 1))).put 2 (.bool true)
        have ow11 : ((w9.setCell ⟨w6.heap.size, 3, none⟩ (.bool ((gn : Int) == 1))).setCell ⟨g, 2, none⟩ (.bool true)).ownsRow w4.heap.size 101 4 V acc.length (Nt.wrCells acc) := own_stays OW9.out (fun k' hk' => (Below.heap_setCell _ _ _ _ (by have := own_ge HW.out k' hk'; show k' ≠ g; omega)).trans (Below.heap_setCell _ _ _ _ (by have := OWL.out k' hk'; show k' ≠ w6.heap.size; omega)))
        have sz11 : ((w9.setCell ⟨w6.heap.size, 3, none⟩ (.bool ((gn : Int) == 1))).setCell ⟨g, 2, none⟩ (.bool true)).heap.size = w9.heap.size := by simp [World.setCell]
        have K11 := Lib.hid k11; have KA11 := Lib.hid ka11; have ON11 := Lib.hid on11; have BT11 := Lib.hid bt11; have HB11 := Lib.hid hb11; have OW11 := Lib.hid ow11; have SZ := Lib.hid sz11
        clear k11 ka11 on11 bt11 hb11 ow11 sz11
        go_wp2_with (at_builtin; refine Go.Proofs.Ytbbmngabbbehcaa.wpList_append_lies _ rfl _ _ 49 rfl w4.heap.size 101 i0 (.agg #[.int .i64 0, .int .i64 0, .int .i64 0, .bool false]) 4 32 Try.underlying49 hi hz0 hz1 hz2 rfl (by decide) _ acc.length (Nt.wrCells acc) rfl (OW11.out.alloc _) (some ⟨w9.heap.size, 0, none⟩) 1 1 (fun h => by cases h) (Nt.wrCells [((ct : Int), (nd : Int), (ob : Int), ((gn : Int) == 1))]) rfl rfl ?c1 (Nt.wrCells_one _) ?c3 ?c4 ?c5 ?_)
        case c1 =>
          intro _
          refine ⟨w9.heap.size, 0, rfl, fun j u hu => ?_⟩
          rw [Nat.zero_add]
          have kk := Blk.new ((w9.setCell ⟨w6.heap.size, 3, none⟩ (.bool ((gn : Int) == 1))).setCell ⟨g, 2, none⟩ (.bool true)) 101 #[.int .i64 (ct : Int), .int .i64 (nd : Int), .int .i64 (ob : Int), .bool ((gn : Int) == 1)]
          rw [SZ.out] at kk
          exact kk.cell (by simpa [Nt.wrCells, Nt.wrCell] using hu)
        case c3 => unfold maxLen; omega
        case c4 => omega
        case c5 => simp [World.setCell]; omega
        intro v5 w12 ho5 hg5 _
        rw [← Nt.wrCells_append, HGB.out] at ho5
        obtain ⟨Q5, c5, hv5, -⟩ := own_form ho5
        subst hv5
        have rowne : ∀ k', V.ownBlock = some k' → w4.heap.size ≤ k' := fun k' hk' => own_ge OW11.out k' hk'
        have k12 := (hg5.block w1.heap.size (K11.out.alloc (.cells #[.int .i64 (ct : Int), .int .i64 (nd : Int), .int .i64 (ob : Int), .bool ((gn : Int) == 1)] 101)).lt (fun e => by have := rowne _ e.symm; omega)).trans (K11.out.alloc (.cells #[.int .i64 (ct : Int), .int .i64 (nd : Int), .int .i64 (ob : Int), .bool ((gn : Int) == 1)] 101))
        have ka12 := (hg5.block w.heap.size (KA11.out.alloc (.cells #[.int .i64 (ct : Int), .int .i64 (nd : Int), .int .i64 (ob : Int), .bool ((gn : Int) == 1)] 101)).lt (fun e => by have := rowne _ e.symm; omega)).trans (KA11.out.alloc (.cells #[.int .i64 (ct : Int), .int .i64 (nd : Int), .int .i64 (ob : Int), .bool ((gn : Int) == 1)] 101))
        have hb12 := (hg5.block g (HB11.out.alloc (.cells #[.int .i64 (ct : Int), .int .i64 (nd : Int), .int .i64 (ob : Int), .bool ((gn : Int) == 1)] 101)).lt (fun e => by have := rowne _ e.symm; omega)).trans (HB11.out.alloc (.cells #[.int .i64 (ct : Int), .int .i64 (nd : Int), .int .i64 (ob : Int), .bool ((gn : Int) == 1)] 101))
        have on12 := (ON11.out.below (below_new (Below.refl _ _) (.cells #[.int .i64 (ct : Int), .int .i64 (nd : Int), .int .i64 (ob : Int), .bool ((gn : Int) == 1)] 101))).grown hg5 (fun k' hk' => by have := rowne k' hk'; omega)
        have bt12 := (BT11.out.below (below_new (Below.refl _ _) (.cells #[.int .i64 (ct : Int), .int .i64 (nd : Int), .int .i64 (ob : Int), .bool ((gn : Int) == 1)] 101))).grown hg5 hg5.size (fun k' hk' => rowne k' hk')
        have z12 := Blk.cell (i := 3) k12 rfl; have f12 := Blk.free k12 3
        have ow13 := own_stays (w' := w12.setCell ⟨w1.heap.size, 3, none⟩ (.slice Q5 (acc.length + 1) c5)) ho5 (fun k' hk' => Below.heap_setCell _ _ _ _ (by have := own_ge ho5 k' hk'; show k' ≠ w1.heap.size; omega))
        have k13 := Blk.put k12 3 (.slice Q5 (acc.length + 1) c5)
        have ka13 := Blk.far (p := ⟨w1.heap.size, 3, none⟩) ka12 (show w.heap.size ≠ w1.heap.size by omega) (.slice Q5 (acc.length + 1) c5)
        have hb13 := Blk.far (p := ⟨w1.heap.size, 3, none⟩) hb12 (show g ≠ w1.heap.size by omega) (.slice Q5 (acc.length + 1) c5)
        have on13 := on12.setNew (show w.heap.size ≤ w1.heap.size by omega) 3 (.slice Q5 (acc.length + 1) c5)
        have bt13 := bt12.setB 3 (.slice Q5 (acc.length + 1) c5)
        have OW13 := Lib.hid ow13; have K13 := Lib.hid k13; have KA13 := Lib.hid ka13; have HB13 := Lib.hid hb13; have ON13 := Lib.hid on13; have BT13 := Lib.hid bt13
        clear ow13 k13 ka13 hb13 on13 bt13 k12 ka12 hb12 on12 bt12 rowne ho5 hg5 u0 u1 u2 u3 cg fg f9 z9
        go_wp2_with fail
        go_roundw
        case rel =>
          have hR13 := MK.out _ ON13.out a9 true HB13.out ha9
          have hnx := HW1.out
          have hnx2 : Wi.nxt (Wi.pwr l) (some ra) = none := by
            rw [hnx]
            first | (cases decide (gn ≤ 1) <;> rfl) | rw [if_neg (by simpa using hgn1)]
          have hinv2 := Wi.inv_step (by have h := HNV.out; rw [HS2.out] at h; exact h) hnx2.symm HW2.out
          exact ⟨k, _, _, _, by first | rfl | (congr 1; omega), by omega, (by rw [show (acc ++ [((ct : Int), (nd : Int), (ob : Int), decide (gn = 1))]).length = acc.length + 1 from by simp]; exact OW13.out), K13.out, KA13.out, hR13, ON13.out, BT13.out, hinv2, by simp; omega, fun a' ha' => by cases ha'⟩
        case measure => simp [intOf]
      | false =>
        by_cases hgn1 : 1 < gn
        · have hd1 : decide ((1 : Int) < (gn : Int)) = true := decide_eq_true (by omega)
          have k11 := (K9.out.far (p := ⟨w6.heap.size, 3, none⟩) (show w1.heap.size ≠ w6.heap.size by omega) (.bool ((gn : Int) == 1))).far (p := ⟨g, 2, none⟩) (show w1.heap.size ≠ g by omega) (.bool true)
          have ka11 := (KA9.out.far (p := ⟨w6.heap.size, 3, none⟩) (show w.heap.size ≠ w6.heap.size by omega) (.bool ((gn : Int) == 1))).far (p := ⟨g, 2, none⟩) (show w.heap.size ≠ g by omega) (.bool true)
          have on11 := (ON9.out.setNew (show w.heap.size ≤ w6.heap.size by omega) 3 (.bool ((gn : Int) == 1))).set 2 (.bool true)
          have bt11 := (BT9.out.setNew (show w4.heap.size ≤ w6.heap.size by omega) 3 (.bool ((gn : Int) == 1))).setA 2 (.bool true)
          have hb11 := (HB9.out.far (p := ⟨w6.heap.size, 3, none⟩) (show g ≠ w6.heap.size by omega) (.bool ((gn : Int) == 1))).put 2 (.bool true)
          have ow11 : ((w9.setCell ⟨w6.heap.size, 3, none⟩ (.bool ((gn : Int) == 1))).setCell ⟨g, 2, none⟩ (.bool true)).ownsRow w4.heap.size 101 4 V acc.length (Nt.wrCells acc) := own_stays OW9.out (fun k' hk' => (Below.heap_setCell _ _ _ _ (by have := own_ge HW.out k' hk'; show k' ≠ g; omega)).trans (Below.heap_setCell _ _ _ _ (by have := OWL.out k' hk'; show k' ≠ w6.heap.size; omega)))
          have sz11 : ((w9.setCell ⟨w6.heap.size, 3, none⟩ (.bool ((gn : Int) == 1))).setCell ⟨g, 2, none⟩ (.bool true)).heap.size = w9.heap.size := by simp [World.setCell]
          have K11 := Lib.hid k11; have KA11 := Lib.hid ka11; have ON11 := Lib.hid on11; have BT11 := Lib.hid bt11; have HB11 := Lib.hid hb11; have OW11 := Lib.hid ow11; have SZ := Lib.hid sz11
          clear k11 ka11 on11 bt11 hb11 ow11 sz11
          go_wp2_with (at_builtin; refine Go.Proofs.Ytbbmngabbbehcaa.wpList_append_lies _ rfl _ _ 49 rfl w4.heap.size 101 i0 (.agg #[.int .i64 0, .int .i64 0, .int .i64 0, .bool false]) 4 32 Try.underlying49 hi hz0 hz1 hz2 rfl (by decide) _ acc.length (Nt.wrCells acc) rfl (OW11.out.alloc _) (some ⟨w9.heap.size, 0, none⟩) 1 1 (fun h => by cases h) (Nt.wrCells [((ct : Int), (nd : Int), (ob : Int), ((gn : Int) == 1))]) rfl rfl ?c1 (Nt.wrCells_one _) ?c3 ?c4 ?c5 ?_)
          case c1 =>
            intro _
            refine ⟨w9.heap.size, 0, rfl, fun j u hu => ?_⟩
            rw [Nat.zero_add]
            have kk := Blk.new ((w9.setCell ⟨w6.heap.size, 3, none⟩ (.bool ((gn : Int) == 1))).setCell ⟨g, 2, none⟩ (.bool true)) 101 #[.int .i64 (ct : Int), .int .i64 (nd : Int), .int .i64 (ob : Int), .bool ((gn : Int) == 1)]
            rw [SZ.out] at kk
            exact kk.cell (by simpa [Nt.wrCells, Nt.wrCell] using hu)
          case c3 => unfold maxLen; omega
          case c4 => omega
          case c5 => simp [World.setCell]; omega
          intro v5 w12 ho5 hg5 _
          rw [← Nt.wrCells_append, HGB.out] at ho5
          obtain ⟨Q5, c5, hv5, -⟩ := own_form ho5
          subst hv5
          have rowne : ∀ k', V.ownBlock = some k' → w4.heap.size ≤ k' := fun k' hk' => own_ge OW11.out k' hk'
          have k12 := (hg5.block w1.heap.size (K11.out.alloc (.cells #[.int .i64 (ct : Int), .int .i64 (nd : Int), .int .i64 (ob : Int), .bool ((gn : Int) == 1)] 101)).lt (fun e => by have := rowne _ e.symm; omega)).trans (K11.out.alloc (.cells #[.int .i64 (ct : Int), .int .i64 (nd : Int), .int .i64 (ob : Int), .bool ((gn : Int) == 1)] 101))
          have ka12 := (hg5.block w.heap.size (KA11.out.alloc (.cells #[.int .i64 (ct : Int), .int .i64 (nd : Int), .int .i64 (ob : Int), .bool ((gn : Int) == 1)] 101)).lt (fun e => by have := rowne _ e.symm; omega)).trans (KA11.out.alloc (.cells #[.int .i64 (ct : Int), .int .i64 (nd : Int), .int .i64 (ob : Int), .bool ((gn : Int) == 1)] 101))
          have hb12 := (hg5.block g (HB11.out.alloc (.cells #[.int .i64 (ct : Int), .int .i64 (nd : Int), .int .i64 (ob : Int), .bool ((gn : Int) == 1)] 101)).lt (fun e => by have := rowne _ e.symm; omega)).trans (HB11.out.alloc (.cells #[.int .i64 (ct : Int), .int .i64 (nd : Int), .int .i64 (ob : Int), .bool ((gn : Int) == 1)] 101))
          have on12 := (ON11.out.below (below_new (Below.refl _ _) (.cells #[.int .i64 (ct : Int), .int .i64 (nd : Int), .int .i64 (ob : Int), .bool ((gn : Int) == 1)] 101))).grown hg5 (fun k' hk' => by have := rowne k' hk'; omega)
          have bt12 := (BT11.out.below (below_new (Below.refl _ _) (.cells #[.int .i64 (ct : Int), .int .i64 (nd : Int), .int .i64 (ob : Int), .bool ((gn : Int) == 1)] 101))).grown hg5 hg5.size (fun k' hk' => rowne k' hk')
          have z12 := Blk.cell (i := 3) k12 rfl; have f12 := Blk.free k12 3
          have ow13 := own_stays (w' := w12.setCell ⟨w1.heap.size, 3, none⟩ (.slice Q5 (acc.length + 1) c5)) ho5 (fun k' hk' => Below.heap_setCell _ _ _ _ (by have := own_ge ho5 k' hk'; show k' ≠ w1.heap.size; omega))
          have k13 := Blk.put k12 3 (.slice Q5 (acc.length + 1) c5)
          have ka13 := Blk.far (p := ⟨w1.heap.size, 3, none⟩) ka12 (show w.heap.size ≠ w1.heap.size by omega) (.slice Q5 (acc.length + 1) c5)
          have hb13 := Blk.far (p := ⟨w1.heap.size, 3, none⟩) hb12 (show g ≠ w1.heap.size by omega) (.slice Q5 (acc.length + 1) c5)
          have on13 := on12.setNew (show w.heap.size ≤ w1.heap.size by omega) 3 (.slice Q5 (acc.length + 1) c5)
          have bt13 := bt12.setB 3 (.slice Q5 (acc.length + 1) c5)
          have OW13 := Lib.hid ow13; have K13 := Lib.hid k13; have KA13 := Lib.hid ka13; have HB13 := Lib.hid hb13; have ON13 := Lib.hid on13; have BT13 := Lib.hid bt13
          clear ow13 k13 ka13 hb13 on13 bt13 k12 ka12 hb12 on12 bt12 rowne ho5 hg5 u0 u1 u2 u3 cg fg f9 z9
          go_wp2_with fail
          go_roundw
          case rel =>
            have hR13 := MK.out _ ON13.out a9 true HB13.out ha9
            have hnx := HW1.out
            have hnx2 : Wi.nxt (Wi.pwr l) (some ra) = none := by
              rw [hnx]
              first | (cases decide (gn ≤ 1) <;> rfl) | rw [if_neg (by simpa using hgn1)]
            have hinv2 := Wi.inv_step (by have h := HNV.out; rw [HS2.out] at h; exact h) hnx2.symm HW2.out
            exact ⟨k, _, _, _, by first | rfl | (congr 1; omega), by omega, (by rw [show (acc ++ [((ct : Int), (nd : Int), (ob : Int), decide (gn = 1))]).length = acc.length + 1 from by simp]; exact OW13.out), K13.out, KA13.out, hR13, ON13.out, BT13.out, hinv2, by simp; omega, fun a' ha' => by cases ha'⟩
          case measure => simp [intOf]
        · have hd1 : decide ((1 : Int) < (gn : Int)) = false := decide_eq_false (by omega)
          have k11 := (K9.out.far (p := ⟨w6.heap.size, 3, none⟩) (show w1.heap.size ≠ w6.heap.size by omega) (.bool ((gn : Int) == 1))).far (p := ⟨g, 2, none⟩) (show w1.heap.size ≠ g by omega) (.bool false)
          have ka11 := (KA9.out.far (p := ⟨w6.heap.size, 3, none⟩) (show w.heap.size ≠ w6.heap.size by omega) (.bool ((gn : Int) == 1))).far (p := ⟨g, 2, none⟩) (show w.heap.size ≠ g by omega) (.bool false)
          have on11 := (ON9.out.setNew (show w.heap.size ≤ w6.heap.size by omega) 3 (.bool ((gn : Int) == 1))).set 2 (.bool false)
          have bt11 := (BT9.out.setNew (show w4.heap.size ≤ w6.heap.size by omega) 3 (.bool ((gn : Int) == 1))).setA 2 (.bool false)
          have hb11 := (HB9.out.far (p := ⟨w6.heap.size, 3, none⟩) (show g ≠ w6.heap.size by omega) (.bool ((gn : Int) == 1))).put 2 (.bool false)
          have ow11 : ((w9.setCell ⟨w6.heap.size, 3, none⟩ (.bool ((gn : Int) == 1))).setCell ⟨g, 2, none⟩ (.bool false)).ownsRow w4.heap.size 101 4 V acc.length (Nt.wrCells acc) := own_stays OW9.out (fun k' hk' => (Below.heap_setCell _ _ _ _ (by have := own_ge HW.out k' hk'; show k' ≠ g; omega)).trans (Below.heap_setCell _ _ _ _ (by have := OWL.out k' hk'; show k' ≠ w6.heap.size; omega)))
          have sz11 : ((w9.setCell ⟨w6.heap.size, 3, none⟩ (.bool ((gn : Int) == 1))).setCell ⟨g, 2, none⟩ (.bool false)).heap.size = w9.heap.size := by simp [World.setCell]
          have K11 := Lib.hid k11; have KA11 := Lib.hid ka11; have ON11 := Lib.hid on11; have BT11 := Lib.hid bt11; have HB11 := Lib.hid hb11; have OW11 := Lib.hid ow11; have SZ := Lib.hid sz11
          clear k11 ka11 on11 bt11 hb11 ow11 sz11
          go_wp2_with (at_builtin; refine Go.Proofs.Ytbbmngabbbehcaa.wpList_append_lies _ rfl _ _ 49 rfl w4.heap.size 101 i0 (.agg #[.int .i64 0, .int .i64 0, .int .i64 0, .bool false]) 4 32 Try.underlying49 hi hz0 hz1 hz2 rfl (by decide) _ acc.length (Nt.wrCells acc) rfl (OW11.out.alloc _) (some ⟨w9.heap.size, 0, none⟩) 1 1 (fun h => by cases h) (Nt.wrCells [((ct : Int), (nd : Int), (ob : Int), ((gn : Int) == 1))]) rfl rfl ?c1 (Nt.wrCells_one _) ?c3 ?c4 ?c5 ?_)
          case c1 =>
            intro _
            refine ⟨w9.heap.size, 0, rfl, fun j u hu => ?_⟩
            rw [Nat.zero_add]
            have kk := Blk.new ((w9.setCell ⟨w6.heap.size, 3, none⟩ (.bool ((gn : Int) == 1))).setCell ⟨g, 2, none⟩ (.bool false)) 101 #[.int .i64 (ct : Int), .int .i64 (nd : Int), .int .i64 (ob : Int), .bool ((gn : Int) == 1)]
            rw [SZ.out] at kk
            exact kk.cell (by simpa [Nt.wrCells, Nt.wrCell] using hu)
          case c3 => unfold maxLen; omega
          case c4 => omega
          case c5 => simp [World.setCell]; omega
          intro v5 w12 ho5 hg5 _
          rw [← Nt.wrCells_append, HGB.out] at ho5
          obtain ⟨Q5, c5, hv5, -⟩ := own_form ho5
          subst hv5
          have rowne : ∀ k', V.ownBlock = some k' → w4.heap.size ≤ k' := fun k' hk' => own_ge OW11.out k' hk'
          have k12 := (hg5.block w1.heap.size (K11.out.alloc (.cells #[.int .i64 (ct : Int), .int .i64 (nd : Int), .int .i64 (ob : Int), .bool ((gn : Int) == 1)] 101)).lt (fun e => by have := rowne _ e.symm; omega)).trans (K11.out.alloc (.cells #[.int .i64 (ct : Int), .int .i64 (nd : Int), .int .i64 (ob : Int), .bool ((gn : Int) == 1)] 101))
          have ka12 := (hg5.block w.heap.size (KA11.out.alloc (.cells #[.int .i64 (ct : Int), .int .i64 (nd : Int), .int .i64 (ob : Int), .bool ((gn : Int) == 1)] 101)).lt (fun e => by have := rowne _ e.symm; omega)).trans (KA11.out.alloc (.cells #[.int .i64 (ct : Int), .int .i64 (nd : Int), .int .i64 (ob : Int), .bool ((gn : Int) == 1)] 101))
          have hb12 := (hg5.block g (HB11.out.alloc (.cells #[.int .i64 (ct : Int), .int .i64 (nd : Int), .int .i64 (ob : Int), .bool ((gn : Int) == 1)] 101)).lt (fun e => by have := rowne _ e.symm; omega)).trans (HB11.out.alloc (.cells #[.int .i64 (ct : Int), .int .i64 (nd : Int), .int .i64 (ob : Int), .bool ((gn : Int) == 1)] 101))
          have on12 := (ON11.out.below (below_new (Below.refl _ _) (.cells #[.int .i64 (ct : Int), .int .i64 (nd : Int), .int .i64 (ob : Int), .bool ((gn : Int) == 1)] 101))).grown hg5 (fun k' hk' => by have := rowne k' hk'; omega)
          have bt12 := (BT11.out.below (below_new (Below.refl _ _) (.cells #[.int .i64 (ct : Int), .int .i64 (nd : Int), .int .i64 (ob : Int), .bool ((gn : Int) == 1)] 101))).grown hg5 hg5.size (fun k' hk' => rowne k' hk')
          have z12 := Blk.cell (i := 3) k12 rfl; have f12 := Blk.free k12 3
          have ow13 := own_stays (w' := w12.setCell ⟨w1.heap.size, 3, none⟩ (.slice Q5 (acc.length + 1) c5)) ho5 (fun k' hk' => Below.heap_setCell _ _ _ _ (by have := own_ge ho5 k' hk'; show k' ≠ w1.heap.size; omega))
          have k13 := Blk.put k12 3 (.slice Q5 (acc.length + 1) c5)
          have ka13 := Blk.far (p := ⟨w1.heap.size, 3, none⟩) ka12 (show w.heap.size ≠ w1.heap.size by omega) (.slice Q5 (acc.length + 1) c5)
          have hb13 := Blk.far (p := ⟨w1.heap.size, 3, none⟩) hb12 (show g ≠ w1.heap.size by omega) (.slice Q5 (acc.length + 1) c5)
          have on13 := on12.setNew (show w.heap.size ≤ w1.heap.size by omega) 3 (.slice Q5 (acc.length + 1) c5)
          have bt13 := bt12.setB 3 (.slice Q5 (acc.length + 1) c5)
          have OW13 := Lib.hid ow13; have K13 := Lib.hid k13; have KA13 := Lib.hid ka13; have HB13 := Lib.hid hb13; have ON13 := Lib.hid on13; have BT13 := Lib.hid bt13
          clear ow13 k13 ka13 hb13 on13 bt13 k12 ka12 hb12 on12 bt12 rowne ho5 hg5 u0 u1 u2 u3 cg fg f9 z9
          go_wp2_with fail
          go_roundw
          case rel =>
            have hR13 := MK.out _ ON13.out a9 false HB13.out ha9
            have hnx := HW1.out
            rw [if_pos (decide_eq_true (show gn ≤ 1 by omega))] at hnx
            have hinv2 := Wi.inv_step (by have h := HNV.out; rw [HS2.out] at h; exact h) hnx.symm HW2.out
            have h9 := HS9.out
            have hlt := Wi.nxt_lt4 HBY.out hra h9
            refine ⟨k, _, _, _, by first | rfl | (congr 1; omega), by omega, (by rw [show (acc ++ [((ct : Int), (nd : Int), (ob : Int), decide (gn = 1))]).length = acc.length + 1 from by simp]; exact OW13.out), K13.out, KA13.out, hR13, ON13.out, BT13.out, hinv2, by simp; omega, fun a' ha' => ?_⟩
            cases ha'
            simp
            omega
          case measure => simp [intOf]
    · have hend : k = 0 ∨ st = none := by
        rcases Nat.eq_zero_or_pos k with h0 | h0
        · exact .inl h0
        · cases rb with
          | true => exact .inr HST.out
          | false => exact absurd ⟨h0, rfl⟩ hk
      have hfin := Wi.inv_end HNV.out hend
      obtain ⟨hx1, hx2⟩ := Wi.pnote_nxt HG1.out HG2.out HG3.out hfin
      have OS5 := Lib.hid (OS4.out.but HBT.out hgl1).row; have OE5 := Lib.hid (OE4.out.but HBT.out hgl1).row; have OB5 := Lib.hid (OB4.out.but HBT.out hgl1).row
      obtain ⟨Va, vc, rfl, hOV⟩ := OneW.of_own HW.out
      have OV5 := Lib.hid (own_base HW.out (show w.heap.size + 1 ≤ w4.heap.size by omega))
      have sl4 : ∀ u ∈ (#[.slice S ls.length cs, .slice E le.length ce, .slice B lb.length cb, .slice none 0 0] : Array Value).toList, isSl u = true := by intro u hu; simp at hu; rcases hu with rfl | rfl | rfl | rfl <;> rfl
      have hNA : NoteAt wr S E B Va cs ce cb vc ⟨ls, le, lb, acc⟩ := ⟨S4.out.but2 HBT.out HB4.out K4.out (slices_noInt sl4), E4.out.but2 HBT.out HB4.out K4.out (slices_noInt sl4), B4.out.but2 HBT.out HB4.out K4.out (slices_noInt sl4), hOV⟩
      have HX1 := Lib.hid hx1; have HX2 := Lib.hid hx2; have HNA := Lib.hid hNA
      clear hfin hx1 hx2 hOV hNA sl4
      cases rb with
      | true =>
        have HSN := Lib.hid (show st = none from HST.out)
        clear hend hk
        rcases Nat.eq_zero_or_pos k with h0 | h0
        · subst h0
          have u1 := (HON.out).set 2 (.bool true)
          have u2 := (((u1.setNew (Nat.le_refl _) 0 (.slice S ls.length cs)).setNew (Nat.le_refl _) 1 (.slice E le.length ce)).setNew (Nat.le_refl _) 2 (.slice B lb.length cb)).setNew (Nat.le_refl _) 3 (.slice Va acc.length vc)
          have v1 := (HKA.out).far (p := ⟨g, 2, none⟩) (show w.heap.size ≠ g by omega) (.bool true)
          have v2 := (((v1.put 0 (.slice S ls.length cs)).put 1 (.slice E le.length ce)).put 2 (.slice B lb.length cb)).put 3 (.slice Va acc.length vc)
          have x1 := (HB.out).put 2 (.bool true)
          have x2 := (((x1.far (p := ⟨w.heap.size, 0, none⟩) (show g ≠ w.heap.size by omega) (.slice S ls.length cs)).far (p := ⟨w.heap.size, 1, none⟩) (show g ≠ w.heap.size by omega) (.slice E le.length ce)).far (p := ⟨w.heap.size, 2, none⟩) (show g ≠ w.heap.size by omega) (.slice B lb.length cb)).far (p := ⟨w.heap.size, 3, none⟩) (show g ≠ w.heap.size by omega) (.slice Va acc.length vc)
          have y1 := (HNA.out).rd (HB.out) ((Only.refl _ _).set 2 (.bool true))
          have y2 := y1.puts v1 ⟨rfl, rfl, rfl, rfl⟩ (.slice S ls.length cs) (.slice E le.length ce) (.slice B lb.length cb) (.slice Va acc.length vc) ⟨rfl, rfl, rfl⟩
          have q0 := (HK.out).cell (i := 0) rfl; have q1 := (HK.out).cell (i := 1) rfl; have q2 := (HK.out).cell (i := 2) rfl; have q3 := (HK.out).cell (i := 3) rfl
          have y0' := (HKA.out).cell (i := 0) rfl; have y1' := (HKA.out).cell (i := 1) rfl; have y2' := (HKA.out).cell (i := 2) rfl; have y3' := (HKA.out).cell (i := 3) rfl
          have t0 := (HKA.out).free 0; have t1 := (HKA.out).free 1; have t2 := (HKA.out).free 2; have t3 := (HKA.out).free 3
          have hR9 := MK.out _ u2 ra true x2 hra
          have hst9 : Wi.nxt (Wi.pnote l) s = (if true = true then none else some ra) := by
            refine HX1.out.trans ?_
            rw [HSN.out]
            cases Nt.fmd ⟨ls, le, lb, acc⟩ <;> rfl
          rw [← hst9] at hR9
          have V2 := Lib.hid v2; have U2 := Lib.hid u2; have Y2 := Lib.hid y2; have R9 := Lib.hid hR9
          clear u1 u2 v1 v2 x1 x2 y1 y2 hR9 hst9
          go_wp2
          exact bodyPost_ret (v := .agg (noteCells S E B Va cs ce cb vc ⟨ls, le, lb, acc⟩)) (results_cell_row rfl _ _ w.heap.size 51 (noteCells S E B Va cs ce cb vc ⟨ls, le, lb, acc⟩) (0, 0) _ rfl V2.out Try.underlying51 rfl infoNtW) rfl ⟨S, E, B, Va, cs, ce, cb, vc, ⟨ls, le, lb, acc⟩, rfl, Y2.out, hsl, hel, hbl, hal, R9.out, U2.out, HX2.out, own_base (own_five OS5.out hgl1 (Nat.lt_succ_self _) _ _ _ _ _) (Nat.le_succ _), own_base (own_five OE5.out hgl1 (Nat.lt_succ_self _) _ _ _ _ _) (Nat.le_succ _), own_base (own_five OB5.out hgl1 (Nat.lt_succ_self _) _ _ _ _ _) (Nat.le_succ _), own_base (own_five OV5.out hgl1 (Nat.lt_succ_self _) _ _ _ _ _) (Nat.le_succ _)⟩
        · have hd : decide ((0 : Int) < (k : Int)) = true := decide_eq_true (by omega)
          have u1 := (HON.out).set 2 (.bool true)
          have u2 := (((u1.setNew (Nat.le_refl _) 0 (.slice S ls.length cs)).setNew (Nat.le_refl _) 1 (.slice E le.length ce)).setNew (Nat.le_refl _) 2 (.slice B lb.length cb)).setNew (Nat.le_refl _) 3 (.slice Va acc.length vc)
          have v1 := (HKA.out).far (p := ⟨g, 2, none⟩) (show w.heap.size ≠ g by omega) (.bool true)
          have v2 := (((v1.put 0 (.slice S ls.length cs)).put 1 (.slice E le.length ce)).put 2 (.slice B lb.length cb)).put 3 (.slice Va acc.length vc)
          have x1 := (HB.out).put 2 (.bool true)
          have x2 := (((x1.far (p := ⟨w.heap.size, 0, none⟩) (show g ≠ w.heap.size by omega) (.slice S ls.length cs)).far (p := ⟨w.heap.size, 1, none⟩) (show g ≠ w.heap.size by omega) (.slice E le.length ce)).far (p := ⟨w.heap.size, 2, none⟩) (show g ≠ w.heap.size by omega) (.slice B lb.length cb)).far (p := ⟨w.heap.size, 3, none⟩) (show g ≠ w.heap.size by omega) (.slice Va acc.length vc)
          have y1 := (HNA.out).rd (HB.out) ((Only.refl _ _).set 2 (.bool true))
          have y2 := y1.puts v1 ⟨rfl, rfl, rfl, rfl⟩ (.slice S ls.length cs) (.slice E le.length ce) (.slice B lb.length cb) (.slice Va acc.length vc) ⟨rfl, rfl, rfl⟩
          have q0 := (HK.out).cell (i := 0) rfl; have q1 := (HK.out).cell (i := 1) rfl; have q2 := (HK.out).cell (i := 2) rfl; have q3 := (HK.out).cell (i := 3) rfl
          have y0' := (HKA.out).cell (i := 0) rfl; have y1' := (HKA.out).cell (i := 1) rfl; have y2' := (HKA.out).cell (i := 2) rfl; have y3' := (HKA.out).cell (i := 3) rfl
          have t0 := (HKA.out).free 0; have t1 := (HKA.out).free 1; have t2 := (HKA.out).free 2; have t3 := (HKA.out).free 3
          have hR9 := MK.out _ u2 ra true x2 hra
          have hst9 : Wi.nxt (Wi.pnote l) s = (if true = true then none else some ra) := by
            refine HX1.out.trans ?_
            rw [HSN.out]
            cases Nt.fmd ⟨ls, le, lb, acc⟩ <;> rfl
          rw [← hst9] at hR9
          have V2 := Lib.hid v2; have U2 := Lib.hid u2; have Y2 := Lib.hid y2; have R9 := Lib.hid hR9
          clear u1 u2 v1 v2 x1 x2 y1 y2 hR9 hst9
          go_wp2
          exact bodyPost_ret (v := .agg (noteCells S E B Va cs ce cb vc ⟨ls, le, lb, acc⟩)) (results_cell_row rfl _ _ w.heap.size 51 (noteCells S E B Va cs ce cb vc ⟨ls, le, lb, acc⟩) (0, 0) _ rfl V2.out Try.underlying51 rfl infoNtW) rfl ⟨S, E, B, Va, cs, ce, cb, vc, ⟨ls, le, lb, acc⟩, rfl, Y2.out, hsl, hel, hbl, hal, R9.out, U2.out, HX2.out, own_base (own_five OS5.out hgl1 (Nat.lt_succ_self _) _ _ _ _ _) (Nat.le_succ _), own_base (own_five OE5.out hgl1 (Nat.lt_succ_self _) _ _ _ _ _) (Nat.le_succ _), own_base (own_five OB5.out hgl1 (Nat.lt_succ_self _) _ _ _ _ _) (Nat.le_succ _), own_base (own_five OV5.out hgl1 (Nat.lt_succ_self _) _ _ _ _ _) (Nat.le_succ _)⟩
      | false =>
        have hk0 : k = 0 := by
          rcases Nat.eq_zero_or_pos k with h0 | h0
          · exact h0
          · exact absurd ⟨h0, rfl⟩ hk
        subst hk0
        have HSA := Lib.hid (show st = some ra from HST.out)
        clear hend hk
        have NF := Lib.hid (nformed_any S E B Va cs ce cb vc ⟨ls, le, lb, acc⟩ wr HNA.out)
        obtain ⟨fb, hfb⟩ : ∃ fb, Nt.fmd ⟨ls, le, lb, acc⟩ = fb := ⟨_, rfl⟩
        rw [hfb] at NF HX1
        have p0 := HK.out.cell (i := 0) rfl; have p1 := HK.out.cell (i := 1) rfl; have p2 := HK.out.cell (i := 2) rfl; have p3 := HK.out.cell (i := 3) rfl
        clear hfb
        go_wp2_with fail
        refine NF.out.mono ?_
        rintro e w6 ⟨rfl, b6⟩
        have OS6 := Lib.hid (own_later OS5.out b6); have OE6 := Lib.hid (own_later OE5.out b6); have OB6 := Lib.hid (own_later OB5.out b6); have OV6 := Lib.hid (own_later OV5.out b6)
        have ON6 := Lib.hid (HON.out.below b6); have HB6 := Lib.hid (HB.out.later b6); have K6 := Lib.hid (HK.out.later b6); have KA6 := Lib.hid (HKA.out.later b6); have NA6 := Lib.hid (HNA.out.later b6)
        have g6 := HB6.out.cell (i := 2) rfl; have h6 := HB6.out.free 2
        clear p0 p1 p2 p3 c2 f2
        cases fb with
        | true =>
          have u1 := (ON6.out).set 2 (.bool false)
          have u2 := (((u1.setNew (Nat.le_refl _) 0 (.slice S ls.length cs)).setNew (Nat.le_refl _) 1 (.slice E le.length ce)).setNew (Nat.le_refl _) 2 (.slice B lb.length cb)).setNew (Nat.le_refl _) 3 (.slice Va acc.length vc)
          have v1 := (KA6.out).far (p := ⟨g, 2, none⟩) (show w.heap.size ≠ g by omega) (.bool false)
          have v2 := (((v1.put 0 (.slice S ls.length cs)).put 1 (.slice E le.length ce)).put 2 (.slice B lb.length cb)).put 3 (.slice Va acc.length vc)
          have x1 := (HB6.out).put 2 (.bool false)
          have x2 := (((x1.far (p := ⟨w.heap.size, 0, none⟩) (show g ≠ w.heap.size by omega) (.slice S ls.length cs)).far (p := ⟨w.heap.size, 1, none⟩) (show g ≠ w.heap.size by omega) (.slice E le.length ce)).far (p := ⟨w.heap.size, 2, none⟩) (show g ≠ w.heap.size by omega) (.slice B lb.length cb)).far (p := ⟨w.heap.size, 3, none⟩) (show g ≠ w.heap.size by omega) (.slice Va acc.length vc)
          have y1 := (NA6.out).rd (HB6.out) ((Only.refl _ _).set 2 (.bool false))
          have y2 := y1.puts v1 ⟨rfl, rfl, rfl, rfl⟩ (.slice S ls.length cs) (.slice E le.length ce) (.slice B lb.length cb) (.slice Va acc.length vc) ⟨rfl, rfl, rfl⟩
          have q0 := (K6.out).cell (i := 0) rfl; have q1 := (K6.out).cell (i := 1) rfl; have q2 := (K6.out).cell (i := 2) rfl; have q3 := (K6.out).cell (i := 3) rfl
          have y0' := (KA6.out).cell (i := 0) rfl; have y1' := (KA6.out).cell (i := 1) rfl; have y2' := (KA6.out).cell (i := 2) rfl; have y3' := (KA6.out).cell (i := 3) rfl
          have t0 := (KA6.out).free 0; have t1 := (KA6.out).free 1; have t2 := (KA6.out).free 2; have t3 := (KA6.out).free 3
          have hR9 := MK.out _ u2 ra false x2 hra
          have hst9 : Wi.nxt (Wi.pnote l) s = (if false = true then none else some ra) := by
            refine HX1.out.trans ?_
            rw [HSA.out]
            rfl
          rw [← hst9] at hR9
          have V2 := Lib.hid v2; have U2 := Lib.hid u2; have Y2 := Lib.hid y2; have R9 := Lib.hid hR9
          clear u1 u2 v1 v2 x1 x2 y1 y2 hR9 hst9
          go_wp2
          exact bodyPost_ret (v := .agg (noteCells S E B Va cs ce cb vc ⟨ls, le, lb, acc⟩)) (results_cell_row rfl _ _ w.heap.size 51 (noteCells S E B Va cs ce cb vc ⟨ls, le, lb, acc⟩) (0, 0) _ rfl V2.out Try.underlying51 rfl infoNtW) rfl ⟨S, E, B, Va, cs, ce, cb, vc, ⟨ls, le, lb, acc⟩, rfl, Y2.out, hsl, hel, hbl, hal, R9.out, U2.out, HX2.out, own_base (own_five OS6.out hgl1 (Nat.lt_succ_self _) _ _ _ _ _) (Nat.le_succ _), own_base (own_five OE6.out hgl1 (Nat.lt_succ_self _) _ _ _ _ _) (Nat.le_succ _), own_base (own_five OB6.out hgl1 (Nat.lt_succ_self _) _ _ _ _ _) (Nat.le_succ _), own_base (own_five OV6.out hgl1 (Nat.lt_succ_self _) _ _ _ _ _) (Nat.le_succ _)⟩
        | false =>
          have u1 := (ON6.out).set 2 (.bool true)
          have u2 := (((u1.setNew (Nat.le_refl _) 0 (.slice S ls.length cs)).setNew (Nat.le_refl _) 1 (.slice E le.length ce)).setNew (Nat.le_refl _) 2 (.slice B lb.length cb)).setNew (Nat.le_refl _) 3 (.slice Va acc.length vc)
          have v1 := (KA6.out).far (p := ⟨g, 2, none⟩) (show w.heap.size ≠ g by omega) (.bool true)
          have v2 := (((v1.put 0 (.slice S ls.length cs)).put 1 (.slice E le.length ce)).put 2 (.slice B lb.length cb)).put 3 (.slice Va acc.length vc)
          have x1 := (HB6.out).put 2 (.bool true)
          have x2 := (((x1.far (p := ⟨w.heap.size, 0, none⟩) (show g ≠ w.heap.size by omega) (.slice S ls.length cs)).far (p := ⟨w.heap.size, 1, none⟩) (show g ≠ w.heap.size by omega) (.slice E le.length ce)).far (p := ⟨w.heap.size, 2, none⟩) (show g ≠ w.heap.size by omega) (.slice B lb.length cb)).far (p := ⟨w.heap.size, 3, none⟩) (show g ≠ w.heap.size by omega) (.slice Va acc.length vc)
          have y1 := (NA6.out).rd (HB6.out) ((Only.refl _ _).set 2 (.bool true))
          have y2 := y1.puts v1 ⟨rfl, rfl, rfl, rfl⟩ (.slice S ls.length cs) (.slice E le.length ce) (.slice B lb.length cb) (.slice Va acc.length vc) ⟨rfl, rfl, rfl⟩
          have q0 := (K6.out).cell (i := 0) rfl; have q1 := (K6.out).cell (i := 1) rfl; have q2 := (K6.out).cell (i := 2) rfl; have q3 := (K6.out).cell (i := 3) rfl
          have y0' := (KA6.out).cell (i := 0) rfl; have y1' := (KA6.out).cell (i := 1) rfl; have y2' := (KA6.out).cell (i := 2) rfl; have y3' := (KA6.out).cell (i := 3) rfl
          have t0 := (KA6.out).free 0; have t1 := (KA6.out).free 1; have t2 := (KA6.out).free 2; have t3 := (KA6.out).free 3
          have hR9 := MK.out _ u2 ra true x2 hra
          have hst9 : Wi.nxt (Wi.pnote l) s = (if true = true then none else some ra) := by
            refine HX1.out.trans ?_
            rw [HSA.out]
            rfl
          rw [← hst9] at hR9
          have V2 := Lib.hid v2; have U2 := Lib.hid u2; have Y2 := Lib.hid y2; have R9 := Lib.hid hR9
          clear u1 u2 v1 v2 x1 x2 y1 y2 hR9 hst9
          go_wp2
          exact bodyPost_ret (v := .agg (noteCells S E B Va cs ce cb vc ⟨ls, le, lb, acc⟩)) (results_cell_row rfl _ _ w.heap.size 51 (noteCells S E B Va cs ce cb vc ⟨ls, le, lb, acc⟩) (0, 0) _ rfl V2.out Try.underlying51 rfl infoNtW) rfl ⟨S, E, B, Va, cs, ce, cb, vc, ⟨ls, le, lb, acc⟩, rfl, Y2.out, hsl, hel, hbl, hal, R9.out, U2.out, HX2.out, own_base (own_five OS6.out hgl1 (Nat.lt_succ_self _) _ _ _ _ _) (Nat.le_succ _), own_base (own_five OE6.out hgl1 (Nat.lt_succ_self _) _ _ _ _ _) (Nat.le_succ _), own_base (own_five OB6.out hgl1 (Nat.lt_succ_self _) _ _ _ _ _) (Nat.le_succ _), own_base (own_five OV6.out hgl1 (Nat.lt_succ_self _) _ _ _ _ _) (Nat.le_succ _)⟩
theorem rdnote_any (g : Nat) (A : Option Addr) (c : Nat) (l : List Int) (s : Option Nat) (w : World) (hl : l.length ≤ 1099511627776) (h : RdAt w g A c l s) :
    Calls Try.prog 28 #[.pointer (some ⟨g, 0, none⟩)] w (RdNote g A c l s w) := (rdnote_own g A c l s w hl h).mono fun _ _ ⟨S, E, B, V, cs, ce, cb, cv, n, h1, h2, h3, h4, h5, h6, h7, h8, h9, _⟩ => ⟨S, E, B, V, cs, ce, cb, cv, n, h1, h2, h3, h4, h5, h6, h7, h8, h9⟩
end Go.Proofs.Ytbbmngabbbehcaa
namespace Go.Proofs.Ytbbmngabbbehcaa
open Go.RowKit

theorem own_set {w : World} {base size n : Nat} {e : TypeId} {v : Value} {xs : List Value} (h : w.ownsRow base e size v n xs) {B : Nat} (hB : B < base) (i : Nat) (u : Value) : (w.setCell ⟨B, i, none⟩ u).ownsRow base e size v n xs :=
  own_stays h (fun k hk => Below.heap_setCell w ⟨B, i, none⟩ u k (by have := own_ge h k hk; show k ≠ B; omega))
namespace Wi
theorem pwr_st (l : List Int) : pwr l = fun a => (pnum l a).bind fun o => (pst l o.2).bind fun s => (pnum l s.2).bind fun g => if decide (g.1 ≤ 1) then some ((s.1.1, s.1.2, (o.1 : Int), decide (g.1 = 1)), g.2) else none := by
  funext a
  unfold pwr pst ptwo
  cases pnum l a with
  | none => rfl
  | some o =>
    show (pnum l o.2).bind _ = _
    cases h : pnum l o.2 with
    | none => simp [h]
    | some n =>
      show (pnum l n.2).bind _ = _
      cases h2 : pnum l n.2 with
      | none => simp [h, h2]
      | some c =>
        simp only [Option.bind_some, h, h2, Option.map_some]
        cases pnum l c.2 with
        | none => rfl
        | some g => simp
theorem pwr_nxt2 {l : List Int} {s : Option Nat} {o g : Nat} {x : Int × Int} (ho : Got (pnum l) s o) (hx : Got (pst l) (nxt (pnum l) s) x) (hg : Got (pnum l) (nxt (pst l) (nxt (pnum l) s)) g) :
    nxt (pwr l) s = (if decide (g ≤ 1) then nxt (pnum l) (nxt (pst l) (nxt (pnum l) s)) else none) ∧ Got (pwr l) s (x.1, x.2, (o : Int), decide (g = 1)) := by
  rw [pwr_st]
  have q3 := nxt_if (p := pnum l) (t := fun y => decide (y ≤ 1)) (f := fun y => ((x.1, x.2, ((o : Nat) : Int), decide (y = 1)) : Wr)) hg
  have g3 := got_if (p := pnum l) (t := fun y => decide (y ≤ 1)) (f := fun y => ((x.1, x.2, ((o : Nat) : Int), decide (y = 1)) : Wr)) hg
  have g2 := got_bind (p := pst l) (x := x) (q := fun x' a => (pnum l a).bind fun y => if decide (y.1 ≤ 1) then some (((x'.1, x'.2, ((o : Nat) : Int), decide (y.1 = 1)) : Wr), y.2) else none) hx g3
  have g1 := got_bind (p := pnum l) (x := o) (q := fun o' a => (pst l a).bind fun z => (pnum l z.2).bind fun y => if decide (y.1 ≤ 1) then some (((z.1.1, z.1.2, ((o' : Nat) : Int), decide (y.1 = 1)) : Wr), y.2) else none) ho g2
  refine ⟨?_, g1⟩
  exact (nxt_bind (p := pnum l) (x := o) (q := fun o' a => (pst l a).bind fun z => (pnum l z.2).bind fun y => if decide (y.1 ≤ 1) then some (((z.1.1, z.1.2, ((o' : Nat) : Int), decide (y.1 = 1)) : Wr), y.2) else none) ho).trans
    ((nxt_bind (p := pst l) (x := x) (q := fun x' a => (pnum l a).bind fun y => if decide (y.1 ≤ 1) then some (((x'.1, x'.2, ((o : Nat) : Int), decide (y.1 = 1)) : Wr), y.2) else none) hx).trans q3)
/-- A body's bytes, read, formed or not. -/
def pbod (l : List Int) (a : Nat) : Option (Bd × Nat) := (pnum l a).bind fun o => (pst l o.2).bind fun s => (prow l 256 s.2).map fun v => ((⟨(o.1 : Int), s.1.1, s.1.2, v.1⟩ : Bd), v.2)
theorem pbody_pbod (l : List Int) : pbody l = fun a => such bright (pbod l a) := by
  funext a
  unfold pbody pbod pst ptwo
  congr 1
  cases pnum l a with
  | none => rfl
  | some o =>
    show (pnum l o.2).bind _ = _
    cases h : pnum l o.2 with
    | none => simp [h]
    | some n =>
      show (pnum l n.2).bind _ = _
      cases h2 : pnum l n.2 with
      | none => simp [h, h2]
      | some c => simp [h, h2]
theorem pbod_nxt {l : List Int} {s : Option Nat} {o : Nat} {x : Int × Int} {q : List Int} (ho : Got (pnum l) s o) (hx : Got (pst l) (nxt (pnum l) s) x) (hq : Got (prow l 256) (nxt (pst l) (nxt (pnum l) s)) q) :
    nxt (pbod l) s = nxt (prow l 256) (nxt (pst l) (nxt (pnum l) s)) ∧ Got (pbod l) s ⟨(o : Int), x.1, x.2, q⟩ := by
  have g3 := got_map (p := prow l 256) (f := fun v => (⟨(o : Int), x.1, x.2, v⟩ : Bd)) hq
  have g2 := got_bind (p := pst l) (x := x) (q := fun x' a => (prow l 256 a).map fun v => ((⟨(o : Int), x'.1, x'.2, v.1⟩ : Bd), v.2)) hx g3
  have g1 := got_bind (p := pnum l) (x := o) (q := fun o' a => (pst l a).bind fun s => (prow l 256 s.2).map fun v => ((⟨(o' : Int), s.1.1, s.1.2, v.1⟩ : Bd), v.2)) ho g2
  refine ⟨?_, g1⟩
  exact (nxt_bind (p := pnum l) (x := o) (q := fun o' a => (pst l a).bind fun s => (prow l 256 s.2).map fun v => ((⟨(o' : Int), s.1.1, s.1.2, v.1⟩ : Bd), v.2)) ho).trans
    ((nxt_bind (p := pst l) (x := x) (q := fun x' a => (prow l 256 a).map fun v => ((⟨(o : Int), x'.1, x'.2, v.1⟩ : Bd), v.2)) hx).trans nxt_map)
end Wi
/-- A write was read. -/
def DWri (g : Nat) (l : List Int) (s : Option Nat) (w : World) (e : Ending) (w' : World) : Prop :=
  ∃ x : Wr, e = .returned (.agg #[.int .i64 x.1, .int .i64 x.2.1, .int .i64 x.2.2.1, .bool x.2.2.2]) ∧ Wi.fit x.1 ∧ Wi.fit x.2.1 ∧ Wi.fit x.2.2.1 ∧ DRd w' g l (Wi.nxt (Wi.pwr l) s) ∧ Only g w w' ∧ Wi.Got (Wi.pwr l) s x
theorem infoWr4 : (Try.prog.info? 101).map (·.size) = some 4 := by kernel_rfl
/-- A body was read. -/
def DBod (g : Nat) (l : List Int) (s : Option Nat) (w : World) (e : Ending) (w' : World) : Prop :=
  ∃ D d x, e = .returned (.agg (bdCells D d x)) ∧ Wi.fit x.o ∧ Wi.fit x.c ∧ Wi.fit x.n ∧ w'.ownsRow w.heap.size 5 1 (.slice D x.v.length d) x.v.length (bCells x.v) ∧ (∀ y ∈ x.v, isB y) ∧ DRd w' g l (Wi.nxt (Wi.pbod l) s) ∧ Only g w w' ∧ Wi.Got (Wi.pbod l) s x

set_option maxRecDepth 100000 in
set_option maxHeartbeats 6400000 in
theorem drwr_any (g : Nat) (l : List Int) (s : Option Nat) (w : World) (h : DRd w g l s) :
    Calls Try.prog 104 #[.pointer (some ⟨g, 0, none⟩)] w (DWri g l s w) := by
  have hgl := h.lt
  obtain ⟨n0, hn0⟩ : ∃ n0, w.heap.size = n0 := ⟨_, rfl⟩
  obtain ⟨W, hW⟩ : ∃ W, (w.alloc (.cells #[.int .i64 0, .int .i64 0, .int .i64 0, .bool false] 101)).alloc (.cells #[.int .i64 0, .int .i64 0, .int .i64 0, .bool false] 101) = W := ⟨_, rfl⟩
  have hb0 : Below w.heap.size w W := by rw [← hW]; exact below_new (below_new (Below.refl _ _) _) _
  have hK2 : Blk W n0 101 #[.int .i64 0, .int .i64 0, .int .i64 0, .bool false] := by rw [← hW, ← hn0]; exact (Blk.new w _ _).alloc _
  have hK3 : Blk W (n0 + 1) 101 #[.int .i64 0, .int .i64 0, .int .i64 0, .bool false] := by rw [← hW, ← hn0]; simpa using Blk.new (w.alloc (.cells #[.int .i64 0, .int .i64 0, .int .i64 0, .bool false] 101)) 101 #[.int .i64 0, .int .i64 0, .int .i64 0, .bool false]
  have hWs : W.heap.size = n0 + 2 := by rw [← hW, ← hn0]; simp
  have HW := Lib.hid hW; have HN := Lib.hid hn0
  have hnw : w.heap.size ≤ n0 := by omega
  have hnw1 : w.heap.size ≤ n0 + 1 := by omega
  have hg0 : g < n0 := by omega
  have hg1 : g < n0 + 1 := by omega
  have hWz : n0 + 2 ≤ W.heap.size := by omega
  have o0 := Only.of_below g hb0
  have d0 := h.later hb0
  clear hW h hn0 hb0 hWs
  go_enter Try.func104, Try.ntmps104
  have CN := Lib.hid (drnum_any g l s W d0)
  have K2 := Lib.hid hK2; have K3 := Lib.hid hK3; have O := Lib.hid o0
  clear hK2 hK3 o0 d0
  go_wp2_with fail
  rw [HW.out]
  try rw [HN.out]
  refine CN.out.mono ?_
  rintro e w1 ⟨o, rfl, ho, hd1, ho1, hgo⟩
  have k2 := ho1.blk K2.out (show n0 ≠ g by omega); have k3 := ho1.blk K3.out (show n0 + 1 ≠ g by omega)
  have t2 := k3.free 2; have z2 := k3.cell (i := 2) rfl
  have d1 := hd1.set hg1 2 (.int .i64 (o : Int))
  have o1 := (O.out.on ho1).setNew hnw1 2 (.int .i64 (o : Int))
  have K2a := Lib.hid (k2.far (p := ⟨n0 + 1, 2, none⟩) (show n0 ≠ n0 + 1 by omega) (.int .i64 (o : Int))); have K3a := Lib.hid (k3.put 2 (.int .i64 (o : Int))); have Oa := Lib.hid o1; have GO := Lib.hid hgo
  have CM := Lib.hid (drst_any g l _ _ d1)
  clear hd1 ho1 hgo k2 k3 d1 o1 CN
  go_wp2_with fail
  refine CM.out.mono ?_
  rintro e w2 ⟨x, rfl, fx1, fx2, hd2, ho2, hgx⟩
  have k2 := ho2.blk K2a.out (show n0 ≠ g by omega); have k3 := ho2.blk K3a.out (show n0 + 1 ≠ g by omega)
  have t0 := k3.free 0; have t1 := k3.free 1; have z0 := k3.cell (i := 0) rfl; have z1 := k3.cell (i := 1) rfl
  have d2 := (hd2.set hg1 0 (.int .i64 x.1)).set hg1 1 (.int .i64 x.2)
  have o2 := ((Oa.out.on ho2).setNew hnw1 0 (.int .i64 x.1)).setNew hnw1 1 (.int .i64 x.2)
  have K2b := Lib.hid ((k2.far (p := ⟨n0 + 1, 0, none⟩) (show n0 ≠ n0 + 1 by omega) (.int .i64 x.1)).far (p := ⟨n0 + 1, 1, none⟩) (show n0 ≠ n0 + 1 by omega) (.int .i64 x.2)); have K3b := Lib.hid ((k3.put 0 (.int .i64 x.1)).put 1 (.int .i64 x.2)); have Ob := Lib.hid o2; have GX := Lib.hid hgx
  have CP := Lib.hid (drnum_any g l _ _ d2)
  clear hd2 ho2 hgx k2 k3 d2 o2 CM t2 z2
  go_wp2_with fail
  refine CP.out.mono ?_
  rintro e w3 ⟨gn, rfl, hgn, hd3, ho3, hgg⟩
  obtain ⟨e1, e2⟩ := Wi.pwr_nxt2 GO.out GX.out hgg
  have K2c := Lib.hid (ho3.blk K2b.out (show n0 ≠ g by omega)); have K3c := Lib.hid (ho3.blk K3b.out (show n0 + 1 ≠ g by omega)); have Oc := Lib.hid (Ob.out.on ho3); have HD3 := Lib.hid hd3
  have E1 := Lib.hid e1; have E2 := Lib.hid e2
  clear hd3 ho3 hgg e1 e2 CP t0 t1 z0 z1
  by_cases hg1' : gn = 1
  · subst hg1'
    have y0 := K3c.out.cell (i := 0) rfl; have y1 := K3c.out.cell (i := 1) rfl; have y2 := K3c.out.cell (i := 2) rfl; have y3 := K3c.out.cell (i := 3) rfl
    have u3 := K3c.out.free 3
    have t0 := K2c.out.free 0; have t1 := K2c.out.free 1; have t2 := K2c.out.free 2; have t3 := K2c.out.free 3
    have z0 := K2c.out.cell (i := 0) rfl; have z1 := K2c.out.cell (i := 1) rfl; have z2 := K2c.out.cell (i := 2) rfl; have z3 := K2c.out.cell (i := 3) rfl
    have v1 := K2c.out.far (p := ⟨n0 + 1, 3, none⟩) (show n0 ≠ n0 + 1 by omega) (.bool true)
    have v2 := (((v1.put 0 (.int .i64 x.1)).put 1 (.int .i64 x.2)).put 2 (.int .i64 (o : Int))).put 3 (.bool true)
    have dd := ((((HD3.out.set hg1 3 (.bool true)).set hg0 0 (.int .i64 x.1)).set hg0 1 (.int .i64 x.2)).set hg0 2 (.int .i64 (o : Int))).set hg0 3 (.bool true)
    have oo := ((((Oc.out.setNew hnw1 3 (.bool true)).setNew hnw 0 (.int .i64 x.1)).setNew hnw 1 (.int .i64 x.2)).setNew hnw 2 (.int .i64 (o : Int))).setNew hnw 3 (.bool true)
    have V2 := Lib.hid v2; have DD := Lib.hid dd; have OO := Lib.hid oo
    clear v1 v2 dd oo
    go_wp2
    exact bodyPost_ret (v := .agg #[.int .i64 x.1, .int .i64 x.2, .int .i64 (o : Int), .bool true]) (results_cell_row rfl _ _ n0 101 #[.int .i64 x.1, .int .i64 x.2, .int .i64 (o : Int), .bool true] (0, 0) _ rfl V2.out Try.underlying101 rfl infoWr4) rfl
      ⟨(x.1, x.2, (o : Int), true), rfl, fx1, fx2, ⟨by show (0 : Int) ≤ (o : Int); omega, by show (o : Int) ≤ 9223372036854775807; omega⟩, by rw [E1.out]; exact DD.out, OO.out, E2.out⟩
  · by_cases hg0' : gn = 0
    · subst hg0'
      have y0 := K3c.out.cell (i := 0) rfl; have y1 := K3c.out.cell (i := 1) rfl; have y2 := K3c.out.cell (i := 2) rfl; have y3 := K3c.out.cell (i := 3) rfl
      have u3 := K3c.out.free 3
      have t0 := K2c.out.free 0; have t1 := K2c.out.free 1; have t2 := K2c.out.free 2; have t3 := K2c.out.free 3
      have z0 := K2c.out.cell (i := 0) rfl; have z1 := K2c.out.cell (i := 1) rfl; have z2 := K2c.out.cell (i := 2) rfl; have z3 := K2c.out.cell (i := 3) rfl
      have v1 := K2c.out.far (p := ⟨n0 + 1, 3, none⟩) (show n0 ≠ n0 + 1 by omega) (.bool false)
      have v2 := (((v1.put 0 (.int .i64 x.1)).put 1 (.int .i64 x.2)).put 2 (.int .i64 (o : Int))).put 3 (.bool false)
      have dd := ((((HD3.out.set hg1 3 (.bool false)).set hg0 0 (.int .i64 x.1)).set hg0 1 (.int .i64 x.2)).set hg0 2 (.int .i64 (o : Int))).set hg0 3 (.bool false)
      have oo := ((((Oc.out.setNew hnw1 3 (.bool false)).setNew hnw 0 (.int .i64 x.1)).setNew hnw 1 (.int .i64 x.2)).setNew hnw 2 (.int .i64 (o : Int))).setNew hnw 3 (.bool false)
      have V2 := Lib.hid v2; have DD := Lib.hid dd; have OO := Lib.hid oo
      clear v1 v2 dd oo
      go_wp2
      exact bodyPost_ret (v := .agg #[.int .i64 x.1, .int .i64 x.2, .int .i64 (o : Int), .bool false]) (results_cell_row rfl _ _ n0 101 #[.int .i64 x.1, .int .i64 x.2, .int .i64 (o : Int), .bool false] (0, 0) _ rfl V2.out Try.underlying101 rfl infoWr4) rfl
        ⟨(x.1, x.2, (o : Int), false), rfl, fx1, fx2, ⟨by show (0 : Int) ≤ (o : Int); omega, by show (o : Int) ≤ 9223372036854775807; omega⟩, by rw [E1.out]; exact DD.out, OO.out, E2.out⟩
    · have hgt : (1 : Int) < (gn : Int) := by omega
      have hgd : decide ((1 : Int) < (gn : Int)) = true := decide_eq_true hgt
      have hne : ((gn : Int) == 1) = false := beq_eq_false_iff_ne.2 (by omega)
      have hnd : decide (gn = 1) = false := decide_eq_false (by omega)
      have e1 := E1.out; have e2 := E2.out
      rw [decide_eq_false (show ¬ gn ≤ 1 by omega)] at e1
      rw [hnd] at e2
      have E1 := Lib.hid e1; have E2 := Lib.hid e2
      have CF := Lib.hid (drfail_any g l _ w3 HD3.out)
      clear e1 e2 hnd
      go_wp2_with fail
      refine CF.out.mono ?_
      rintro e w4 ⟨rfl, hd4, ho4⟩
      have K2d := Lib.hid (ho4.blk K2c.out (show n0 ≠ g by omega)); have K3d := Lib.hid (ho4.blk K3c.out (show n0 + 1 ≠ g by omega)); have Od := Lib.hid (Oc.out.on ho4); have HD4 := Lib.hid hd4
      clear hd4 ho4 CF
      have y0 := K3d.out.cell (i := 0) rfl; have y1 := K3d.out.cell (i := 1) rfl; have y2 := K3d.out.cell (i := 2) rfl; have y3 := K3d.out.cell (i := 3) rfl
      have u3 := K3d.out.free 3
      have t0 := K2d.out.free 0; have t1 := K2d.out.free 1; have t2 := K2d.out.free 2; have t3 := K2d.out.free 3
      have z0 := K2d.out.cell (i := 0) rfl; have z1 := K2d.out.cell (i := 1) rfl; have z2 := K2d.out.cell (i := 2) rfl; have z3 := K2d.out.cell (i := 3) rfl
      have v1 := K2d.out.far (p := ⟨n0 + 1, 3, none⟩) (show n0 ≠ n0 + 1 by omega) (.bool false)
      have v2 := (((v1.put 0 (.int .i64 x.1)).put 1 (.int .i64 x.2)).put 2 (.int .i64 (o : Int))).put 3 (.bool false)
      have dd := ((((HD4.out.set hg1 3 (.bool false)).set hg0 0 (.int .i64 x.1)).set hg0 1 (.int .i64 x.2)).set hg0 2 (.int .i64 (o : Int))).set hg0 3 (.bool false)
      have oo := ((((Od.out.setNew hnw1 3 (.bool false)).setNew hnw 0 (.int .i64 x.1)).setNew hnw 1 (.int .i64 x.2)).setNew hnw 2 (.int .i64 (o : Int))).setNew hnw 3 (.bool false)
      have V2 := Lib.hid v2; have DD := Lib.hid dd; have OO := Lib.hid oo
      clear v1 v2 dd oo
      go_wp2
      exact bodyPost_ret (v := .agg #[.int .i64 x.1, .int .i64 x.2, .int .i64 (o : Int), .bool false]) (results_cell_row rfl _ _ n0 101 #[.int .i64 x.1, .int .i64 x.2, .int .i64 (o : Int), .bool false] (0, 0) _ rfl V2.out Try.underlying101 rfl infoWr4) rfl
        ⟨(x.1, x.2, (o : Int), false), rfl, fx1, fx2, ⟨by show (0 : Int) ≤ (o : Int); omega, by show (o : Int) ≤ 9223372036854775807; omega⟩, by rw [E1.out]; exact DD.out, OO.out, E2.out⟩

set_option maxRecDepth 100000 in
set_option maxHeartbeats 6400000 in
theorem drbod_any (g : Nat) (l : List Int) (s : Option Nat) (w : World) (hl : l.length ≤ 1099511627776) (h : DRd w g l s) :
    Calls Try.prog 76 #[.pointer (some ⟨g, 0, none⟩)] w (DBod g l s w) := by
  have hgl := h.lt
  obtain ⟨n0, hn0⟩ : ∃ n0, w.heap.size = n0 := ⟨_, rfl⟩
  obtain ⟨W, hW⟩ : ∃ W, (w.alloc (.cells #[.int .i64 0, .int .i64 0, .int .i64 0, .slice none 0 0] 63)).alloc (.cells #[.int .i64 0, .int .i64 0, .int .i64 0, .slice none 0 0] 63) = W := ⟨_, rfl⟩
  have hb0 : Below w.heap.size w W := by rw [← hW]; exact below_new (below_new (Below.refl _ _) _) _
  have hK2 : Blk W n0 63 #[.int .i64 0, .int .i64 0, .int .i64 0, .slice none 0 0] := by rw [← hW, ← hn0]; exact (Blk.new w _ _).alloc _
  have hK3 : Blk W (n0 + 1) 63 #[.int .i64 0, .int .i64 0, .int .i64 0, .slice none 0 0] := by rw [← hW, ← hn0]; simpa using Blk.new (w.alloc (.cells #[.int .i64 0, .int .i64 0, .int .i64 0, .slice none 0 0] 63)) 63 #[.int .i64 0, .int .i64 0, .int .i64 0, .slice none 0 0]
  have hWs : W.heap.size = n0 + 2 := by rw [← hW, ← hn0]; simp
  have HW := Lib.hid hW; have HN := Lib.hid hn0
  have hnw : w.heap.size ≤ n0 := by omega
  have hnw1 : w.heap.size ≤ n0 + 1 := by omega
  have hg0 : g < n0 := by omega
  have hg1 : g < n0 + 1 := by omega
  have hWz : n0 + 2 ≤ W.heap.size := by omega
  have o0 := Only.of_below g hb0
  have d0 := h.later hb0
  clear hW h hn0 hb0 hWs
  go_enter Try.func76, Try.ntmps76
  have CN := Lib.hid (drnum_any g l s W d0)
  have K2 := Lib.hid hK2; have K3 := Lib.hid hK3; have O := Lib.hid o0
  clear hK2 hK3 o0 d0
  go_wp2_with fail
  rw [HW.out]
  try rw [HN.out]
  refine CN.out.mono ?_
  rintro e w1 ⟨o, rfl, ho, hd1, ho1, hgo⟩
  have hsa := ho1.size
  have k2 := ho1.blk K2.out (show n0 ≠ g by omega); have k3 := ho1.blk K3.out (show n0 + 1 ≠ g by omega)
  have t0 := k3.free 0; have z0 := k3.cell (i := 0) rfl
  have d1 := hd1.set hg1 0 (.int .i64 (o : Int))
  have o1 := (O.out.on ho1).setNew hnw1 0 (.int .i64 (o : Int))
  have K2a := Lib.hid (k2.far (p := ⟨n0 + 1, 0, none⟩) (show n0 ≠ n0 + 1 by omega) (.int .i64 (o : Int))); have K3a := Lib.hid (k3.put 0 (.int .i64 (o : Int))); have Oa := Lib.hid o1; have GO := Lib.hid hgo
  have CM := Lib.hid (drst_any g l _ _ d1)
  have hsa1 : n0 + 2 ≤ (w1.setCell ⟨n0 + 1, 0, none⟩ (.int .i64 (o : Int))).heap.size := by simp; omega
  clear hd1 ho1 hgo k2 k3 d1 o1 CN
  go_wp2_with fail
  refine CM.out.mono ?_
  rintro e w2 ⟨x, rfl, fx1, fx2, hd2, ho2, hgx⟩
  have hsb := ho2.size
  have k2 := ho2.blk K2a.out (show n0 ≠ g by omega); have k3 := ho2.blk K3a.out (show n0 + 1 ≠ g by omega)
  have t1 := k3.free 1; have t2 := k3.free 2; have z1 := k3.cell (i := 1) rfl; have z2 := k3.cell (i := 2) rfl
  have d2 := (hd2.set hg1 1 (.int .i64 x.1)).set hg1 2 (.int .i64 x.2)
  have o2 := ((Oa.out.on ho2).setNew hnw1 1 (.int .i64 x.1)).setNew hnw1 2 (.int .i64 x.2)
  have K2b := Lib.hid ((k2.far (p := ⟨n0 + 1, 1, none⟩) (show n0 ≠ n0 + 1 by omega) (.int .i64 x.1)).far (p := ⟨n0 + 1, 2, none⟩) (show n0 ≠ n0 + 1 by omega) (.int .i64 x.2)); have K3b := Lib.hid ((k3.put 1 (.int .i64 x.1)).put 2 (.int .i64 x.2)); have Ob := Lib.hid o2; have GX := Lib.hid hgx
  have CP := Lib.hid (drrow_any g l 256 (by decide) _ _ hl d2)
  have hsb1 : n0 + 2 ≤ ((w2.setCell ⟨n0 + 1, 1, none⟩ (.int .i64 x.1)).setCell ⟨n0 + 1, 2, none⟩ (.int .i64 x.2)).heap.size := by simp; omega
  clear hd2 ho2 hgx k2 k3 d2 o2 CM t0 z0 hsa hsa1
  go_wp2_with fail
  refine CP.out.mono ?_
  rintro e w3 ⟨D, d, q, rfl, hoq, hqb, hd3, ho3, hgq⟩
  obtain ⟨e1, e2⟩ := Wi.pbod_nxt GO.out GX.out hgq
  have k2 := ho3.blk K2b.out (show n0 ≠ g by omega); have k3 := ho3.blk K3b.out (show n0 + 1 ≠ g by omega)
  have q1 := own_base hoq hsb1
  have y0 := k3.cell (i := 0) rfl; have y1 := k3.cell (i := 1) rfl; have y2 := k3.cell (i := 2) rfl; have y3 := k3.cell (i := 3) rfl
  have u3 := k3.free 3
  have v1 := k2.far (p := ⟨n0 + 1, 3, none⟩) (show n0 ≠ n0 + 1 by omega) (.slice D q.length d)
  have t0 := k2.free 0; have t1 := k2.free 1; have t2 := k2.free 2; have t3 := k2.free 3
  have z0 := k2.cell (i := 0) rfl; have z1 := k2.cell (i := 1) rfl; have z2 := k2.cell (i := 2) rfl; have z3 := k2.cell (i := 3) rfl
  have v2 := (((v1.put 0 (.int .i64 (o : Int))).put 1 (.int .i64 x.1)).put 2 (.int .i64 x.2)).put 3 (.slice D q.length d)
  have dd := ((((hd3.set hg1 3 (.slice D q.length d)).set hg0 0 (.int .i64 (o : Int))).set hg0 1 (.int .i64 x.1)).set hg0 2 (.int .i64 x.2)).set hg0 3 (.slice D q.length d)
  have oo := (((((Ob.out.on ho3).setNew hnw1 3 (.slice D q.length d)).setNew hnw 0 (.int .i64 (o : Int))).setNew hnw 1 (.int .i64 x.1)).setNew hnw 2 (.int .i64 x.2)).setNew hnw 3 (.slice D q.length d)
  have qq := own_base (((((own_set q1 (B := n0 + 1) (by omega) 3 (.slice D q.length d))|> fun h => own_set h (B := n0) (by omega) 0 (.int .i64 (o : Int))) |> fun h => own_set h (B := n0) (by omega) 1 (.int .i64 x.1)) |> fun h => own_set h (B := n0) (by omega) 2 (.int .i64 x.2)) |> fun h => own_set h (B := n0) (by omega) 3 (.slice D q.length d)) (show w.heap.size ≤ n0 + 2 by omega)
  have V2 := Lib.hid v2; have DD := Lib.hid dd; have OO := Lib.hid oo; have QQ := Lib.hid qq; have E1 := Lib.hid e1; have E2 := Lib.hid e2; have HQB := Lib.hid hqb
  clear k2 k3 v1 v2 dd oo qq q1 hoq hqb hd3 ho3 hgq e1 e2 CP hsb hsb1
  go_wp2
  exact bodyPost_ret (v := .agg (bdCells D d ⟨(o : Int), x.1, x.2, q⟩)) (results_cell_row rfl _ _ n0 63 (bdCells D d ⟨(o : Int), x.1, x.2, q⟩) (0, 0) _ rfl V2.out Try.underlying63 rfl infoBd) rfl
    ⟨D, d, ⟨(o : Int), x.1, x.2, q⟩, rfl, ⟨by show (0 : Int) ≤ (o : Int); omega, by show (o : Int) ≤ 9223372036854775807; omega⟩, fx1, fx2, QQ.out, HQB.out, by rw [E1.out]; exact DD.out, OO.out, E2.out⟩

end Go.Proofs.Ytbbmngabbbehcaa
namespace Go.Proofs.Ytbbmngabbbehcaa
open Go.RowKit

/-- A list was read: in memory of the call's own. -/
def DLst {α : Type} (t : TypeId) (sz : Nat) (cells : List α → List Value) (fits : α → Prop) (p : Nat → Option (List α × Nat)) (most g : Nat) (l : List Int) (s : Option Nat) (w : World) (e : Ending) (w' : World) : Prop :=
  ∃ v x, e = .returned v ∧ x.length ≤ most ∧ (∀ y ∈ x, fits y) ∧ w'.ownsRow w.heap.size t sz v x.length (cells x) ∧ DRd w' g l (Wi.nxt p s) ∧ Only g w w' ∧ Wi.Got p s x

set_option maxRecDepth 100000 in
set_option maxHeartbeats 3200000 in
theorem drlst_any (most g : Nat) (hmost : most ≤ 1048576) (l : List Int) (s : Option Nat) (w : World) (h : DRd w g l s) :
    Calls Try.prog 90 #[.pointer (some ⟨g, 0, none⟩), .int .i64 (most : Int), .func (.func 91) #[] #[]] w (DLst 61 2 stCells (fun s : Int × Int => Wi.fit s.1 ∧ Wi.fit s.2) (Wi.plistm most (Wi.pst l) l) most g l s w) := by
  obtain ⟨i0, hi, hz0, hz1, hz2⟩ := info_parts infoStW
  have hgl := h.lt
  have CN := Lib.hid (drnum_any g l s w h)
  clear h
  go_enter Try.func90, Try.ntmps90
  go_wp2_with fail
  refine CN.out.mono ?_
  rintro e w1 ⟨n, rfl, hn, hd1, ho1, hg1⟩
  have hsz1 := ho1.size
  by_cases hm : n ≤ most
  · have hdm : decide (most < n) = false := decide_eq_false (by omega)
    have hlt0 : ¬ most < n := by omega
    have HI := Lib.hid (Wi.invm_start (p := Wi.pst l) hg1 hm)
    have HD := Lib.hid hd1; have HO := Lib.hid ho1
    clear hd1 ho1 hg1 CN hn
    go_wp2_with fail
    go_loopw [8, 17] (fun s8 s17 wr => ∃ (k : Nat) (acc : List (Int × Int)) (sk : Option Nat), k ≤ n ∧ s17 = .int .i64 (k : Int) ∧ acc.length = k ∧ (∀ y ∈ acc, (fun s : Int × Int => Wi.fit s.1 ∧ Wi.fit s.2) y) ∧ wr.ownsRow w.heap.size 61 2 s8 k (stCells acc) ∧ DRd wr g l sk ∧ Only g w wr ∧ Wi.Inv (Wi.pst l) (s.bind (Wi.plistm most (Wi.pst l) l)) (n - k) acc sk) (fun _ s17 _ => n - (intOf s17).toNat)
    case atStart => exact ⟨0, [], _, by omega, rfl, rfl, (fun _ h => by cases h), ⟨rfl, .inl ⟨rfl, rfl⟩⟩, HD.out, HO.out, HI.out⟩
    case round =>
      obtain ⟨k, acc, sk, hk, rfl, hacc, hfit, hown, hdk, hok, hinv⟩ := hrel
      have hszr := hok.size
      by_cases hkn : k < n
      · have hdt : decide (k < n) = true := decide_eq_true (by omega)
        have CE := Lib.hid (drst_any g l sk wr hdk)
        have HOWN := Lib.hid hown; have HOK := Lib.hid hok; have HINV := Lib.hid hinv; have HFIT := Lib.hid hfit; have HACC := Lib.hid hacc
        clear hown hok hinv hfit hdk hacc HD HO HI
        go_wp2_with fail
        refine CE.out.mono ?_
        rintro e w3 ⟨x, rfl, fx1, fx2, hd1, ho1, hg1⟩
        have hown3 := ho1.own HOWN.out hgl
        have hok3 := HOK.out.on ho1
        have hsz3 := hok3.size
        have hinv3 := Wi.inv_next (k := n - (k + 1)) (by rw [show n - (k + 1) + 1 = n - k by omega]; exact HINV.out) rfl hg1
        have HOWN3 := Lib.hid hown3; have HOK3 := Lib.hid hok3; have HINV3 := Lib.hid hinv3; have HD3 := Lib.hid hd1; have HFX := Lib.hid (show (fun s : Int × Int => Wi.fit s.1 ∧ Wi.fit s.2) x from ⟨fx1, fx2⟩)
        have HNB := Lib.hid (Blk.new w3 61 #[.int .i64 x.1, .int .i64 x.2])
        clear hown3 hok3 hinv3 hd1 ho1 hg1 CE
        go_wp2_with (at_builtin; refine wpList_append_lies _ rfl _ _ 22 rfl w.heap.size 61 i0 (.agg #[.int .i64 0, .int .i64 0]) 2 16 Try.underlying22 hi hz0 hz1 hz2 rfl (by decide) _ k (stCells acc) rfl (HOWN3.out.alloc _) (some ⟨w3.heap.size, 0, none⟩) 1 1 (fun h => by cases h) (stCells [x]) rfl rfl ?c1 (stCells_one _) ?c3 ?c4 ?c5 ?_)
        case c1 =>
          refine fun _ => ⟨w3.heap.size, 0, rfl, fun j u hu => ?_⟩
          rw [Nat.zero_add]
          refine HNB.out.cell ?_
          simpa [stCells, Nt.wrCell] using hu
        case c3 => unfold maxLen; omega
        case c4 => omega
        case c5 => simp; omega
        intro v4 w4 ho4 hg4 hx4
        rw [← stCells_append] at ho4
        have b4 := below_new (Below.refl w3.heap.size w3) (.cells #[.int .i64 x.1, .int .i64 x.2] 61)
        have hd4 := (HD3.out.later b4).grown hg4 (fun j hj => by have := own_ge HOWN3.out j hj; omega)
        have hok4 : Only g w w4 := Only.grown (HOK3.out.below b4) hg4 (fun j hj => own_ge HOWN3.out j hj)
        have HO4 := Lib.hid ho4; have HD4 := Lib.hid hd4; have HOK4 := Lib.hid hok4
        clear ho4 hd4 hok4 hg4 hx4 b4
        go_wp2_with fail
        go_roundw
        case rel => exact ⟨k + 1, acc ++ [x], _, by omega, by first | rfl | (congr 1; omega), by rw [List.length_append, HACC.out]; rfl, (fun y hy => by rcases List.mem_append.1 hy with hy | hy; exact HFIT.out y hy; simp at hy; subst hy; exact HFX.out), HO4.out, HD4.out, HOK4.out, HINV3.out⟩
        case measure => simp [intOf]; omega
      · obtain rfl : k = n := by omega
        have hdt : decide (k < k) = false := decide_eq_false (by omega)
        rw [Nat.sub_self] at hinv
        obtain ⟨e1, e2⟩ := Wi.inv_done hinv
        have E1 := Lib.hid e1; have E2 := Lib.hid e2; have HOWN := Lib.hid hown; have HOK := Lib.hid hok; have HFIT := Lib.hid hfit; have HACC := Lib.hid hacc; have HDK := Lib.hid hdk
        clear hinv e1 e2 hown hok hfit hacc hdk HD HO HI
        go_wp2
        go_ret
        exact ⟨_, acc, rfl, by rw [HACC.out]; exact hm, HFIT.out, by rw [HACC.out]; exact HOWN.out, by rw [E1.out]; exact HDK.out, HOK.out, E2.out⟩
  · have hdm : decide (most < n) = true := decide_eq_true (by omega)
    have hlt0 : most < n := by omega
    have HNO := Lib.hid (Wi.invm_many (p := Wi.pst l) hg1 hm)
    have CF := Lib.hid (drfail_any g l _ w1 hd1)
    have HO := Lib.hid ho1
    clear hd1 ho1 hg1 CN hn
    go_wp2_with fail
    refine CF.out.mono ?_
    rintro e w2 ⟨rfl, hd2, ho2⟩
    have HD2 := Lib.hid hd2; have HO2 := Lib.hid (HO.out.on ho2)
    clear hd2 ho2 CF
    go_wp2
    go_ret
    exact ⟨_, [], rfl, Nat.zero_le _, (fun _ h => by cases h), ⟨rfl, .inl ⟨rfl, rfl⟩⟩, by rw [nxt_no HNO.out]; exact HD2.out, HO2.out, got_no HNO.out⟩

set_option maxRecDepth 100000 in
set_option maxHeartbeats 3200000 in
theorem drlsp_any (most g : Nat) (hmost : most ≤ 1048576) (l : List Int) (s : Option Nat) (w : World) (h : DRd w g l s) :
    Calls Try.prog 95 #[.pointer (some ⟨g, 0, none⟩), .int .i64 (most : Int), .func (.func 96) #[] #[]] w (DLst 95 2 stCells (fun s : Int × Int => Wi.fit s.1 ∧ Wi.fit s.2) (Wi.plistm most (Wi.ptwo l) l) most g l s w) := by
  obtain ⟨i0, hi, hz0, hz1, hz2⟩ := info_parts infoSpW
  have hgl := h.lt
  have CN := Lib.hid (drnum_any g l s w h)
  clear h
  go_enter Try.func95, Try.ntmps95
  go_wp2_with fail
  refine CN.out.mono ?_
  rintro e w1 ⟨n, rfl, hn, hd1, ho1, hg1⟩
  have hsz1 := ho1.size
  by_cases hm : n ≤ most
  · have hdm : decide (most < n) = false := decide_eq_false (by omega)
    have hlt0 : ¬ most < n := by omega
    have HI := Lib.hid (Wi.invm_start (p := Wi.ptwo l) hg1 hm)
    have HD := Lib.hid hd1; have HO := Lib.hid ho1
    clear hd1 ho1 hg1 CN hn
    go_wp2_with fail
    go_loopw [8, 17] (fun s8 s17 wr => ∃ (k : Nat) (acc : List (Int × Int)) (sk : Option Nat), k ≤ n ∧ s17 = .int .i64 (k : Int) ∧ acc.length = k ∧ (∀ y ∈ acc, (fun s : Int × Int => Wi.fit s.1 ∧ Wi.fit s.2) y) ∧ wr.ownsRow w.heap.size 95 2 s8 k (stCells acc) ∧ DRd wr g l sk ∧ Only g w wr ∧ Wi.Inv (Wi.ptwo l) (s.bind (Wi.plistm most (Wi.ptwo l) l)) (n - k) acc sk) (fun _ s17 _ => n - (intOf s17).toNat)
    case atStart => exact ⟨0, [], _, by omega, rfl, rfl, (fun _ h => by cases h), ⟨rfl, .inl ⟨rfl, rfl⟩⟩, HD.out, HO.out, HI.out⟩
    case round =>
      obtain ⟨k, acc, sk, hk, rfl, hacc, hfit, hown, hdk, hok, hinv⟩ := hrel
      have hszr := hok.size
      by_cases hkn : k < n
      · have hdt : decide (k < n) = true := decide_eq_true (by omega)
        have CE := Lib.hid (drsp_any g l sk wr hdk)
        have HOWN := Lib.hid hown; have HOK := Lib.hid hok; have HINV := Lib.hid hinv; have HFIT := Lib.hid hfit; have HACC := Lib.hid hacc
        clear hown hok hinv hfit hdk hacc HD HO HI
        go_wp2_with fail
        refine CE.out.mono ?_
        rintro e w3 ⟨x, rfl, fx1, fx2, hd1, ho1, hg1⟩
        have hown3 := ho1.own HOWN.out hgl
        have hok3 := HOK.out.on ho1
        have hsz3 := hok3.size
        have hinv3 := Wi.inv_next (k := n - (k + 1)) (by rw [show n - (k + 1) + 1 = n - k by omega]; exact HINV.out) rfl hg1
        have HOWN3 := Lib.hid hown3; have HOK3 := Lib.hid hok3; have HINV3 := Lib.hid hinv3; have HD3 := Lib.hid hd1; have HFX := Lib.hid (show (fun s : Int × Int => Wi.fit s.1 ∧ Wi.fit s.2) x from ⟨fx1, fx2⟩)
        have HNB := Lib.hid (Blk.new w3 95 #[.int .i64 x.1, .int .i64 x.2])
        clear hown3 hok3 hinv3 hd1 ho1 hg1 CE
        go_wp2_with (at_builtin; refine wpList_append_lies _ rfl _ _ 40 rfl w.heap.size 95 i0 (.agg #[.int .i64 0, .int .i64 0]) 2 16 Try.underlying40 hi hz0 hz1 hz2 rfl (by decide) _ k (stCells acc) rfl (HOWN3.out.alloc _) (some ⟨w3.heap.size, 0, none⟩) 1 1 (fun h => by cases h) (stCells [x]) rfl rfl ?c1 (stCells_one _) ?c3 ?c4 ?c5 ?_)
        case c1 =>
          refine fun _ => ⟨w3.heap.size, 0, rfl, fun j u hu => ?_⟩
          rw [Nat.zero_add]
          refine HNB.out.cell ?_
          simpa [stCells, Nt.wrCell] using hu
        case c3 => unfold maxLen; omega
        case c4 => omega
        case c5 => simp; omega
        intro v4 w4 ho4 hg4 hx4
        rw [← stCells_append] at ho4
        have b4 := below_new (Below.refl w3.heap.size w3) (.cells #[.int .i64 x.1, .int .i64 x.2] 95)
        have hd4 := (HD3.out.later b4).grown hg4 (fun j hj => by have := own_ge HOWN3.out j hj; omega)
        have hok4 : Only g w w4 := Only.grown (HOK3.out.below b4) hg4 (fun j hj => own_ge HOWN3.out j hj)
        have HO4 := Lib.hid ho4; have HD4 := Lib.hid hd4; have HOK4 := Lib.hid hok4
        clear ho4 hd4 hok4 hg4 hx4 b4
        go_wp2_with fail
        go_roundw
        case rel => exact ⟨k + 1, acc ++ [x], _, by omega, by first | rfl | (congr 1; omega), by rw [List.length_append, HACC.out]; rfl, (fun y hy => by rcases List.mem_append.1 hy with hy | hy; exact HFIT.out y hy; simp at hy; subst hy; exact HFX.out), HO4.out, HD4.out, HOK4.out, HINV3.out⟩
        case measure => simp [intOf]; omega
      · obtain rfl : k = n := by omega
        have hdt : decide (k < k) = false := decide_eq_false (by omega)
        rw [Nat.sub_self] at hinv
        obtain ⟨e1, e2⟩ := Wi.inv_done hinv
        have E1 := Lib.hid e1; have E2 := Lib.hid e2; have HOWN := Lib.hid hown; have HOK := Lib.hid hok; have HFIT := Lib.hid hfit; have HACC := Lib.hid hacc; have HDK := Lib.hid hdk
        clear hinv e1 e2 hown hok hfit hacc hdk HD HO HI
        go_wp2
        go_ret
        exact ⟨_, acc, rfl, by rw [HACC.out]; exact hm, HFIT.out, by rw [HACC.out]; exact HOWN.out, by rw [E1.out]; exact HDK.out, HOK.out, E2.out⟩
  · have hdm : decide (most < n) = true := decide_eq_true (by omega)
    have hlt0 : most < n := by omega
    have HNO := Lib.hid (Wi.invm_many (p := Wi.ptwo l) hg1 hm)
    have CF := Lib.hid (drfail_any g l _ w1 hd1)
    have HO := Lib.hid ho1
    clear hd1 ho1 hg1 CN hn
    go_wp2_with fail
    refine CF.out.mono ?_
    rintro e w2 ⟨rfl, hd2, ho2⟩
    have HD2 := Lib.hid hd2; have HO2 := Lib.hid (HO.out.on ho2)
    clear hd2 ho2 CF
    go_wp2
    go_ret
    exact ⟨_, [], rfl, Nat.zero_le _, (fun _ h => by cases h), ⟨rfl, .inl ⟨rfl, rfl⟩⟩, by rw [nxt_no HNO.out]; exact HD2.out, HO2.out, got_no HNO.out⟩

set_option maxRecDepth 100000 in
set_option maxHeartbeats 3200000 in
theorem drlwr_any (most g : Nat) (hmost : most ≤ 1048576) (l : List Int) (s : Option Nat) (w : World) (h : DRd w g l s) :
    Calls Try.prog 103 #[.pointer (some ⟨g, 0, none⟩), .int .i64 (most : Int), .func (.func 104) #[] #[]] w (DLst 101 4 Nt.wrCells (fun x : Wr => Wi.fit x.1 ∧ Wi.fit x.2.1 ∧ Wi.fit x.2.2.1) (Wi.plistm most (Wi.pwr l) l) most g l s w) := by
  obtain ⟨i0, hi, hz0, hz1, hz2⟩ := info_parts infoWrW
  have hgl := h.lt
  have CN := Lib.hid (drnum_any g l s w h)
  clear h
  go_enter Try.func103, Try.ntmps103
  go_wp2_with fail
  refine CN.out.mono ?_
  rintro e w1 ⟨n, rfl, hn, hd1, ho1, hg1⟩
  have hsz1 := ho1.size
  by_cases hm : n ≤ most
  · have hdm : decide (most < n) = false := decide_eq_false (by omega)
    have hlt0 : ¬ most < n := by omega
    have HI := Lib.hid (Wi.invm_start (p := Wi.pwr l) hg1 hm)
    have HD := Lib.hid hd1; have HO := Lib.hid ho1
    clear hd1 ho1 hg1 CN hn
    go_wp2_with fail
    go_loopw [8, 17] (fun s8 s17 wr => ∃ (k : Nat) (acc : List (Wr)) (sk : Option Nat), k ≤ n ∧ s17 = .int .i64 (k : Int) ∧ acc.length = k ∧ (∀ y ∈ acc, (fun x : Wr => Wi.fit x.1 ∧ Wi.fit x.2.1 ∧ Wi.fit x.2.2.1) y) ∧ wr.ownsRow w.heap.size 101 4 s8 k (Nt.wrCells acc) ∧ DRd wr g l sk ∧ Only g w wr ∧ Wi.Inv (Wi.pwr l) (s.bind (Wi.plistm most (Wi.pwr l) l)) (n - k) acc sk) (fun _ s17 _ => n - (intOf s17).toNat)
    case atStart => exact ⟨0, [], _, by omega, rfl, rfl, (fun _ h => by cases h), ⟨rfl, .inl ⟨rfl, rfl⟩⟩, HD.out, HO.out, HI.out⟩
    case round =>
      obtain ⟨k, acc, sk, hk, rfl, hacc, hfit, hown, hdk, hok, hinv⟩ := hrel
      have hszr := hok.size
      by_cases hkn : k < n
      · have hdt : decide (k < n) = true := decide_eq_true (by omega)
        have CE := Lib.hid (drwr_any g l sk wr hdk)
        have HOWN := Lib.hid hown; have HOK := Lib.hid hok; have HINV := Lib.hid hinv; have HFIT := Lib.hid hfit; have HACC := Lib.hid hacc
        clear hown hok hinv hfit hdk hacc HD HO HI
        go_wp2_with fail
        refine CE.out.mono ?_
        rintro e w3 ⟨x, rfl, fx1, fx2, fx3, hd1, ho1, hg1⟩
        have hown3 := ho1.own HOWN.out hgl
        have hok3 := HOK.out.on ho1
        have hsz3 := hok3.size
        have hinv3 := Wi.inv_next (k := n - (k + 1)) (by rw [show n - (k + 1) + 1 = n - k by omega]; exact HINV.out) rfl hg1
        have HOWN3 := Lib.hid hown3; have HOK3 := Lib.hid hok3; have HINV3 := Lib.hid hinv3; have HD3 := Lib.hid hd1; have HFX := Lib.hid (show (fun x : Wr => Wi.fit x.1 ∧ Wi.fit x.2.1 ∧ Wi.fit x.2.2.1) x from ⟨fx1, fx2, fx3⟩)
        have HNB := Lib.hid (Blk.new w3 101 #[.int .i64 x.1, .int .i64 x.2.1, .int .i64 x.2.2.1, .bool x.2.2.2])
        clear hown3 hok3 hinv3 hd1 ho1 hg1 CE
        go_wp2_with (at_builtin; refine wpList_append_lies _ rfl _ _ 49 rfl w.heap.size 101 i0 (.agg #[.int .i64 0, .int .i64 0, .int .i64 0, .bool false]) 4 32 Try.underlying49 hi hz0 hz1 hz2 rfl (by decide) _ k (Nt.wrCells acc) rfl (HOWN3.out.alloc _) (some ⟨w3.heap.size, 0, none⟩) 1 1 (fun h => by cases h) (Nt.wrCells [x]) rfl rfl ?c1 (Nt.wrCells_one _) ?c3 ?c4 ?c5 ?_)
        case c1 =>
          refine fun _ => ⟨w3.heap.size, 0, rfl, fun j u hu => ?_⟩
          rw [Nat.zero_add]
          refine HNB.out.cell ?_
          simpa [Nt.wrCells, Nt.wrCell] using hu
        case c3 => unfold maxLen; omega
        case c4 => omega
        case c5 => simp; omega
        intro v4 w4 ho4 hg4 hx4
        rw [← Nt.wrCells_append] at ho4
        have b4 := below_new (Below.refl w3.heap.size w3) (.cells #[.int .i64 x.1, .int .i64 x.2.1, .int .i64 x.2.2.1, .bool x.2.2.2] 101)
        have hd4 := (HD3.out.later b4).grown hg4 (fun j hj => by have := own_ge HOWN3.out j hj; omega)
        have hok4 : Only g w w4 := Only.grown (HOK3.out.below b4) hg4 (fun j hj => own_ge HOWN3.out j hj)
        have HO4 := Lib.hid ho4; have HD4 := Lib.hid hd4; have HOK4 := Lib.hid hok4
        clear ho4 hd4 hok4 hg4 hx4 b4
        go_wp2_with fail
        go_roundw
        case rel => exact ⟨k + 1, acc ++ [x], _, by omega, by first | rfl | (congr 1; omega), by rw [List.length_append, HACC.out]; rfl, (fun y hy => by rcases List.mem_append.1 hy with hy | hy; exact HFIT.out y hy; simp at hy; subst hy; exact HFX.out), HO4.out, HD4.out, HOK4.out, HINV3.out⟩
        case measure => simp [intOf]; omega
      · obtain rfl : k = n := by omega
        have hdt : decide (k < k) = false := decide_eq_false (by omega)
        rw [Nat.sub_self] at hinv
        obtain ⟨e1, e2⟩ := Wi.inv_done hinv
        have E1 := Lib.hid e1; have E2 := Lib.hid e2; have HOWN := Lib.hid hown; have HOK := Lib.hid hok; have HFIT := Lib.hid hfit; have HACC := Lib.hid hacc; have HDK := Lib.hid hdk
        clear hinv e1 e2 hown hok hfit hacc hdk HD HO HI
        go_wp2
        go_ret
        exact ⟨_, acc, rfl, by rw [HACC.out]; exact hm, HFIT.out, by rw [HACC.out]; exact HOWN.out, by rw [E1.out]; exact HDK.out, HOK.out, E2.out⟩
  · have hdm : decide (most < n) = true := decide_eq_true (by omega)
    have hlt0 : most < n := by omega
    have HNO := Lib.hid (Wi.invm_many (p := Wi.pwr l) hg1 hm)
    have CF := Lib.hid (drfail_any g l _ w1 hd1)
    have HO := Lib.hid ho1
    clear hd1 ho1 hg1 CN hn
    go_wp2_with fail
    refine CF.out.mono ?_
    rintro e w2 ⟨rfl, hd2, ho2⟩
    have HD2 := Lib.hid hd2; have HO2 := Lib.hid (HO.out.on ho2)
    clear hd2 ho2 CF
    go_wp2
    go_ret
    exact ⟨_, [], rfl, Nat.zero_le _, (fun _ h => by cases h), ⟨rfl, .inl ⟨rfl, rfl⟩⟩, by rw [nxt_no HNO.out]; exact HD2.out, HO2.out, got_no HNO.out⟩

end Go.Proofs.Ytbbmngabbbehcaa
namespace Go.Proofs.Ytbbmngabbbehcaa
open Go.RowKit

namespace Wi
def ewr (x : Wr) : List Int := ((by_ x.2.2.1 ++ by_ x.2.1) ++ by_ x.1) ++ [if x.2.2.2 then 1 else 0]
def enote (n : Note) : List Int := (((elist est n.s ++ elist est n.e) ++ elist etwo n.b) ++ Pk.bytesOf n.ws.length) ++ n.ws.flatMap ewr
theorem ewr_len (x : Wr) : (ewr x).length ≤ 31 := by unfold ewr; simp only [List.length_append, List.length_singleton]; have := by_len x.1; have := by_len x.2.1; have := by_len x.2.2.1; omega
theorem elist_len {α : Type} (f : α → List Int) (b : Nat) (hb : ∀ x, (f x).length ≤ b) (l : List α) : (elist f l).length ≤ 10 + l.length * b := by
  unfold elist
  rw [List.length_append]
  have := (Pk.nb_len 9 l.length).2
  have := flat_len f b hb l
  unfold Pk.bytesOf
  omega
/-- A note whose numbers can all be laid. -/
structure fitN (n : Note) : Prop where
  s : ∀ x ∈ n.s, fit x.1 ∧ fit x.2
  e : ∀ x ∈ n.e, fit x.1 ∧ fit x.2
  b : ∀ x ∈ n.b, fit x.1 ∧ fit x.2
  ws : ∀ x ∈ n.ws, fit x.1 ∧ fit x.2.1 ∧ fit x.2.2.1
end Wi

set_option maxHeartbeats 12800000 in
set_option maxRecDepth 100000 in
theorem enote_any (S E B V : Option Addr) (cs ce cb cv : Nat) (n : Note) (w : World) (h1 : n.s.length ≤ 1099511627776) (h2 : n.e.length ≤ 1099511627776) (h3 : n.b.length ≤ 1099511627776) (h4 : n.ws.length ≤ 1099511627776) (hf : Wi.fitN n) (h : NoteAt w S E B V cs ce cb cv n) :
    Calls Try.prog 26 #[.agg (noteCells S E B V cs ce cb cv n)] w (GivesB (Wi.enote n) w) := by
  obtain ⟨i0, hi0, hz0, hz1, hz2⟩ := info_parts infoBy
  obtain ⟨ns, ne, nb, nw⟩ := n
  unfold noteCells
  simp only at h1 h2 h3 h4 ⊢
  obtain ⟨W, hW⟩ : ∃ W, w.alloc (.cells #[.slice S ns.length cs, .slice E ne.length ce, .slice B nb.length cb, .slice V nw.length cv] 51) = W := ⟨_, rfl⟩
  have hb0 : Below w.heap.size w W := by rw [← hW]; exact below_new (Below.refl _ _) _
  have hB0 : Blk W w.heap.size 51 #[.slice S ns.length cs, .slice E ne.length ce, .slice B nb.length cb, .slice V nw.length cv] := by rw [← hW]; exact Blk.new w _ _
  have c0 := hB0.cell (i := 0) rfl
  have c1 := hB0.cell (i := 1) rfl
  have c2 := hB0.cell (i := 2) rfl
  have c3 := hB0.cell (i := 3) rfl
  have hWs : w.heap.size + 1 = W.heap.size := by rw [← hW]; simp
  have HW := Lib.hid hW; have H := Lib.hid h; have HF := Lib.hid hf; have HBB := Lib.hid hB0
  have m1 := Wi.elist_len Wi.est 20 Wi.est_len ns; have m2 := Wi.elist_len Wi.est 20 Wi.est_len ne; have m3 := Wi.elist_len Wi.etwo 20 Wi.etwo_len nb
  have m4 : (Pk.bytesOf nw.length).length ≤ 10 := (Pk.nb_len 9 nw.length).2
  have LW := Lib.hid (fun (w' : World) (hb : Below W.heap.size W w') => hb0.trans (hb.mono (show w.heap.size ≤ W.heap.size by omega)))
  have NV1 := Lib.hid (fun wx (hx : OneL wx S cs ns) => evec_any S cs ns wx h1 hf.s hx)
  have NV2 := Lib.hid (fun wx (hx : OneL wx E ce ne) => evec_any E ce ne wx h2 hf.e hx)
  have NV3 := Lib.hid (fun wx (hx : OneL wx B cb nb) => eset_any B cb nb wx h3 hf.b hx)
  have NV4 := Lib.hid (fun wx => bytes_any nw.length wx (by omega))
  obtain ⟨r1, hr1⟩ : ∃ r, Wi.elist Wi.est ns = r := ⟨_, rfl⟩
  obtain ⟨r2, hr2⟩ : ∃ r, Wi.elist Wi.est ne = r := ⟨_, rfl⟩
  obtain ⟨r3, hr3⟩ : ∃ r, Wi.elist Wi.etwo nb = r := ⟨_, rfl⟩
  obtain ⟨r4, hr4⟩ : ∃ r, Pk.bytesOf nw.length = r := ⟨_, rfl⟩
  have hout : Wi.enote ⟨ns, ne, nb, nw⟩ = (((r1 ++ r2) ++ r3) ++ r4) ++ nw.flatMap Wi.ewr := by unfold Wi.enote; simp only [hr1, hr2, hr3, hr4]
  rw [hout]
  rw [hr1] at m1 NV1; rw [hr2] at m2 NV2; rw [hr3] at m3 NV3; rw [hr4] at m4 NV4
  have HFL := Lib.hid (Wi.flat_len Wi.ewr 31 Wi.ewr_len)
  have HFT := Lib.hid (fun k hk => Wi.flat_take Wi.ewr nw k Nt.zeroW hk)
  clear hW h hf hB0 hr1 hr2 hr3 hr4 hout
  go_enter Try.func26, Try.ntmps26
  go_wp2_with fail
  rw [HW.out]

  refine wp_region_rows 16 (by kernel_rfl) (by kernel_rfl)
    (fun v => { tmps := #[.agg #[.slice S ns.length cs, .slice E ne.length ce, .slice B nb.length cb, .slice V nw.length cv], .pointer (some ⟨w.heap.size, 0, none⟩), .slice none 0 0, undef, undef, undef, v 0, v 1, v 2, v 3, v 4, v 5, v 6, v 7, v 8, v 9, v 10, v 11, v 12, v 13, v 14, v 15, undef, undef, undef, undef, undef, undef, undef, undef, undef, undef, undef, undef, undef, undef, undef, undef, undef, undef, undef, undef, undef, undef, undef, undef, undef, undef, undef, undef, undef, undef, undef, undef, undef, undef, undef, undef], defers := [] }) (fun _ => undef) W.heap.size 5
    (fun i x => match i with | 0 => x = .pointer (some ⟨w.heap.size, 0, none⟩) | 1 => x = .slice S ns.length cs | 3 => x = .pointer (some ⟨w.heap.size, 1, none⟩) | 4 => x = .slice E ne.length ce | 7 => x = .pointer (some ⟨w.heap.size, 2, none⟩) | 8 => x = .slice B nb.length cb | 11 => x = .pointer (some ⟨w.heap.size, 3, none⟩) | 12 => x = .slice V nw.length cv | 13 => x = .int .i64 (nw.length : Int) | _ => True)
    (fun i => match i with | 2 => some (r1) | 5 => some (r2) | 6 => some (r1 ++ r2) | 9 => some (r3) | 10 => some ((r1 ++ r2) ++ r3) | 14 => some (r4) | 15 => some (((r1 ++ r2) ++ r3) ++ r4) | _ => none)
    (fun i => match i with | 2 => 6 | 5 => 6 | 6 => 10 | 9 => 10 | 10 => 15 | 14 => 15 | 15 => 16 | _ => 0) none ?start ?step ?done
  case start =>
    refine RowsInv.start (m := 17) ?_ (fun i hi => ?_) (fun i hi hr => ?_) (fun r hr => ?_) (fun hr k hk => ?_)
    · first | exact Nat.le_refl _ | omega
    · match i, hi with
      | j + 17, _ => trivial
    · match i, hi, hr with
      | j + 17, _, hr => exact absurd rfl hr
    · cases hr
    · exact absurd rfl hr
  case step =>
    intro i hi L v w' hI hun hd htl hex
    match i, hi with
    | 0, _ =>
      refine wpOp_one rfl ?_
      clear hd htl hex
      go_wp2
      first | exact ⟨_, (by simp [upd]; done), RowStep.still rfl rfl⟩ | exact ⟨(by simp [upd]; done), RowStep.still rfl rfl⟩
    | 1, _ =>
      have l0 : L 0 = true := hd 0 (List.elem_iff.1 (by kernel_rfl))
      have h0 : v 0 = _ := hI.c 0 l0
      have q0 := hI.cell c0 (by intro e; cases e)
      refine wpOp_one rfl ?_
      clear hd htl hex
      rw [h0]
      go_wp2
      first | exact ⟨_, (by simp [upd, h0]; done), RowStep.still rfl rfl⟩ | exact ⟨(by simp [upd, h0]; done), RowStep.still rfl rfl⟩
    | 2, _ =>
      have l1 : L 1 = true := hd 1 (List.elem_iff.1 (by kernel_rfl))
      have h1 : v 1 = _ := hI.c 1 l1
      refine wpOp_one rfl ?_
      clear hd htl hex
      rw [h1]
      go_wp2_with fail
      refine (NV1.out w' (H.out.hs.later (LW.out w' hI.rel))).mono ?_
      rintro e w'' ⟨x, rfl, ho, bb⟩
      have ST := Lib.hid (fun (Lx : Nat → Bool) (vx : Nat → Value) => RowStep.made (C := fun i x => match i with | 0 => x = .pointer (some ⟨w.heap.size, 0, none⟩) | 1 => x = .slice S ns.length cs | 3 => x = .pointer (some ⟨w.heap.size, 1, none⟩) | 4 => x = .slice E ne.length ce | 7 => x = .pointer (some ⟨w.heap.size, 2, none⟩) | 8 => x = .slice B nb.length cb | 11 => x = .pointer (some ⟨w.heap.size, 3, none⟩) | 12 => x = .slice V nw.length cv | 13 => x = .int .i64 (nw.length : Int) | _ => True) (row := fun i => match i with | 2 => some (r1) | 5 => some (r2) | 6 => some (r1 ++ r2) | 9 => some (r3) | 10 => some ((r1 ++ r2) ++ r3) | 14 => some (r4) | 15 => some (((r1 ++ r2) ++ r3) ++ r4) | _ => none) (cons := fun i => match i with | 2 => 6 | 5 => 6 | 6 => 10 | 9 => 10 | 10 => 15 | 14 => 15 | 15 => 16 | _ => 0) (i := 2) (L := Lx) (v := vx) trivial rfl bb hI.hbase ho)
      clear ho bb
      go_wp2
      exact ⟨_, (by simp [upd, h1]; done), ST.out _ _⟩
    | 3, _ =>
      refine wpOp_one rfl ?_
      clear hd htl hex
      go_wp2
      first | exact ⟨_, (by simp [upd]; done), RowStep.still rfl rfl⟩ | exact ⟨(by simp [upd]; done), RowStep.still rfl rfl⟩
    | 4, _ =>
      have l3 : L 3 = true := hd 3 (List.elem_iff.1 (by kernel_rfl))
      have h3 : v 3 = _ := hI.c 3 l3
      have q0 := hI.cell c1 (by intro e; cases e)
      refine wpOp_one rfl ?_
      clear hd htl hex
      rw [h3]
      go_wp2
      first | exact ⟨_, (by simp [upd, h3]; done), RowStep.still rfl rfl⟩ | exact ⟨(by simp [upd, h3]; done), RowStep.still rfl rfl⟩
    | 5, _ =>
      have l4 : L 4 = true := hd 4 (List.elem_iff.1 (by kernel_rfl))
      have h4 : v 4 = _ := hI.c 4 l4
      refine wpOp_one rfl ?_
      clear hd htl hex
      rw [h4]
      go_wp2_with fail
      refine (NV2.out w' (H.out.he.later (LW.out w' hI.rel))).mono ?_
      rintro e w'' ⟨x, rfl, ho, bb⟩
      have ST := Lib.hid (fun (Lx : Nat → Bool) (vx : Nat → Value) => RowStep.made (C := fun i x => match i with | 0 => x = .pointer (some ⟨w.heap.size, 0, none⟩) | 1 => x = .slice S ns.length cs | 3 => x = .pointer (some ⟨w.heap.size, 1, none⟩) | 4 => x = .slice E ne.length ce | 7 => x = .pointer (some ⟨w.heap.size, 2, none⟩) | 8 => x = .slice B nb.length cb | 11 => x = .pointer (some ⟨w.heap.size, 3, none⟩) | 12 => x = .slice V nw.length cv | 13 => x = .int .i64 (nw.length : Int) | _ => True) (row := fun i => match i with | 2 => some (r1) | 5 => some (r2) | 6 => some (r1 ++ r2) | 9 => some (r3) | 10 => some ((r1 ++ r2) ++ r3) | 14 => some (r4) | 15 => some (((r1 ++ r2) ++ r3) ++ r4) | _ => none) (cons := fun i => match i with | 2 => 6 | 5 => 6 | 6 => 10 | 9 => 10 | 10 => 15 | 14 => 15 | 15 => 16 | _ => 0) (i := 5) (L := Lx) (v := vx) trivial rfl bb hI.hbase ho)
      clear ho bb
      go_wp2
      exact ⟨_, (by simp [upd, h4]; done), ST.out _ _⟩
    | 6, _ =>
      have l2 : L 2 = true := hd 2 (List.elem_iff.1 (by kernel_rfl))
      have l5 : L 5 = true := hd 5 (List.elem_iff.1 (by kernel_rfl))
      have ld : L 2 = true := l2
      have od := hI.own 2 _ ld hun rfl
      have os := hI.own 5 _ l5 hun rfl
      obtain ⟨Ax, cx, hs, hsl, hsc, hsn, hsi⟩ := own_form os
      refine wpOp_one rfl ?_
      have hbs := hI.hbase
      clear hd htl hex os
      rw [hs]
      refine wpList_append_lies _ rfl _ _ 23 rfl W.heap.size 5 i0 (.int .u8 0) 1 1 Try.underlying23 hi0 hz0 hz1 hz2 rfl (by decide) _ (r1).length (bCells (r1)) rfl od Ax (r2).length cx hsn (bCells (r2)) rfl (by rw [bCells_length, Nat.mul_one]) hsi (bCells_one _) ?c3 ?c4 ?c5 ?_
      case c3 => (try simp only [List.length_append]); unfold maxLen; omega
      case c4 => (try simp only [List.length_append]); omega
      case c5 => exact hbs
      intro v2 w2 ho2 hg2 hx2
      rw [← bCells_append, ← List.length_append] at ho2
      have ST := Lib.hid (RowStep.grown (C := fun i x => match i with | 0 => x = .pointer (some ⟨w.heap.size, 0, none⟩) | 1 => x = .slice S ns.length cs | 3 => x = .pointer (some ⟨w.heap.size, 1, none⟩) | 4 => x = .slice E ne.length ce | 7 => x = .pointer (some ⟨w.heap.size, 2, none⟩) | 8 => x = .slice B nb.length cb | 11 => x = .pointer (some ⟨w.heap.size, 3, none⟩) | 12 => x = .slice V nw.length cv | 13 => x = .int .i64 (nw.length : Int) | _ => True) (row := fun i => match i with | 2 => some (r1) | 5 => some (r2) | 6 => some (r1 ++ r2) | 9 => some (r3) | 10 => some ((r1 ++ r2) ++ r3) | 14 => some (r4) | 15 => some (((r1 ++ r2) ++ r3) ++ r4) | _ => none) (cons := fun i => match i with | 2 => 6 | 5 => 6 | 6 => 10 | 9 => 10 | 10 => 15 | 14 => 15 | 15 => 16 | _ => 0) (i := 6) (d := 2) (L := L) (v := v) trivial rfl rfl (by simp) ld rfl hg2 ho2 hx2)
      clear ho2 hg2 hx2 od
      go_wp2
      exact ⟨_, (by simp [upd, Act.put, hs]; done), ST.out⟩
    | 7, _ =>
      refine wpOp_one rfl ?_
      clear hd htl hex
      go_wp2
      first | exact ⟨_, (by simp [upd]; done), RowStep.still rfl rfl⟩ | exact ⟨(by simp [upd]; done), RowStep.still rfl rfl⟩
    | 8, _ =>
      have l7 : L 7 = true := hd 7 (List.elem_iff.1 (by kernel_rfl))
      have h7 : v 7 = _ := hI.c 7 l7
      have q0 := hI.cell c2 (by intro e; cases e)
      refine wpOp_one rfl ?_
      clear hd htl hex
      rw [h7]
      go_wp2
      first | exact ⟨_, (by simp [upd, h7]; done), RowStep.still rfl rfl⟩ | exact ⟨(by simp [upd, h7]; done), RowStep.still rfl rfl⟩
    | 9, _ =>
      have l8 : L 8 = true := hd 8 (List.elem_iff.1 (by kernel_rfl))
      have h8 : v 8 = _ := hI.c 8 l8
      refine wpOp_one rfl ?_
      clear hd htl hex
      rw [h8]
      go_wp2_with fail
      refine (NV3.out w' (H.out.hb.later (LW.out w' hI.rel))).mono ?_
      rintro e w'' ⟨x, rfl, ho, bb⟩
      have ST := Lib.hid (fun (Lx : Nat → Bool) (vx : Nat → Value) => RowStep.made (C := fun i x => match i with | 0 => x = .pointer (some ⟨w.heap.size, 0, none⟩) | 1 => x = .slice S ns.length cs | 3 => x = .pointer (some ⟨w.heap.size, 1, none⟩) | 4 => x = .slice E ne.length ce | 7 => x = .pointer (some ⟨w.heap.size, 2, none⟩) | 8 => x = .slice B nb.length cb | 11 => x = .pointer (some ⟨w.heap.size, 3, none⟩) | 12 => x = .slice V nw.length cv | 13 => x = .int .i64 (nw.length : Int) | _ => True) (row := fun i => match i with | 2 => some (r1) | 5 => some (r2) | 6 => some (r1 ++ r2) | 9 => some (r3) | 10 => some ((r1 ++ r2) ++ r3) | 14 => some (r4) | 15 => some (((r1 ++ r2) ++ r3) ++ r4) | _ => none) (cons := fun i => match i with | 2 => 6 | 5 => 6 | 6 => 10 | 9 => 10 | 10 => 15 | 14 => 15 | 15 => 16 | _ => 0) (i := 9) (L := Lx) (v := vx) trivial rfl bb hI.hbase ho)
      clear ho bb
      go_wp2
      exact ⟨_, (by simp [upd, h8]; done), ST.out _ _⟩
    | 10, _ =>
      have l6 : L 6 = true := hd 6 (List.elem_iff.1 (by kernel_rfl))
      have l9 : L 9 = true := hd 9 (List.elem_iff.1 (by kernel_rfl))
      have ld : L 6 = true := l6
      have od := hI.own 6 _ ld hun rfl
      have os := hI.own 9 _ l9 hun rfl
      obtain ⟨Ax, cx, hs, hsl, hsc, hsn, hsi⟩ := own_form os
      refine wpOp_one rfl ?_
      have hbs := hI.hbase
      clear hd htl hex os
      rw [hs]
      refine wpList_append_lies _ rfl _ _ 23 rfl W.heap.size 5 i0 (.int .u8 0) 1 1 Try.underlying23 hi0 hz0 hz1 hz2 rfl (by decide) _ (r1 ++ r2).length (bCells (r1 ++ r2)) rfl od Ax (r3).length cx hsn (bCells (r3)) rfl (by rw [bCells_length, Nat.mul_one]) hsi (bCells_one _) ?c3 ?c4 ?c5 ?_
      case c3 => (try simp only [List.length_append]); unfold maxLen; omega
      case c4 => (try simp only [List.length_append]); omega
      case c5 => exact hbs
      intro v2 w2 ho2 hg2 hx2
      rw [← bCells_append, ← List.length_append] at ho2
      have ST := Lib.hid (RowStep.grown (C := fun i x => match i with | 0 => x = .pointer (some ⟨w.heap.size, 0, none⟩) | 1 => x = .slice S ns.length cs | 3 => x = .pointer (some ⟨w.heap.size, 1, none⟩) | 4 => x = .slice E ne.length ce | 7 => x = .pointer (some ⟨w.heap.size, 2, none⟩) | 8 => x = .slice B nb.length cb | 11 => x = .pointer (some ⟨w.heap.size, 3, none⟩) | 12 => x = .slice V nw.length cv | 13 => x = .int .i64 (nw.length : Int) | _ => True) (row := fun i => match i with | 2 => some (r1) | 5 => some (r2) | 6 => some (r1 ++ r2) | 9 => some (r3) | 10 => some ((r1 ++ r2) ++ r3) | 14 => some (r4) | 15 => some (((r1 ++ r2) ++ r3) ++ r4) | _ => none) (cons := fun i => match i with | 2 => 6 | 5 => 6 | 6 => 10 | 9 => 10 | 10 => 15 | 14 => 15 | 15 => 16 | _ => 0) (i := 10) (d := 6) (L := L) (v := v) trivial rfl rfl (by simp) ld rfl hg2 ho2 hx2)
      clear ho2 hg2 hx2 od
      go_wp2
      exact ⟨_, (by simp [upd, Act.put, hs]; done), ST.out⟩
    | 11, _ =>
      refine wpOp_one rfl ?_
      clear hd htl hex
      go_wp2
      first | exact ⟨_, (by simp [upd]; done), RowStep.still rfl rfl⟩ | exact ⟨(by simp [upd]; done), RowStep.still rfl rfl⟩
    | 12, _ =>
      have l11 : L 11 = true := hd 11 (List.elem_iff.1 (by kernel_rfl))
      have h11 : v 11 = _ := hI.c 11 l11
      have q0 := hI.cell c3 (by intro e; cases e)
      refine wpOp_one rfl ?_
      clear hd htl hex
      rw [h11]
      go_wp2
      first | exact ⟨_, (by simp [upd, h11]; done), RowStep.still rfl rfl⟩ | exact ⟨(by simp [upd, h11]; done), RowStep.still rfl rfl⟩
    | 13, _ =>
      have l12 : L 12 = true := hd 12 (List.elem_iff.1 (by kernel_rfl))
      have h12 : v 12 = _ := hI.c 12 l12
      refine wpOp_one rfl ?_
      clear hd htl hex
      rw [h12]
      go_wp2
      first | exact ⟨_, (by simp [upd, h12]; done), RowStep.still rfl rfl⟩ | exact ⟨(by simp [upd, h12]; done), RowStep.still rfl rfl⟩
    | 14, _ =>
      have l13 : L 13 = true := hd 13 (List.elem_iff.1 (by kernel_rfl))
      have h13 : v 13 = _ := hI.c 13 l13
      refine wpOp_one rfl ?_
      clear hd htl hex
      rw [h13]
      go_wp2_with fail
      refine (NV4.out w').mono ?_
      rintro e w'' ⟨x, rfl, ho, bb⟩
      have ST := Lib.hid (fun (Lx : Nat → Bool) (vx : Nat → Value) => RowStep.made (C := fun i x => match i with | 0 => x = .pointer (some ⟨w.heap.size, 0, none⟩) | 1 => x = .slice S ns.length cs | 3 => x = .pointer (some ⟨w.heap.size, 1, none⟩) | 4 => x = .slice E ne.length ce | 7 => x = .pointer (some ⟨w.heap.size, 2, none⟩) | 8 => x = .slice B nb.length cb | 11 => x = .pointer (some ⟨w.heap.size, 3, none⟩) | 12 => x = .slice V nw.length cv | 13 => x = .int .i64 (nw.length : Int) | _ => True) (row := fun i => match i with | 2 => some (r1) | 5 => some (r2) | 6 => some (r1 ++ r2) | 9 => some (r3) | 10 => some ((r1 ++ r2) ++ r3) | 14 => some (r4) | 15 => some (((r1 ++ r2) ++ r3) ++ r4) | _ => none) (cons := fun i => match i with | 2 => 6 | 5 => 6 | 6 => 10 | 9 => 10 | 10 => 15 | 14 => 15 | 15 => 16 | _ => 0) (i := 14) (L := Lx) (v := vx) trivial rfl bb hI.hbase ho)
      clear ho bb
      go_wp2
      exact ⟨_, (by simp [upd, h13]; done), ST.out _ _⟩
    | 15, _ =>
      have l10 : L 10 = true := hd 10 (List.elem_iff.1 (by kernel_rfl))
      have l14 : L 14 = true := hd 14 (List.elem_iff.1 (by kernel_rfl))
      have ld : L 10 = true := l10
      have od := hI.own 10 _ ld hun rfl
      have os := hI.own 14 _ l14 hun rfl
      obtain ⟨Ax, cx, hs, hsl, hsc, hsn, hsi⟩ := own_form os
      refine wpOp_one rfl ?_
      have hbs := hI.hbase
      clear hd htl hex os
      rw [hs]
      refine wpList_append_lies _ rfl _ _ 23 rfl W.heap.size 5 i0 (.int .u8 0) 1 1 Try.underlying23 hi0 hz0 hz1 hz2 rfl (by decide) _ ((r1 ++ r2) ++ r3).length (bCells ((r1 ++ r2) ++ r3)) rfl od Ax (r4).length cx hsn (bCells (r4)) rfl (by rw [bCells_length, Nat.mul_one]) hsi (bCells_one _) ?c3 ?c4 ?c5 ?_
      case c3 => (try simp only [List.length_append]); unfold maxLen; omega
      case c4 => (try simp only [List.length_append]); omega
      case c5 => exact hbs
      intro v2 w2 ho2 hg2 hx2
      rw [← bCells_append, ← List.length_append] at ho2
      have ST := Lib.hid (RowStep.grown (C := fun i x => match i with | 0 => x = .pointer (some ⟨w.heap.size, 0, none⟩) | 1 => x = .slice S ns.length cs | 3 => x = .pointer (some ⟨w.heap.size, 1, none⟩) | 4 => x = .slice E ne.length ce | 7 => x = .pointer (some ⟨w.heap.size, 2, none⟩) | 8 => x = .slice B nb.length cb | 11 => x = .pointer (some ⟨w.heap.size, 3, none⟩) | 12 => x = .slice V nw.length cv | 13 => x = .int .i64 (nw.length : Int) | _ => True) (row := fun i => match i with | 2 => some (r1) | 5 => some (r2) | 6 => some (r1 ++ r2) | 9 => some (r3) | 10 => some ((r1 ++ r2) ++ r3) | 14 => some (r4) | 15 => some (((r1 ++ r2) ++ r3) ++ r4) | _ => none) (cons := fun i => match i with | 2 => 6 | 5 => 6 | 6 => 10 | 9 => 10 | 10 => 15 | 14 => 15 | 15 => 16 | _ => 0) (i := 15) (d := 10) (L := L) (v := v) trivial rfl rfl (by simp) ld rfl hg2 ho2 hx2)
      clear ho2 hg2 hx2 od
      go_wp2
      exact ⟨_, (by simp [upd, Act.put, hs]; done), ST.out⟩
    | k + 16, hk => exact absurd hk (by omega)
  case done =>
    intro L vo w5 hI hall htl5 hex
    have o15 := hI.own 15 _ (hall 15 (by omega)) (htl5 16 (by omega) (by simp)) rfl
    have O15 := Lib.hid o15; have B5 := Lib.hid hI.rel; have hbz := hI.hbase
    obtain ⟨hd0, hhd⟩ : ∃ q, ((r1 ++ r2) ++ r3) ++ r4 = q := ⟨_, rfl⟩
    have hdl : hd0.length ≤ 4 * 10 + 3 * 1099511627776 * 20 := by rw [← hhd]; simp only [List.length_append]; omega
    rw [hhd] at O15
    have HHD := Lib.hid hhd
    clear hhd o15 hI hall htl5 hex c0 c1 c2 c3 m1 m2 m3 m4 NV1 NV2 NV3 NV4
    go_wp2_with fail
    go_loopw [3, 4, 5] (fun s3 s4 s5 wr => ∃ k : Nat, k ≤ nw.length ∧ s4 = .int .i64 (k : Int) ∧ wr.ownsRow W.heap.size 5 1 s3 (hd0 ++ (nw.take k).flatMap Wi.ewr).length (bCells (hd0 ++ (nw.take k).flatMap Wi.ewr)) ∧ Below W.heap.size W wr) (fun _ s4 _ _ => nw.length - (intOf s4).toNat)
    case atStart => exact ⟨0, by omega, rfl, by simpa using O15.out, B5.out⟩
    case round =>
      obtain ⟨k, hk, rfl, hown, hbw⟩ := hrel
      have hsz := hbw.size
      have kbx : Blk wr w.heap.size 51 _ := (hbw.block w.heap.size (by omega)).trans HBB.out
      have x3 := kbx.cell (i := 3) rfl
      clear kbx O15 B5 hbz
      by_cases hkl : k < nw.length
      · have hd : decide ((k : Int) < (nw.length : Int)) = true := decide_eq_true (by omega)
        have hne : nw ≠ [] := fun e => by rw [e] at hkl; simp at hkl
        have bwr := LW.out wr hbw
        obtain ⟨b, off, hA, hcA⟩ := (H.out.hv.later bwr).at hne
        obtain ⟨d0, d1, d2, d3⟩ := hcA k hkl
        have hmem : nw.getD k Nt.zeroW ∈ nw := by rw [List.getD_eq_getElem?_getD, List.getElem?_eq_getElem hkl]; exact List.getElem_mem hkl
        obtain ⟨g1, g2, g3⟩ := HF.out.ws _ hmem
        have hft := HFT.out k hkl
        have htl : ((nw.take k).flatMap Wi.ewr).length ≤ nw.length * 31 := by have := HFL.out (nw.take k); rw [List.length_take] at this; have : min k nw.length * 31 ≤ nw.length * 31 := Nat.mul_le_mul_right _ (Nat.min_le_right _ _); omega
        obtain ⟨x, hx⟩ : ∃ x, nw.getD k Nt.zeroW = x := ⟨_, rfl⟩
        rw [hx] at d0 d1 d2 d3 g1 g2 g3 hft
        obtain ⟨xc, xn, xo, xg⟩ := x
        simp only at d0 d1 d2 d3 g1 g2 g3
        obtain ⟨pre, hpre⟩ : ∃ q, hd0 ++ (nw.take k).flatMap Wi.ewr = q := ⟨_, rfl⟩
        have hnew : hd0 ++ (nw.take (k + 1)).flatMap Wi.ewr = (((pre ++ Wi.by_ xo) ++ Wi.by_ xn) ++ Wi.by_ xc) ++ [if xg then 1 else 0] := by rw [hft, ← hpre]; unfold Wi.ewr; simp only [List.append_assoc]
        have hpl : pre.length ≤ 41 + 3 * 1099511627776 * 20 + nw.length * 31 := by rw [← hpre, List.length_append]; omega
        rw [hpre] at hown
        obtain ⟨P, cp, hs3, -⟩ := own_form hown
        rw [hs3] at hown
        subst hs3 hA
        obtain ⟨W2, hW2⟩ : ∃ W2, wr.alloc (.cells #[.int .i64 xc, .int .i64 xn, .int .i64 xo, .bool xg] 101) = W2 := ⟨_, rfl⟩
        have kb2 : Blk W2 wr.heap.size 101 #[.int .i64 xc, .int .i64 xn, .int .i64 xo, .bool xg] := by rw [← hW2]; exact Blk.new wr _ _
        have own2 : W2.ownsRow W.heap.size 5 1 (.slice P pre.length cp) pre.length (bCells pre) := by rw [← hW2]; exact hown.alloc _
        have bl2 : Below W.heap.size W W2 := by rw [← hW2]; exact hbw.alloc hsz _
        have hs2 : wr.heap.size + 1 = W2.heap.size := by rw [← hW2]; simp
        have hneB : ∀ i, (Value.slice P pre.length cp).ownBlock ≠ some (⟨wr.heap.size, i, none⟩ : Addr).block := fun i e => by have := own_lt hown wr.heap.size e; omega
        have y0 := kb2.cell (i := 0) rfl; have y1 := kb2.cell (i := 1) rfl; have y2 := kb2.cell (i := 2) rfl
        have q1 := Wi.by_len xo; have q2 := Wi.by_len xn; have q3 := Wi.by_len xc
        have hi1 : (0 : Int) ≤ (k : Int) := by omega
        have hi2 : (k : Int) < (nw.length : Int) := by omega
        have HNEW := Lib.hid hnew; have HOW := Lib.hid own2; have HNE := Lib.hid hneB; have G1 := Lib.hid g1; have G2 := Lib.hid g2; have G3 := Lib.hid g3; have HW2 := Lib.hid hW2; have KB2 := Lib.hid kb2; have BL2 := Lib.hid bl2
        clear hcA hft hx hnew hown own2 hneB g1 g2 g3 hne hmem hpre hW2 kb2 bl2
        go_wp2_with fail
        rw [HW2.out]
        refine wp_region_rows 15 (by kernel_rfl) (by kernel_rfl)
          (fun v => { tmps := #[.agg #[.slice S ns.length cs, .slice E ne.length ce, .slice B nb.length cb, .slice (some ⟨b, off, none⟩) nw.length cv], .pointer (some ⟨w.heap.size, 0, none⟩), .slice none 0 0, .slice P pre.length cp, .int .i64 (k : Int), .pointer (some ⟨wr.heap.size, 0, none⟩), vo 0, vo 1, vo 2, vo 3, vo 4, vo 5, vo 6, vo 7, vo 8, vo 9, vo 10, vo 11, vo 12, vo 13, vo 14, vo 15, .int .i64 (k : Int), .pointer (some ⟨w.heap.size, 3, none⟩), .slice (some ⟨b, off, none⟩) nw.length cv, .int .i64 (nw.length : Int), .bool true, u27, u28, .pointer (some ⟨w.heap.size, 3, none⟩), .slice (some ⟨b, off, none⟩) nw.length cv, .int .i64 (k : Int), .pointer (some ⟨b, off + k * 4, none⟩), .agg #[.int .i64 xc, .int .i64 xn, .int .i64 xo, .bool xg], v 0, v 1, v 2, v 3, v 4, v 5, v 6, v 7, v 8, v 9, v 10, v 11, v 12, v 13, v 14, u49, u50, u51, u52, u53, u54, u55, u56, undef], defers := [] }) (fun i => match i with | 0 => u34 | 1 => u35 | 2 => u36 | 3 => u37 | 4 => u38 | 5 => u39 | 6 => u40 | 7 => u41 | 8 => u42 | 9 => u43 | 10 => u44 | 11 => u45 | 12 => u46 | 13 => u47 | 14 => u48 | 16 => .slice P pre.length cp | _ => undef) W.heap.size 5
          (fun i x => match i with | 0 => x = .slice P pre.length cp | 1 => x = .pointer (some ⟨wr.heap.size, 2, none⟩) | 2 => x = .int .i64 xo | 5 => x = .pointer (some ⟨wr.heap.size, 0, none⟩) | 6 => x = .pointer (some ⟨wr.heap.size, 1, none⟩) | 7 => x = .int .i64 xn | 10 => x = .pointer (some ⟨wr.heap.size, 0, none⟩) | 11 => x = .pointer (some ⟨wr.heap.size, 0, none⟩) | 12 => x = .int .i64 xc | 16 => x = .slice P pre.length cp | _ => True)
          (fun i => match i with | 3 => some (Wi.by_ xo) | 4 => some (pre ++ Wi.by_ xo) | 8 => some (Wi.by_ xn) | 9 => some ((pre ++ Wi.by_ xo) ++ Wi.by_ xn) | 13 => some (Wi.by_ xc) | 14 => some (((pre ++ Wi.by_ xo) ++ Wi.by_ xn) ++ Wi.by_ xc) | 16 => some (pre) | _ => none)
          (fun i => match i with | 3 => 4 | 4 => 9 | 8 => 9 | 9 => 14 | 13 => 14 | 14 => 15 | 16 => 4 | _ => 0) ((Value.slice P pre.length cp).ownBlock) ?start ?step ?done
        case start =>
          refine RowsInv.start (m := 16) ?_ (fun i hi => ?_) (fun i hi hr => ?_) (fun r hr => ?_) (fun _ k hk => ?_)
          · first | exact Nat.le_refl _ | omega
          · match i, hi with
            | 16, _ => rfl
            | j + 17, _ => trivial
          · match i, hi, hr with
            | 16, _, _ => rfl
            | j + 17, _, hr => exact absurd rfl hr
          · cases hr
            exact HOW.out
          · exact hk
        case step =>
          intro i hi L v w' hI hun hd htl hex
          match i, hi with
          | 0, _ =>
            refine wpOp_one rfl ?_
            clear hd htl hex
            go_wp2
            first | exact ⟨_, (by simp [upd]; done), RowStep.still rfl rfl⟩ | exact ⟨(by simp [upd]; done), RowStep.still rfl rfl⟩
          | 1, _ =>
            refine wpOp_one rfl ?_
            clear hd htl hex
            go_wp2
            first | exact ⟨_, (by simp [upd]; done), RowStep.still rfl rfl⟩ | exact ⟨(by simp [upd]; done), RowStep.still rfl rfl⟩
          | 2, _ =>
            have l1 : L 1 = true := hd 1 (List.elem_iff.1 (by kernel_rfl))
            have h1 : v 1 = _ := hI.c 1 l1
            have q0 := hI.cell y2 (HNE.out 0)
            refine wpOp_one rfl ?_
            clear hd htl hex
            rw [h1]
            go_wp2
            first | exact ⟨_, (by simp [upd, h1]; done), RowStep.still rfl rfl⟩ | exact ⟨(by simp [upd, h1]; done), RowStep.still rfl rfl⟩
          | 3, _ =>
            have l2 : L 2 = true := hd 2 (List.elem_iff.1 (by kernel_rfl))
            have h2 : v 2 = _ := hI.c 2 l2
            refine wpOp_one rfl ?_
            clear hd htl hex
            rw [h2]
            go_wp2_with fail
            refine (by_any xo w' G3.out).mono ?_
            rintro e w'' ⟨x, rfl, ho, bb⟩
            have ST := Lib.hid (fun (Lx : Nat → Bool) (vx : Nat → Value) => RowStep.made (C := fun i x => match i with | 0 => x = .slice P pre.length cp | 1 => x = .pointer (some ⟨wr.heap.size, 2, none⟩) | 2 => x = .int .i64 xo | 5 => x = .pointer (some ⟨wr.heap.size, 0, none⟩) | 6 => x = .pointer (some ⟨wr.heap.size, 1, none⟩) | 7 => x = .int .i64 xn | 10 => x = .pointer (some ⟨wr.heap.size, 0, none⟩) | 11 => x = .pointer (some ⟨wr.heap.size, 0, none⟩) | 12 => x = .int .i64 xc | 16 => x = .slice P pre.length cp | _ => True) (row := fun i => match i with | 3 => some (Wi.by_ xo) | 4 => some (pre ++ Wi.by_ xo) | 8 => some (Wi.by_ xn) | 9 => some ((pre ++ Wi.by_ xo) ++ Wi.by_ xn) | 13 => some (Wi.by_ xc) | 14 => some (((pre ++ Wi.by_ xo) ++ Wi.by_ xn) ++ Wi.by_ xc) | 16 => some (pre) | _ => none) (cons := fun i => match i with | 3 => 4 | 4 => 9 | 8 => 9 | 9 => 14 | 13 => 14 | 14 => 15 | 16 => 4 | _ => 0) (i := 3) (L := Lx) (v := vx) trivial rfl bb hI.hbase ho)
            clear ho bb
            go_wp2
            exact ⟨_, (by simp [upd, h2]; done), ST.out _ _⟩
          | 4, _ =>
            have l0 : L 0 = true := hd 0 (List.elem_iff.1 (by kernel_rfl))
            have h0 : v 0 = _ := hI.c 0 l0
            have l3 : L 3 = true := hd 3 (List.elem_iff.1 (by kernel_rfl))
            have ld : L 16 = true := hex 16 (by simp)
            have hm : v 16 = _ := hI.c 16 ld
            have od := hI.own 16 _ ld hun rfl
            rw [hm] at od
            have os := hI.own 3 _ l3 hun rfl
            obtain ⟨Ax, cx, hs, hsl, hsc, hsn, hsi⟩ := own_form os
            refine wpOp_one rfl ?_
            have hbs := hI.hbase
            clear hd htl hex os
            rw [h0, hs]
            refine wpList_append_lies _ rfl _ _ 23 rfl W.heap.size 5 i0 (.int .u8 0) 1 1 Try.underlying23 hi0 hz0 hz1 hz2 rfl (by decide) _ (pre).length (bCells (pre)) rfl od Ax (Wi.by_ xo).length cx hsn (bCells (Wi.by_ xo)) rfl (by rw [bCells_length, Nat.mul_one]) hsi (bCells_one _) ?c3 ?c4 ?c5 ?_
            case c3 => (try simp only [List.length_append]); unfold maxLen; omega
            case c4 => (try simp only [List.length_append]); omega
            case c5 => exact hbs
            intro v2 w2 ho2 hg2 hx2
            rw [← bCells_append, ← List.length_append] at ho2
            have ST := Lib.hid (RowStep.grown (C := fun i x => match i with | 0 => x = .slice P pre.length cp | 1 => x = .pointer (some ⟨wr.heap.size, 2, none⟩) | 2 => x = .int .i64 xo | 5 => x = .pointer (some ⟨wr.heap.size, 0, none⟩) | 6 => x = .pointer (some ⟨wr.heap.size, 1, none⟩) | 7 => x = .int .i64 xn | 10 => x = .pointer (some ⟨wr.heap.size, 0, none⟩) | 11 => x = .pointer (some ⟨wr.heap.size, 0, none⟩) | 12 => x = .int .i64 xc | 16 => x = .slice P pre.length cp | _ => True) (row := fun i => match i with | 3 => some (Wi.by_ xo) | 4 => some (pre ++ Wi.by_ xo) | 8 => some (Wi.by_ xn) | 9 => some ((pre ++ Wi.by_ xo) ++ Wi.by_ xn) | 13 => some (Wi.by_ xc) | 14 => some (((pre ++ Wi.by_ xo) ++ Wi.by_ xn) ++ Wi.by_ xc) | 16 => some (pre) | _ => none) (cons := fun i => match i with | 3 => 4 | 4 => 9 | 8 => 9 | 9 => 14 | 13 => 14 | 14 => 15 | 16 => 4 | _ => 0) (i := 4) (d := 16) (L := L) (v := v) trivial rfl rfl (by simp) ld hm.symm hg2 ho2 hx2)
            clear ho2 hg2 hx2 od
            go_wp2
            exact ⟨_, (by simp [upd, Act.put, h0, hs]; done), ST.out⟩
          | 5, _ =>
            refine wpOp_one rfl ?_
            clear hd htl hex
            go_wp2
            first | exact ⟨_, (by simp [upd]; done), RowStep.still rfl rfl⟩ | exact ⟨(by simp [upd]; done), RowStep.still rfl rfl⟩
          | 6, _ =>
            have l5 : L 5 = true := hd 5 (List.elem_iff.1 (by kernel_rfl))
            have h5 : v 5 = _ := hI.c 5 l5
            refine wpOp_one rfl ?_
            clear hd htl hex
            rw [h5]
            go_wp2
            first | exact ⟨_, (by simp [upd, h5]; done), RowStep.still rfl rfl⟩ | exact ⟨(by simp [upd, h5]; done), RowStep.still rfl rfl⟩
          | 7, _ =>
            have l6 : L 6 = true := hd 6 (List.elem_iff.1 (by kernel_rfl))
            have h6 : v 6 = _ := hI.c 6 l6
            have q0 := hI.cell y1 (HNE.out 0)
            refine wpOp_one rfl ?_
            clear hd htl hex
            rw [h6]
            go_wp2
            first | exact ⟨_, (by simp [upd, h6]; done), RowStep.still rfl rfl⟩ | exact ⟨(by simp [upd, h6]; done), RowStep.still rfl rfl⟩
          | 8, _ =>
            have l7 : L 7 = true := hd 7 (List.elem_iff.1 (by kernel_rfl))
            have h7 : v 7 = _ := hI.c 7 l7
            refine wpOp_one rfl ?_
            clear hd htl hex
            rw [h7]
            go_wp2_with fail
            refine (by_any xn w' G2.out).mono ?_
            rintro e w'' ⟨x, rfl, ho, bb⟩
            have ST := Lib.hid (fun (Lx : Nat → Bool) (vx : Nat → Value) => RowStep.made (C := fun i x => match i with | 0 => x = .slice P pre.length cp | 1 => x = .pointer (some ⟨wr.heap.size, 2, none⟩) | 2 => x = .int .i64 xo | 5 => x = .pointer (some ⟨wr.heap.size, 0, none⟩) | 6 => x = .pointer (some ⟨wr.heap.size, 1, none⟩) | 7 => x = .int .i64 xn | 10 => x = .pointer (some ⟨wr.heap.size, 0, none⟩) | 11 => x = .pointer (some ⟨wr.heap.size, 0, none⟩) | 12 => x = .int .i64 xc | 16 => x = .slice P pre.length cp | _ => True) (row := fun i => match i with | 3 => some (Wi.by_ xo) | 4 => some (pre ++ Wi.by_ xo) | 8 => some (Wi.by_ xn) | 9 => some ((pre ++ Wi.by_ xo) ++ Wi.by_ xn) | 13 => some (Wi.by_ xc) | 14 => some (((pre ++ Wi.by_ xo) ++ Wi.by_ xn) ++ Wi.by_ xc) | 16 => some (pre) | _ => none) (cons := fun i => match i with | 3 => 4 | 4 => 9 | 8 => 9 | 9 => 14 | 13 => 14 | 14 => 15 | 16 => 4 | _ => 0) (i := 8) (L := Lx) (v := vx) trivial rfl bb hI.hbase ho)
            clear ho bb
            go_wp2
            exact ⟨_, (by simp [upd, h7]; done), ST.out _ _⟩
          | 9, _ =>
            have l4 : L 4 = true := hd 4 (List.elem_iff.1 (by kernel_rfl))
            have l8 : L 8 = true := hd 8 (List.elem_iff.1 (by kernel_rfl))
            have ld : L 4 = true := l4
            have od := hI.own 4 _ ld hun rfl
            have os := hI.own 8 _ l8 hun rfl
            obtain ⟨Ax, cx, hs, hsl, hsc, hsn, hsi⟩ := own_form os
            refine wpOp_one rfl ?_
            have hbs := hI.hbase
            clear hd htl hex os
            rw [hs]
            refine wpList_append_lies _ rfl _ _ 23 rfl W.heap.size 5 i0 (.int .u8 0) 1 1 Try.underlying23 hi0 hz0 hz1 hz2 rfl (by decide) _ (pre ++ Wi.by_ xo).length (bCells (pre ++ Wi.by_ xo)) rfl od Ax (Wi.by_ xn).length cx hsn (bCells (Wi.by_ xn)) rfl (by rw [bCells_length, Nat.mul_one]) hsi (bCells_one _) ?c3 ?c4 ?c5 ?_
            case c3 => (try simp only [List.length_append]); unfold maxLen; omega
            case c4 => (try simp only [List.length_append]); omega
            case c5 => exact hbs
            intro v2 w2 ho2 hg2 hx2
            rw [← bCells_append, ← List.length_append] at ho2
            have ST := Lib.hid (RowStep.grown (C := fun i x => match i with | 0 => x = .slice P pre.length cp | 1 => x = .pointer (some ⟨wr.heap.size, 2, none⟩) | 2 => x = .int .i64 xo | 5 => x = .pointer (some ⟨wr.heap.size, 0, none⟩) | 6 => x = .pointer (some ⟨wr.heap.size, 1, none⟩) | 7 => x = .int .i64 xn | 10 => x = .pointer (some ⟨wr.heap.size, 0, none⟩) | 11 => x = .pointer (some ⟨wr.heap.size, 0, none⟩) | 12 => x = .int .i64 xc | 16 => x = .slice P pre.length cp | _ => True) (row := fun i => match i with | 3 => some (Wi.by_ xo) | 4 => some (pre ++ Wi.by_ xo) | 8 => some (Wi.by_ xn) | 9 => some ((pre ++ Wi.by_ xo) ++ Wi.by_ xn) | 13 => some (Wi.by_ xc) | 14 => some (((pre ++ Wi.by_ xo) ++ Wi.by_ xn) ++ Wi.by_ xc) | 16 => some (pre) | _ => none) (cons := fun i => match i with | 3 => 4 | 4 => 9 | 8 => 9 | 9 => 14 | 13 => 14 | 14 => 15 | 16 => 4 | _ => 0) (i := 9) (d := 4) (L := L) (v := v) trivial rfl rfl (by simp) ld rfl hg2 ho2 hx2)
            clear ho2 hg2 hx2 od
            go_wp2
            exact ⟨_, (by simp [upd, Act.put, hs]; done), ST.out⟩
          | 10, _ =>
            refine wpOp_one rfl ?_
            clear hd htl hex
            go_wp2
            first | exact ⟨_, (by simp [upd]; done), RowStep.still rfl rfl⟩ | exact ⟨(by simp [upd]; done), RowStep.still rfl rfl⟩
          | 11, _ =>
            have l10 : L 10 = true := hd 10 (List.elem_iff.1 (by kernel_rfl))
            have h10 : v 10 = _ := hI.c 10 l10
            refine wpOp_one rfl ?_
            clear hd htl hex
            rw [h10]
            go_wp2
            first | exact ⟨_, (by simp [upd, h10]; done), RowStep.still rfl rfl⟩ | exact ⟨(by simp [upd, h10]; done), RowStep.still rfl rfl⟩
          | 12, _ =>
            have l11 : L 11 = true := hd 11 (List.elem_iff.1 (by kernel_rfl))
            have h11 : v 11 = _ := hI.c 11 l11
            have q0 := hI.cell y0 (HNE.out 0)
            refine wpOp_one rfl ?_
            clear hd htl hex
            rw [h11]
            go_wp2
            first | exact ⟨_, (by simp [upd, h11]; done), RowStep.still rfl rfl⟩ | exact ⟨(by simp [upd, h11]; done), RowStep.still rfl rfl⟩
          | 13, _ =>
            have l12 : L 12 = true := hd 12 (List.elem_iff.1 (by kernel_rfl))
            have h12 : v 12 = _ := hI.c 12 l12
            refine wpOp_one rfl ?_
            clear hd htl hex
            rw [h12]
            go_wp2_with fail
            refine (by_any xc w' G1.out).mono ?_
            rintro e w'' ⟨x, rfl, ho, bb⟩
            have ST := Lib.hid (fun (Lx : Nat → Bool) (vx : Nat → Value) => RowStep.made (C := fun i x => match i with | 0 => x = .slice P pre.length cp | 1 => x = .pointer (some ⟨wr.heap.size, 2, none⟩) | 2 => x = .int .i64 xo | 5 => x = .pointer (some ⟨wr.heap.size, 0, none⟩) | 6 => x = .pointer (some ⟨wr.heap.size, 1, none⟩) | 7 => x = .int .i64 xn | 10 => x = .pointer (some ⟨wr.heap.size, 0, none⟩) | 11 => x = .pointer (some ⟨wr.heap.size, 0, none⟩) | 12 => x = .int .i64 xc | 16 => x = .slice P pre.length cp | _ => True) (row := fun i => match i with | 3 => some (Wi.by_ xo) | 4 => some (pre ++ Wi.by_ xo) | 8 => some (Wi.by_ xn) | 9 => some ((pre ++ Wi.by_ xo) ++ Wi.by_ xn) | 13 => some (Wi.by_ xc) | 14 => some (((pre ++ Wi.by_ xo) ++ Wi.by_ xn) ++ Wi.by_ xc) | 16 => some (pre) | _ => none) (cons := fun i => match i with | 3 => 4 | 4 => 9 | 8 => 9 | 9 => 14 | 13 => 14 | 14 => 15 | 16 => 4 | _ => 0) (i := 13) (L := Lx) (v := vx) trivial rfl bb hI.hbase ho)
            clear ho bb
            go_wp2
            exact ⟨_, (by simp [upd, h12]; done), ST.out _ _⟩
          | 14, _ =>
            have l9 : L 9 = true := hd 9 (List.elem_iff.1 (by kernel_rfl))
            have l13 : L 13 = true := hd 13 (List.elem_iff.1 (by kernel_rfl))
            have ld : L 9 = true := l9
            have od := hI.own 9 _ ld hun rfl
            have os := hI.own 13 _ l13 hun rfl
            obtain ⟨Ax, cx, hs, hsl, hsc, hsn, hsi⟩ := own_form os
            refine wpOp_one rfl ?_
            have hbs := hI.hbase
            clear hd htl hex os
            rw [hs]
            refine wpList_append_lies _ rfl _ _ 23 rfl W.heap.size 5 i0 (.int .u8 0) 1 1 Try.underlying23 hi0 hz0 hz1 hz2 rfl (by decide) _ ((pre ++ Wi.by_ xo) ++ Wi.by_ xn).length (bCells ((pre ++ Wi.by_ xo) ++ Wi.by_ xn)) rfl od Ax (Wi.by_ xc).length cx hsn (bCells (Wi.by_ xc)) rfl (by rw [bCells_length, Nat.mul_one]) hsi (bCells_one _) ?c3 ?c4 ?c5 ?_
            case c3 => (try simp only [List.length_append]); unfold maxLen; omega
            case c4 => (try simp only [List.length_append]); omega
            case c5 => exact hbs
            intro v2 w2 ho2 hg2 hx2
            rw [← bCells_append, ← List.length_append] at ho2
            have ST := Lib.hid (RowStep.grown (C := fun i x => match i with | 0 => x = .slice P pre.length cp | 1 => x = .pointer (some ⟨wr.heap.size, 2, none⟩) | 2 => x = .int .i64 xo | 5 => x = .pointer (some ⟨wr.heap.size, 0, none⟩) | 6 => x = .pointer (some ⟨wr.heap.size, 1, none⟩) | 7 => x = .int .i64 xn | 10 => x = .pointer (some ⟨wr.heap.size, 0, none⟩) | 11 => x = .pointer (some ⟨wr.heap.size, 0, none⟩) | 12 => x = .int .i64 xc | 16 => x = .slice P pre.length cp | _ => True) (row := fun i => match i with | 3 => some (Wi.by_ xo) | 4 => some (pre ++ Wi.by_ xo) | 8 => some (Wi.by_ xn) | 9 => some ((pre ++ Wi.by_ xo) ++ Wi.by_ xn) | 13 => some (Wi.by_ xc) | 14 => some (((pre ++ Wi.by_ xo) ++ Wi.by_ xn) ++ Wi.by_ xc) | 16 => some (pre) | _ => none) (cons := fun i => match i with | 3 => 4 | 4 => 9 | 8 => 9 | 9 => 14 | 13 => 14 | 14 => 15 | 16 => 4 | _ => 0) (i := 14) (d := 9) (L := L) (v := v) trivial rfl rfl (by simp) ld rfl hg2 ho2 hx2)
            clear ho2 hg2 hx2 od
            go_wp2
            exact ⟨_, (by simp [upd, Act.put, hs]; done), ST.out⟩
          | k + 15, hk => exact absurd hk (by omega)

        case done =>
          intro L v w6 hI hall htl6 hex
          have o14 := hI.own 14 _ (hall 14 (by omega)) (htl6 15 (by omega) (by simp)) rfl
          have b6 := BL2.out.trans hI.rel
          have f14 := hI.far 14 (hall 14 (by omega)) (htl6 15 (by omega) (by simp)) (by simp)
          have z3 := hI.cell (KB2.out.cell (i := 3) rfl) (HNE.out 0)
          have hbz := hI.hbase
          have O14 := Lib.hid o14; have B6 := Lib.hid b6
          clear o14 b6 hI hall htl6 hex y0 y1 y2 f14
          cases xg with
          | true =>
            go_wp2_with (at_builtin; refine wpList_append_lies _ rfl _ _ 23 rfl W.heap.size 5 i0 (.int .u8 0) 1 1 Try.underlying23 hi0 hz0 hz1 hz2 rfl (by decide) _ (((pre ++ Wi.by_ xo) ++ Wi.by_ xn) ++ Wi.by_ xc).length (bCells (((pre ++ Wi.by_ xo) ++ Wi.by_ xn) ++ Wi.by_ xc)) rfl (O14.out.alloc _) (some ⟨w6.heap.size, 0, none⟩) 1 1 (fun h => by cases h) (bCells [1]) rfl rfl ?c1 (bCells_one _) ?c3 ?c4 ?c5 ?_)
            case c1 =>
              intro _
              refine ⟨w6.heap.size, 0, rfl, fun j u hu => ?_⟩
              rw [Nat.zero_add]
              exact (Blk.new w6 5 #[.int .u8 1]).cell (by simpa [bCells] using hu)
            case c3 => (try simp only [List.length_append]); unfold maxLen; omega
            case c4 => (try simp only [List.length_append]); omega
            case c5 => first | omega | (simp; omega)
            intro v7 w7 ho7 hg7 _
            have b7 := (B6.out.alloc hbz _).grown hg7 (by simp; omega) (fun k' hk' => own_ge O14.out k' hk')
            have ho8 : w7.ownsRow W.heap.size 5 1 v7 (hd0 ++ (nw.take (k + 1)).flatMap Wi.ewr).length (bCells (hd0 ++ (nw.take (k + 1)).flatMap Wi.ewr)) := by
              refine own_cast ho7 ?_ ?_
              · rw [HNEW.out]; simp only [List.length_append, List.length_singleton]; omega
              · rw [HNEW.out, ← bCells_append]; simp
            have HO8 := Lib.hid ho8; have B7 := Lib.hid b7
            clear ho7 ho8 hg7 b7
            go_wp2_with fail
            go_roundw
            case rel => exact ⟨k + 1, by omega, by first | rfl | (congr 1; omega), HO8.out, B7.out⟩
            case measure => simp [intOf]; omega
          | false =>
            go_wp2_with (at_builtin; refine wpList_append_lies _ rfl _ _ 23 rfl W.heap.size 5 i0 (.int .u8 0) 1 1 Try.underlying23 hi0 hz0 hz1 hz2 rfl (by decide) _ (((pre ++ Wi.by_ xo) ++ Wi.by_ xn) ++ Wi.by_ xc).length (bCells (((pre ++ Wi.by_ xo) ++ Wi.by_ xn) ++ Wi.by_ xc)) rfl (O14.out.alloc _) (some ⟨w6.heap.size, 0, none⟩) 1 1 (fun h => by cases h) (bCells [0]) rfl rfl ?c1 (bCells_one _) ?c3 ?c4 ?c5 ?_)
            case c1 =>
              intro _
              refine ⟨w6.heap.size, 0, rfl, fun j u hu => ?_⟩
              rw [Nat.zero_add]
              exact (Blk.new w6 5 #[.int .u8 0]).cell (by simpa [bCells] using hu)
            case c3 => (try simp only [List.length_append]); unfold maxLen; omega
            case c4 => (try simp only [List.length_append]); omega
            case c5 => first | omega | (simp; omega)
            intro v7 w7 ho7 hg7 _
            have b7 := (B6.out.alloc hbz _).grown hg7 (by simp; omega) (fun k' hk' => own_ge O14.out k' hk')
            have ho8 : w7.ownsRow W.heap.size 5 1 v7 (hd0 ++ (nw.take (k + 1)).flatMap Wi.ewr).length (bCells (hd0 ++ (nw.take (k + 1)).flatMap Wi.ewr)) := by
              refine own_cast ho7 ?_ ?_
              · rw [HNEW.out]; simp only [List.length_append, List.length_singleton]; omega
              · rw [HNEW.out, ← bCells_append]; simp
            have HO8 := Lib.hid ho8; have B7 := Lib.hid b7
            clear ho7 ho8 hg7 b7
            go_wp2_with fail
            go_roundw
            case rel => exact ⟨k + 1, by omega, by first | rfl | (congr 1; omega), HO8.out, B7.out⟩
            case measure => simp [intOf]; omega
      · obtain rfl : k = nw.length := by omega
        have hd : decide ((nw.length : Int) < (nw.length : Int)) = false := decide_eq_false (by omega)
        rw [List.take_of_length_le (Nat.le_refl _)] at hown
        have HOW := Lib.hid (own_base hown (show w.heap.size ≤ W.heap.size by omega)); have BW := Lib.hid (LW.out wr hbw); clear hown
        go_wp2
        go_ret
        exact ⟨_, rfl, (by rw [HHD.out]; exact HOW.out), BW.out⟩

end Go.Proofs.Ytbbmngabbbehcaa
