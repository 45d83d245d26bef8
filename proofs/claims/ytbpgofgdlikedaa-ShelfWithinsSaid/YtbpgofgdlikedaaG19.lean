/-
  What slices.Clone answers at a list of writes.
  What shelf's All answers: a function over the writes of a shelf.
  What shelf's functions answer, as they have landed: all that is asked of them.
  The laws ShelfGets and ShelfWithins over the contracts of shelf's functions.
-/
import Derived.Test.YtbpgofgdlikedaaG04
import Derived.Test.YtbpgofgdlikedaaG08
import Derived.Lib.SliceRun
import Derived.Test.YtbpgofgdlikedaaG12
import Derived.Test.YtbpgofgdlikedaaG17
import Derived.Test.YtbpgofgdlikedaaG16
import Derived.Test.YtbpgofgdlikedaaG18
import Derived.Test.YtbpgofgdlikedaaG11
import Derived.Test.YtbpgofgdlikedaaG14
import Derived.Test.YtbpgofgdlikedaaG09
namespace Go.Proofs.Ytbpgofgdlikedaa
open Go.RowKit

/-- A list of writes is answered, in memory of the call's own; what was there before is as it was. -/
def GivesW (l : List Wr) (w : World) (e : Ending) (w' : World) : Prop :=
  ∃ v, e = .returned v ∧ w'.ownsRow w.heap.size 27 4 v l.length (Nt.wrCells l) ∧ Below w.heap.size w w'
/-- The same, wherever it lies. -/
def AnsW (l : List Wr) (w : World) (e : Ending) (w' : World) : Prop := ∃ A c, e = .returned (.slice A l.length c) ∧ OneW w' A c l ∧ Below w.heap.size w w'
theorem GivesW.one {l : List Wr} {w w' : World} {e : Ending} (h : GivesW l w e w') : AnsW l w e w' := by
  obtain ⟨v, rfl, ho, hb⟩ := h
  obtain ⟨A, c, rfl, h1⟩ := OneW.of_own ho
  exact ⟨A, c, rfl, h1, hb⟩

set_option maxHeartbeats 1600000 in
theorem cloneW_any (A : Option Addr) (c : Nat) (l : List Wr) (w : World) (hl : l.length * 32 ≤ 140737488355328) (h : OneW w A c l) :
    Calls Try.prog 30 #[.slice A l.length c] w (GivesW l w) := by
  obtain ⟨i0, hI, hz0, hz1, hz2⟩ := info_parts infoWr
  cases A with
  | none =>
    obtain ⟨h1, h2⟩ := h.2.2.1 rfl
    have hl0 : l = [] := List.eq_nil_of_length_eq_zero h1
    subst hl0
    subst h2
    clear h
    have hq := Lib.run_eql_slice_nil (P := Try.prog) w 22 27 none 0 0 0 0 Try.underlying22
    go_enter Try.func30, Try.ntmps30
    go_wp2
    go_ret
    exact ⟨_, rfl, ⟨rfl, .inl ⟨rfl, rfl⟩⟩, Below.refl _ _⟩
  | some a =>
    have hq := Lib.run_eql_slice_nil (P := Try.prog) w 22 27 (some a) l.length c 0 0 Try.underlying22
    have HL := Lib.hid (h.2.2.2.alloc (.cells #[] 27))
    have HB := Lib.hid (Blk.new w 27 #[])
    have b0 := below_new (Below.refl w.heap.size w) (.cells #[] 27)
    have hlen := h.len
    clear h
    go_enter Try.func30, Try.ntmps30
    go_wp2_with (at_builtin; refine wpList_append_fresh _ rfl _ _ 22 rfl w.heap.size w.heap.size 27 i0 (.agg #[.int .i64 0, .int .i64 0, .int .i64 0, .bool false]) 4 32 Try.underlying22 hI hz0 hz1 hz2 rfl (by decide) rfl HB.out (Nat.le_refl _) (some a) l.length c (fun h => by cases h) (Nt.wrCells l) rfl (Nt.wrCells_length l) HL.out (Nt.wrCells_one l) (by unfold maxLen; omega) hl ?_)
    intro v' w' ho hb
    have HO := Lib.hid ho
    clear ho
    go_wp2
    go_ret
    exact ⟨v', rfl, HO.out, below_on b0 (by rw [show (w.alloc (.cells #[] 27)).heap.size = w.heap.size + 1 from by simp]; exact hb)⟩

end Go.Proofs.Ytbpgofgdlikedaa
namespace Go.Proofs.Ytbpgofgdlikedaa
open Go.RowKit Go.Shelf

/-- What a loop may keep, it may keep the more. -/
theorem SeqStopsK.keeps {α : Type} {F : Fence} {n : Nat} {P : Program} {g : Nat} {lb : Array Value} {encs : α → Array Value} {Kp Kp' : World → World → Prop} {S Sp : List α → Prop} {N : Nat} {w : World}
    (h : SeqStopsK F n P g lb encs Kp S Sp N w) (hK : ∀ W W', Kp' W W' → Kp W W') : SeqStopsK F n P g lb encs Kp' S Sp N w :=
  fun l J Jx W hW hJ hJx hY h0 => h l J Jx W hW hJ hJx (fun pre x W1 hj hl => (hY pre x W1 hj hl).mono fun _ _ he => he.elim (fun q => .inl ⟨q.1, q.2.1, hK _ _ q.2.2⟩) .inr) h0
/-- What All tells: a shelf, or nothing. -/
def Sf.tell (l : List Wr) : List Wr := if Sf.fmd l = true then l else []
/-- What is asked of All. -/
def ShelfAllSpec : Prop := ∀ (A : Option Addr) (c : Nat) (l : List Wr) (w0 w : World), OneW w0 A c l → Below w0.heap.size w0 w →
  Calls Try.prog 18 #[.slice A l.length c] w fun e w1 => ∃ gf lb, e = .returned (.func (.func gf) #[] lb) ∧ Below w.heap.size w w1 ∧ (∀ args w, (callFunc gf args).run Try.prog w = .ok (.enter gf args) w) ∧
    SeqStopsK Fence.wide 2 Try.prog gf lb toldW (KeepC w0.heap.size w.heap.size) (· = Sf.tell l) (· <+: Sf.tell l) (Sf.tell l).length w1

theorem KeepC.far {n B : Nat} {A : Option Addr} {c : Nat} {l : List Wr} (hA : ∀ b off, l ≠ [] → A = some ⟨b, off, none⟩ → B ≤ b) {W W' : World} (h : KeepC n B W W') : KeepL A c l W W' := fun h1 =>
  ⟨h1.1, h1.2.1, h1.2.2.1, fun hne => by
    obtain ⟨b, off, e, hc⟩ := h1.2.2.2 hne
    exact ⟨b, off, e, fun j u hu => h.cell (hc j u hu) (.inr (hA b off (fun e => hne (Nt.wrCells_nil.2 e)) e))⟩⟩

set_option maxRecDepth 100000 in
set_option maxHeartbeats 3200000 in
theorem shelfAllSpec : ShelfAllSpec := by
  unfold ShelfAllSpec
  intro A c l w0 w h hb
  have N1 := Lib.hid (sdformed_any A c l w (h.later hb))
  have HL := Lib.hid h
  have HB := Lib.hid hb
  unfold Sf.tell
  have fin : ∀ (A' : Option Addr) (c' bl : Nat) (L : List Wr) (w1 : World), OneW w1 A' c' L → (∀ b off, L ≠ [] → A' = some ⟨b, off, none⟩ → w.heap.size ≤ b) → w1.cell? ⟨bl, 0, none⟩ = some (.slice A' L.length c') → SeqStopsK Fence.wide 2 Try.prog 31 #[.pointer (some ⟨bl, 0, none⟩)] toldW (KeepC w0.heap.size w.heap.size) (· = L) (· <+: L) L.length w1 :=
    fun A' c' bl L w1 h1 h2 h3 => SeqStopsK.keeps (eachW_stops id L L (List.map_id L) 2 (by omega) bl c' A' w1 h1 h3) fun W W' hk => KeepC.far h2 hk
  have FIN := Lib.hid fin
  clear h hb fin
  cases hf : Sf.fmd l with
  | false =>
    rw [hf] at N1
    rw [if_neg Bool.false_ne_true]
    clear hf
    go_enter Try.func18, Try.ntmps18
    go_wp2_with fail
    refine N1.out.mono ?_
    rintro e w1 ⟨rfl, b1⟩
    have NE := Lib.hid (show Calls Try.prog 20 #[.slice none 0 0] w1 (WalkerW none 0 [] w1) from each_any none 0 [] w1)
    have B1 := Lib.hid b1
    clear N1 b1
    go_wp2_with fail
    refine NE.out.mono ?_
    rintro e w2 ⟨bl, rfl, hbl, b2⟩
    have BB := Lib.hid (below_on B1.out b2)
    have HC := Lib.hid hbl
    clear NE b2 hbl
    go_wp2
    go_ret
    exact ⟨_, _, rfl, BB.out, enters_eachW, FIN.out none 0 bl [] w2 OneW.nil (fun _ _ h => absurd rfl h) HC.out⟩
  | true =>
    rw [hf] at N1
    rw [if_pos rfl]
    have hl := Sf.fmd_len hf
    clear hf
    go_enter Try.func18, Try.ntmps18
    go_wp2_with fail
    refine N1.out.mono ?_
    rintro e w1 ⟨rfl, b1⟩
    have NC := Lib.hid (cloneW_any A c l w1 (by omega) (HL.out.later (below_on HB.out b1)))
    have B1 := Lib.hid b1
    clear N1 b1
    go_wp2_with fail
    refine NC.out.mono ?_
    rintro e w2 ⟨v, rfl, ho, b2⟩
    have hfar : ∀ b off c', l ≠ [] → v = .slice (some ⟨b, off, none⟩) l.length c' → w.heap.size ≤ b := fun b off c' hne e => by
      obtain ⟨g, cap, hv⟩ := own_len ho (List.length_pos_iff.2 hne)
      rw [hv] at e
      injection e with e
      injection e with e
      injection e with e
      have := own_ge ho g (by rw [hv]; rfl)
      have := B1.out.size
      omega
    obtain ⟨VA, vc, rfl, hO⟩ := OneW.of_own ho
    have HO := Lib.hid hO
    have HF := Lib.hid hfar
    have B2 := Lib.hid (below_on B1.out b2)
    have NE := Lib.hid (each_any VA vc l w2)
    clear NC ho hO hfar b2 B1
    go_wp2_with fail
    refine NE.out.mono ?_
    rintro e w3 ⟨bl, rfl, hbl, b3⟩
    have BB := Lib.hid (below_on B2.out b3)
    have HC := Lib.hid hbl
    have H3 := Lib.hid (HO.out.later b3)
    clear NE b3 hbl HO B2
    go_wp2
    go_ret
    exact ⟨_, _, rfl, BB.out, enters_eachW, FIN.out VA vc bl l w3 H3.out (fun b off hne e => HF.out b off vc hne (by rw [e])) HC.out⟩
end Go.Proofs.Ytbpgofgdlikedaa
namespace Go.Proofs.Ytbpgofgdlikedaa
open Go.RowKit

theorem shelfSpec : ShelfSpec where
  formed := sdformed_any
  get := sdget_any
  put := fun A B c d l r w _ h1 h2 => sdputs_any A B c d l r w h1 h2
  within := sdwithin_any
end Go.Proofs.Ytbpgofgdlikedaa
namespace Go.Proofs.Ytbpgofgdlikedaa
open Go.RowKit

set_option maxRecDepth 100000 in
set_option maxHeartbeats 6400000 in
theorem lawSfWithins_any (SS : ShelfSpec) (A B : Option Addr) (c d : Nat) (l : List Wr) (s : List (Int × Int)) (w : World) (h : OneW w A c l) (hs : OneL w B d s) :
    Calls Try.prog 5 #[.slice A l.length c, .slice B s.length d] w (Says (.bool true) w) := by
  have n0 := sfalive_any SS w
  have n1 := fun wx (hb : Below w.heap.size w wx) => SS.within A B c d l s wx (h.later hb) (hs.later hb)
  have n2 := fun wx (hb : Below w.heap.size w wx) => fwithin_any A B c d l s wx (h.later hb) (hs.later hb)
  obtain ⟨⟨M, x⟩, hM⟩ : ∃ q, Sf.withR l s = q := ⟨_, rfl⟩
  rw [hM] at n1 n2
  dsimp only at n1 n2
  have N0 := Lib.hid n0
  have N1 := Lib.hid n1
  have N2 := Lib.hid n2
  clear n0 n1 n2 hM h hs
  go_enter Try.func5, Try.ntmps5
  go_wp2_with fail
  refine N0.out.mono ?_
  rintro e w1 ⟨rfl, b1⟩
  go_wp2_with fail
  refine (N1.out _ b1).mono ?_
  intro e w2 hq
  obtain ⟨A2, c2, rfl, hO2, b2⟩ := hq
  have bb2 := below_on b1 b2
  have O2 := Lib.hid hO2
  clear hO2
  go_wp2_with fail
  refine (N2.out _ bb2).mono ?_
  intro e w3 hq
  obtain ⟨A3, c3, rfl, hO3, b3⟩ := hq
  have bb3 := below_on bb2 b3
  have n3 := nwrites_any A2 A3 c2 c3 M M w3 (O2.out.later b3) hO3
  rw [decide_eq_true rfl] at n3
  have N3 := Lib.hid n3
  have BB3 := Lib.hid bb3
  clear n3 hO3 N0 N1 N2 O2 b1 b2 b3 bb2 bb3
  go_wp2_with fail
  refine N3.out.mono ?_
  rintro e w4 ⟨rfl, b4⟩
  go_wp2
  go_ret
  exact ⟨by first | rfl | simp, below_on BB3.out b4⟩

set_option maxRecDepth 100000 in
set_option maxHeartbeats 6400000 in
theorem lawSfGets_any (SS : ShelfSpec) (A : Option Addr) (c : Nat) (l : List Wr) (o : Int) (w : World) (h : OneW w A c l) :
    Calls Try.prog 3 #[.slice A l.length c, .int .i64 o] w (Says (.bool true) w) := by
  have n0 := sfalive_any SS w
  have n1 := fun wx (hb : Below w.heap.size w wx) => SS.get A c l o wx (h.later hb)
  have n2 := fun wx (hb : Below w.heap.size w wx) => fget_any A c l o wx (h.later hb)
  have n3 := fun wx (hb : Below w.heap.size w wx) => SS.formed A c l wx (h.later hb)
  have n4 := fun wx (hb : Below w.heap.size w wx) => fformed_any A c l wx (h.later hb)
  obtain ⟨⟨p, x⟩, hM⟩ : ∃ q, Sf.getR l o = q := ⟨_, rfl⟩
  obtain ⟨q, hq⟩ : ∃ q, Sf.fmd l = q := ⟨_, rfl⟩
  rw [hM] at n1 n2
  rw [hq] at n3 n4
  have N0 := Lib.hid n0
  have N1 := Lib.hid (fun wx hb => (show Calls Try.prog 9 #[.slice A l.length c, .int .i64 o] wx (Says (.tuple #[.agg #[.int .i64 p.1, .int .i64 p.2.1, .int .i64 p.2.2.1, .bool p.2.2.2], .int .i64 x]) wx) from n1 wx hb))
  have N2 := Lib.hid (fun wx hb => (show Calls Try.prog 10 #[.slice A l.length c, .int .i64 o] wx (Says (.tuple #[.agg #[.int .i64 p.1, .int .i64 p.2.1, .int .i64 p.2.2.1, .bool p.2.2.2], .int .i64 x]) wx) from n2 wx hb))
  have N3 := Lib.hid n3
  have N4 := Lib.hid n4
  clear n0 n1 n2 n3 n4 hM hq h
  go_enter Try.func3, Try.ntmps3
  go_wp2_with fail
  refine N0.out.mono ?_
  rintro e w1 ⟨rfl, b1⟩
  go_wp2_with fail
  refine (N1.out _ b1).mono ?_
  rintro e w2 ⟨rfl, b2⟩
  have b2' := below_new b2 (.cells #[.int .i64 p.1, .int .i64 p.2.1, .int .i64 p.2.2.1, .bool p.2.2.2] 27)
  have bb2 := below_on b1 b2'
  have C2 := Blk.new w2 27 #[.int .i64 p.1, .int .i64 p.2.1, .int .i64 p.2.2.1, .bool p.2.2.2]
  have HC2 := Lib.hid C2
  clear C2 b2 b2'
  go_wp2_with fail
  refine (N2.out _ bb2).mono ?_
  rintro e w3 ⟨rfl, b3⟩
  have b3' := below_new b3 (.cells #[.int .i64 p.1, .int .i64 p.2.1, .int .i64 p.2.2.1, .bool p.2.2.2] 27)
  have bb3 := below_on bb2 b3'
  have C2 := HC2.out.later b3'
  have C3 := Blk.new w3 27 #[.int .i64 p.1, .int .i64 p.2.1, .int .i64 p.2.2.1, .bool p.2.2.2]
  have e0 := C2.cell (i := 0) rfl
  have e1 := C2.cell (i := 1) rfl
  have e2 := C2.cell (i := 2) rfl
  have e3 := C2.cell (i := 3) rfl
  have f0 := C3.cell (i := 0) rfl
  have f1 := C3.cell (i := 1) rfl
  have f2 := C3.cell (i := 2) rfl
  have f3 := C3.cell (i := 3) rfl
  have N3' := Lib.hid (N3.out _ bb3)
  have BB3 := Lib.hid bb3
  clear C2 C3 HC2 b3 b3' bb3 bb2 b1 N0 N1 N2
  go_wp2_with fail
  refine N3'.out.mono ?_
  rintro e w4 ⟨rfl, b4⟩
  have bb4 := below_on BB3.out b4
  go_wp2_with fail
  refine (N4.out _ bb4).mono ?_
  rintro e w5 ⟨rfl, b5⟩
  go_wp2
  go_ret
  exact ⟨by first | rfl | simp, below_on bb4 b5⟩
end Go.Proofs.Ytbpgofgdlikedaa
