/-
  The law ShelfPuts over the contracts of shelf's functions.
  The law ShelfNewest over the contracts of shelf's functions.
  What a bound on the bulk of all that is read gives: how long each slice is.
  For any two lists of writes and any number, the law ShelfNewest returns true and leaves its arguments as they were. One condition: the arguments together hold at most 1048576 values (the second form).
-/
import Derived.Test.YtbpgofgdlikedaaG19
import Derived.Test.YtbpgofgdlikedaaRows
import Derived.Test.YtbpgofgdlikedaaG09
import Derived.Test.YtbpgofgdlikedaaG01
import Derived.JoinedCond
import Derived.OpenShut
import Derived.WalkKit
import Derived.ProofKit
import Derived.SizedLaws
namespace Go.Proofs.Ytbpgofgdlikedaa
open Go.RowKit

set_option maxRecDepth 100000 in
set_option maxHeartbeats 12800000 in
theorem lawSfPuts_any (SS : ShelfSpec) (A B : Option Addr) (c d : Nat) (l r : List Wr) (w : World) (h : OneW w A c l) (h2 : OneW w B d r) (hl : l.length * 32 ≤ 140737488355328) (hr : r.length * 32 ≤ 140737488355328) :
    Calls Try.prog 4 #[.slice A l.length c, .slice B r.length d] w (Says (.bool true) w) := by
  obtain ⟨i0, hI, hz0, hz1, hz2⟩ := info_parts infoWr
  have N0 := Lib.hid (sfalive_any SS w)
  have N1 := Lib.hid (fun A1 B1 c1 d1 wx (h1 : OneW wx A1 c1 l) (h2 : OneW wx B1 d1 r) => SS.put A1 B1 c1 d1 l r wx hr h1 h2)
  have N2 := Lib.hid (fun wx (h1 : OneW wx A c l) (h2 : OneW wx B d r) => fput_any A B c d l r wx h1 h2)
  have HL := Lib.hid h
  have HR := Lib.hid h2
  clear h h2
  go_enter Try.func4, Try.ntmps4
  go_wp2_with fail
  refine N0.out.mono ?_
  rintro e w1 ⟨rfl, b1⟩
  have b1' := below_new b1 (.cells #[] 27)
  have hg := Blk.new w1 27 #[]
  have hgb := b1.size
  have HV := HL.out.later b1'
  go_wp2_with (at_builtin; refine wpList_append_fresh _ rfl _ _ 22 rfl w.heap.size w1.heap.size 27 i0 (.agg #[.int .i64 0, .int .i64 0, .int .i64 0, .bool false]) 4 32 Try.underlying22 hI hz0 hz1 hz2 rfl (by decide) rfl hg hgb A l.length c HV.2.2.1 (Nt.wrCells l) rfl (Nt.wrCells_length l) HV.2.2.2 (Nt.wrCells_one l) ?c3 ?c4 ?_)
  case c3 => have := HV.1; have := HV.2.1; omega
  case c4 => exact hl
  intro v2 w2 hown2 b2
  replace b2 : Below (w1.alloc (.cells #[] 27)).heap.size (w1.alloc (.cells #[] 27)) w2 := by simpa using b2
  have bb2 := below_on b1' b2
  obtain ⟨A2, c2, rfl, ho2⟩ := OneW.of_own hown2
  have O2 := Lib.hid ho2
  clear hown2 ho2 HV hg b1' b1 b2
  have b2' := below_new bb2 (.cells #[] 27)
  have hg := Blk.new w2 27 #[]
  have hgb := bb2.size
  have HV := HR.out.later b2'
  go_wp2_with (at_builtin; refine wpList_append_fresh _ rfl _ _ 22 rfl w.heap.size w2.heap.size 27 i0 (.agg #[.int .i64 0, .int .i64 0, .int .i64 0, .bool false]) 4 32 Try.underlying22 hI hz0 hz1 hz2 rfl (by decide) rfl hg hgb B r.length d HV.2.2.1 (Nt.wrCells r) rfl (Nt.wrCells_length r) HV.2.2.2 (Nt.wrCells_one r) ?c3 ?c4 ?_)
  case c3 => have := HV.1; have := HV.2.1; omega
  case c4 => exact hr
  intro v3 w3 hown3 b3
  replace b3 : Below (w2.alloc (.cells #[] 27)).heap.size (w2.alloc (.cells #[] 27)) w3 := by simpa using b3
  have bb3 := below_on b2' b3
  obtain ⟨A3, c3, rfl, ho3⟩ := OneW.of_own hown3
  have O3 := Lib.hid ho3
  have O2' := Lib.hid (O2.out.later (below_on (below_new (Below.refl w2.heap.size w2) (.cells #[] 27)) b3))
  clear hown3 ho3 HV hg b2' b3 O2 bb2
  have n1 := N1.out A2 A3 c2 c3 w3 O2'.out O3.out
  obtain ⟨⟨M, x⟩, hM⟩ : ∃ q, Sf.putR l r = q := ⟨_, rfl⟩
  rw [hM] at n1 N2
  dsimp only at n1 N2
  have N1' := Lib.hid n1
  clear n1 N1 N0 hM
  go_wp2_with fail
  refine N1'.out.mono ?_
  intro e w4 hq
  obtain ⟨A4, c4, rfl, hO4, b4⟩ := hq
  have bb4 := below_on bb3 b4
  have O4 := Lib.hid hO4
  have O2 := Lib.hid (O2'.out.later b4)
  have O3' := Lib.hid (O3.out.later b4)
  have N2' := Lib.hid (N2.out w4 (HL.out.later bb4) (HR.out.later bb4))
  clear hO4 O2' O3 N1' N2 b4 bb3
  go_wp2_with fail
  refine N2'.out.mono ?_
  intro e w5 hq
  obtain ⟨A5, c5, rfl, hO5, b5⟩ := hq
  have bb5 := below_on bb4 b5
  have n3 := nwrites_any A4 A5 c4 c5 M M w5 (O4.out.later b5) hO5
  rw [decide_eq_true rfl] at n3
  have N3 := Lib.hid n3
  have O2' := Lib.hid (O2.out.later b5)
  have O3 := Lib.hid (O3'.out.later b5)
  clear n3 hO5 O4 O2 O3' N2' b5 bb4
  go_wp2_with fail
  refine N3.out.mono ?_
  rintro e w6 ⟨rfl, b6⟩
  have bb6 := below_on bb5 b6
  have n4 := nwrites_any A2 A c2 c l l w6 (O2'.out.later b6) (HL.out.later bb6)
  rw [decide_eq_true rfl] at n4
  have N4 := Lib.hid n4
  have O3' := Lib.hid (O3.out.later b6)
  clear n4 O2' O3 N3 b6 bb5
  go_wp2_with fail
  refine N4.out.mono ?_
  rintro e w7 ⟨rfl, b7⟩
  have bb7 := below_on bb6 b7
  have n5 := nwrites_any A3 B c3 d r r w7 (O3'.out.later b7) (HR.out.later bb7)
  rw [decide_eq_true rfl] at n5
  have N5 := Lib.hid n5
  clear n5 O3' N4 b7 bb6
  go_wp2_with fail
  refine N5.out.mono ?_
  rintro e w8 ⟨rfl, b8⟩
  go_wp2
  go_ret
  exact ⟨by first | rfl | simp, below_on bb7 b8⟩
end Go.Proofs.Ytbpgofgdlikedaa
namespace Go.Proofs.Ytbpgofgdlikedaa
open Go.RowKit

namespace Sf
/-- What is got of both: what ShelfNewest asks. -/
theorem newest {l r : List Wr} (hl : l.all right = true) (hr : r.all right = true) (o : Int) :
    ∃ (q : Int) (x y : Wr), getR (outTo (Sf.puts none_ (l ++ r)) 256) o = (x, q) ∧ getR (outTo (Sf.puts none_ (r ++ l)) 256) o = (y, q) ∧ x.1 = y.1 ∧ x.2.1 = y.2.1 ∧
      ((q = 0 ∧ (l ++ r).any (fun p => decide (p.2.2.1 = o)) = true ∧ ∀ p ∈ l ++ r, p.2.2.1 = o → St.cmpS p.1 p.2.1 x.1 x.2.1 ≤ 0) ∨ (q = 8 ∧ (l ++ r).any (fun p => decide (p.2.2.1 = o)) = false)) := by
  have ha : ∀ p ∈ l ++ r, right p = true := fun p hp => (List.mem_append.1 hp).elim (all_right hl p) (all_right hr p)
  have hb : ∀ p ∈ r ++ l, right p = true := fun p hp => (List.mem_append.1 hp).elim (all_right hr p) (all_right hl p)
  have k1 := keyed_none.puts (l ++ r) ha
  have k2 := keyed_none.puts (r ++ l) hb
  have b1 : Best (Sf.puts none_ (l ++ r)) (l ++ r) := by have := best_none.puts (l ++ r) []; rwa [List.nil_append] at this
  have b2 : Best (Sf.puts none_ (r ++ l)) (r ++ l) := by have := best_none.puts (r ++ l) []; rwa [List.nil_append] at this
  unfold getR
  rw [if_pos (fmd_outTo k1), if_pos (fmd_outTo k2), at_out k1, at_out k2]
  by_cases h0 : 0 ≤ o
  · rw [if_pos h0, if_pos h0]
    have hoj : ((o.toNat : Nat) : Int) = o := Int.toNat_of_nonneg h0
    rcases best_same b1 b2 o.toNat with ⟨e1, e2⟩ | ⟨x, y, e1, e2, e3, e4⟩
    · rw [e1, e2]
      refine ⟨8, Nt.zeroW, Nt.zeroW, rfl, rfl, rfl, rfl, .inr ⟨rfl, ?_⟩⟩
      rw [List.any_eq_false]
      intro p hp h
      have := (b1 o.toNat).2 e1 p hp
      rw [hoj] at this
      exact this (of_decide_eq_true h)
    · rw [e1, e2]
      obtain ⟨q1, q2, q3⟩ := (b1 o.toNat).1 x e1
      rw [hoj] at q2 q3
      refine ⟨0, x, y, rfl, rfl, e3, e4, .inl ⟨rfl, ?_, fun p hp hpo => q3 p hp hpo⟩⟩
      rw [List.any_eq_true]
      exact ⟨x, q1, decide_eq_true q2⟩
  · rw [if_neg h0, if_neg h0]
    refine ⟨8, Nt.zeroW, Nt.zeroW, rfl, rfl, rfl, rfl, .inr ⟨rfl, ?_⟩⟩
    rw [List.any_eq_false]
    intro p hp h
    have := (right_iff p).1 (ha p hp)
    have := of_decide_eq_true h
    omega
/-- Was one of the object among the first k? -/
def sn (L : List Wr) (o : Int) (k : Nat) : Bool := (L.take k).any fun p => decide (p.2.2.1 = o)
theorem sn_succ {L : List Wr} {o : Int} {k : Nat} (h : k < L.length) : sn L o (k + 1) = (sn L o k || decide ((L.getD k Nt.zeroW).2.2.1 = o)) := by
  unfold sn
  rw [List.take_succ_eq_append_getElem h, List.any_append, getD_lt h]
  simp
theorem sn_all (L : List Wr) (o : Int) : sn L o L.length = L.any fun p => decide (p.2.2.1 = o) := by unfold sn; rw [List.take_length]
end Sf

set_option maxRecDepth 100000 in
set_option maxHeartbeats 12800000 in
theorem lawSfNewest_any (SS : ShelfSpec) (A B : Option Addr) (c d : Nat) (l r : List Wr) (o : Int) (w : World) (h : OneW w A c l) (h2 : OneW w B d r) (hlr : (l.length + r.length) * 32 ≤ 140737488355328) :
    Calls Try.prog 7 #[.slice A l.length c, .slice B r.length d, .int .i64 o] w (Says (.bool true) w) := by
  obtain ⟨i0, hI, hz0, hz1, hz2⟩ := info_parts infoWr
  have N0 := Lib.hid (sfalive_any SS w)
  have hl : l.length * 32 ≤ 140737488355328 := by omega
  have hr : r.length * 32 ≤ 140737488355328 := by omega
  have N1 := Lib.hid (fun wx (h1 : OneW wx A c l) => show Calls Try.prog 13 #[.slice none 0 0, .slice A l.length c] wx (AnsWE (Sf.putR [] l).1 (Sf.putR [] l).2 wx) from SS.put none A 0 c [] l wx hl OneW.nil h1)
  have N2 := Lib.hid (fun A1 c1 X wx (h1 : OneW wx A1 c1 X) (h2 : OneW wx B d r) => SS.put A1 B c1 d X r wx hr h1 h2)
  have HL := Lib.hid h
  have HR := Lib.hid h2
  clear h h2
  cases ha : l.all Sf.right with
  | false =>
    have hp : Sf.putR [] l = ([], 1) := Sf.putR_nil_no (by rw [ha]; simp)
    rw [hp] at N1
    clear hp ha
    go_enter Try.func7, Try.ntmps7
    go_wp2_with fail
    refine N0.out.mono ?_
    rintro e w1 ⟨rfl, b1⟩
    have N1' := Lib.hid (N1.out w1 (HL.out.later b1))
    clear N0 N1 N2
    go_wp2_with fail
    refine N1'.out.mono ?_
    rintro e w2 ⟨A2, c2, he, hO2, b2⟩
    have he : e = .returned (.tuple #[.slice A2 0 c2, .int .i64 1]) := he
    subst he
    have BB := Lib.hid (below_on b1 b2)
    clear hO2 b1 b2 N1'
    go_wp2
    go_ret
    exact ⟨by first | rfl | simp, BB.out⟩
  | true =>
  have hp : Sf.putR [] l = (Sf.outTo (Sf.puts Sf.none_ l) 256, 0) := Sf.putR_nil ha
  cases hb : r.all Sf.right with
  | false =>
    have hp2 : Sf.putR (Sf.putR [] l).1 r = ([], 1) := Sf.putR_two_no ha (by rw [hb]; simp)
    rw [hp] at N1 hp2
    obtain ⟨X, hX⟩ : ∃ X, Sf.outTo (Sf.puts Sf.none_ l) 256 = X := ⟨_, rfl⟩
    rw [hX] at N1 hp2
    dsimp only at N1 hp2
    have HP2 := Lib.hid hp2
    clear hp hp2 ha hb hX
    go_enter Try.func7, Try.ntmps7
    go_wp2_with fail
    refine N0.out.mono ?_
    rintro e w1 ⟨rfl, b1⟩
    have N1' := Lib.hid (N1.out w1 (HL.out.later b1))
    clear N0 N1
    go_wp2_with fail
    refine N1'.out.mono ?_
    rintro e w2 ⟨A2, c2, rfl, hO2, b2⟩
    have bb2 := below_on b1 b2
    have n2 := N2.out A2 c2 X w2 hO2 (HR.out.later bb2)
    rw [HP2.out] at n2
    have N2' := Lib.hid n2
    have BB2 := Lib.hid bb2
    clear hO2 b1 b2 N1' N2 n2 bb2
    go_wp2_with fail
    refine N2'.out.mono ?_
    rintro e w3 ⟨A3, c3, he, hO3, b3⟩
    have he : e = .returned (.tuple #[.slice A3 0 c3, .int .i64 1]) := he
    subst he
    have BB := Lib.hid (below_on BB2.out b3)
    clear hO3 b3 N2' BB2
    go_wp2
    go_ret
    exact ⟨by first | rfl | simp, BB.out⟩
  | true =>
    have hp2 : Sf.putR (Sf.putR [] l).1 r = (Sf.outTo (Sf.puts Sf.none_ (l ++ r)) 256, 0) := Sf.putR_two ha hb
    have hba : (r ++ l).all Sf.right = true := by rw [List.all_append, ha, hb]; rfl
    have hp3 : Sf.putR [] (r ++ l) = (Sf.outTo (Sf.puts Sf.none_ (r ++ l)) 256, 0) := Sf.putR_nil hba
    have hfx : Sf.fmd (Sf.outTo (Sf.puts Sf.none_ (l ++ r)) 256) = true := Sf.fmd_outTo (Sf.keyed_none.puts (l ++ r) (Sf.all_right (by rw [List.all_append, ha, hb]; rfl)))
    obtain ⟨q, x, y, g1, g2, e1, e2, hq⟩ := Sf.newest ha hb o
    have hrl : (r ++ l).length * 32 ≤ 140737488355328 := by rw [List.length_append]; omega
    have N3 := Lib.hid (fun A1 c1 wx (h1 : OneW wx A1 c1 (r ++ l)) => show Calls Try.prog 13 #[.slice none 0 0, .slice A1 (r ++ l).length c1] wx (AnsWE (Sf.putR [] (r ++ l)).1 (Sf.putR [] (r ++ l)).2 wx) from SS.put none A1 0 c1 [] (r ++ l) wx hrl OneW.nil h1)
    rw [hp3] at N3
    obtain ⟨L1, hL1⟩ : ∃ L1, r ++ l = L1 := ⟨_, rfl⟩
    have HL1 := Lib.hid hL1
    have HLN := Lib.hid (show r.length + l.length = L1.length from by rw [← hL1, List.length_append])
    rw [hL1] at N3 g2 hrl
    rw [hp] at N1 hp2
    obtain ⟨X1, hX1⟩ : ∃ X, Sf.outTo (Sf.puts Sf.none_ l) 256 = X := ⟨_, rfl⟩
    rw [hX1] at N1 hp2
    obtain ⟨X, hX⟩ : ∃ X, Sf.outTo (Sf.puts Sf.none_ (l ++ r)) 256 = X := ⟨_, rfl⟩
    rw [hX] at hp2 hfx g1
    obtain ⟨Y, hY⟩ : ∃ X, Sf.outTo (Sf.puts Sf.none_ L1) 256 = X := ⟨_, rfl⟩
    rw [hY] at g2 N3
    dsimp only at N1 hp2 N3
    have HP2 := Lib.hid hp2
    obtain ⟨x0, x1, x2, x3⟩ := x
    obtain ⟨y0, y1, y2, y3⟩ := y
    dsimp only at e1 e2
    subst e1 e2
    have N4 := Lib.hid (fun A1 c1 wx (h1 : OneW wx A1 c1 X) => (show Calls Try.prog 9 #[.slice A1 X.length c1, .int .i64 o] wx (Says (.tuple #[.agg #[.int .i64 x0, .int .i64 x1, .int .i64 x2, .bool x3], .int .i64 q]) wx) from by have := SS.get A1 c1 X o wx h1; rw [g1] at this; exact this))
    have N5 := Lib.hid (fun A1 c1 wx (h1 : OneW wx A1 c1 Y) => (show Calls Try.prog 9 #[.slice A1 Y.length c1, .int .i64 o] wx (Says (.tuple #[.agg #[.int .i64 x0, .int .i64 x1, .int .i64 y2, .bool y3], .int .i64 q]) wx) from by have := SS.get A1 c1 Y o wx h1; rw [g2] at this; exact this))
    have N6 := Lib.hid (fun A1 c1 wx (h1 : OneW wx A1 c1 X) => (show Calls Try.prog 11 #[.slice A1 X.length c1] wx (Says (.bool true) wx) from by have := SS.formed A1 c1 X wx h1; rw [hfx] at this; exact this))
    have HQ := Lib.hid hq
    clear hp hp2 hp3 hfx ha hb hba g1 g2 hq hX1 hX hY hL1
    go_enter Try.func7, Try.ntmps7
    go_wp2_with fail
    refine N0.out.mono ?_
    rintro e w1 ⟨rfl, b1⟩
    have N1' := Lib.hid (N1.out w1 (HL.out.later b1))
    clear N0 N1
    go_wp2_with fail
    refine N1'.out.mono ?_
    rintro e w2 ⟨A2, c2, rfl, hO2, b2⟩
    have bb2 := below_on b1 b2
    have n2 := N2.out A2 c2 X1 w2 hO2 (HR.out.later bb2)
    rw [HP2.out] at n2
    have N2' := Lib.hid n2
    have BB2 := Lib.hid bb2
    clear hO2 b1 b2 N1' N2 n2 bb2
    go_wp2_with fail
    refine N2'.out.mono ?_
    rintro e w3 ⟨A3, c3, rfl, hO3, b3⟩
    have O3 := Lib.hid hO3
    have b3 := below_on BB2.out b3
    have b3' := below_new b3 (.cells #[] 27)
    have hg := Blk.new w3 27 #[]
    have hgb := Nat.le_refl w3.heap.size
    have HV := HR.out.later b3'
    clear N2' BB2 hO3
    go_wp2_with (at_builtin; refine wpList_append_fresh _ rfl _ _ 22 rfl w3.heap.size w3.heap.size 27 i0 (.agg #[.int .i64 0, .int .i64 0, .int .i64 0, .bool false]) 4 32 Try.underlying22 hI hz0 hz1 hz2 rfl (by decide) rfl hg hgb B r.length d HV.2.2.1 (Nt.wrCells r) rfl (Nt.wrCells_length r) HV.2.2.2 (Nt.wrCells_one r) ?c3 ?c4 ?_)
    case c3 => have := HV.1; have := HV.2.1; omega
    case c4 => exact hr
    intro v4 w4 hown4 b4
    replace b4 : Below (w3.alloc (.cells #[] 27)).heap.size (w3.alloc (.cells #[] 27)) w4 := by simpa using b4
    have bb4 := below_on b3' b4
    have b34 := below_on (below_new (Below.refl w3.heap.size w3) (.cells #[] 27)) b4
    have HV4 := HL.out.later bb4
    have hz4 := b34.size
    have hz3 := b3.size
    have B3 := Lib.hid b3
    obtain ⟨VA, vc, hvv, -, -, -, -⟩ := own_form hown4
    subst hvv
    clear hg hgb HV b3' b3 b4 bb4
    go_wp2_with (at_builtin; refine Go.Proofs.Ytbpgofgdlikedaa.wpList_append_lies _ rfl _ _ 22 rfl w3.heap.size 27 i0 (.agg #[.int .i64 0, .int .i64 0, .int .i64 0, .bool false]) 4 32 Try.underlying22 hI hz0 hz1 hz2 rfl (by decide) _ r.length (Nt.wrCells r) rfl hown4 A l.length c HV4.2.2.1 (Nt.wrCells l) rfl (Nt.wrCells_length l) HV4.2.2.2 (Nt.wrCells_one l) ?c5 ?c6 hz4 ?_)
    case c5 => unfold maxLen; omega
    case c6 => omega
    intro v5 w5 hown5 hg5 _
    have b35 : Below w3.heap.size w3 w5 := b34.grown hg5 (by omega) (fun r e => own_ge hown4 r e)
    rw [← Nt.wrCells_append, HL1.out, HLN.out] at hown5
    obtain ⟨A5, c5, rfl, hO5⟩ := OneW.of_own hown5
    have O5 := Lib.hid (O3.out.later b35)
    have N3' := Lib.hid (N3.out A5 c5 w5 hO5)
    have B5 := Lib.hid (below_on B3.out b35)
    clear b35 hown5 hg5 hown4 hO5 HV4 b34 B3 O3 N3 hz4 hz3
    go_wp2_with fail
    refine N3'.out.mono ?_
    rintro e w6 ⟨A6, c6, rfl, hO6, b6⟩
    have O6 := Lib.hid (O5.out.later b6)
    have Y6 := Lib.hid hO6
    have B6 := Lib.hid (below_on B5.out b6)
    have N4' := Lib.hid (N4.out A3 c3 w6 (O5.out.later b6))
    clear hO6 b6 N3' B5 O5 N4
    go_wp2_with fail
    refine N4'.out.mono ?_
    rintro e w7 ⟨rfl, b7⟩
    have b7' := below_new b7 (.cells #[.int .i64 x0, .int .i64 x1, .int .i64 x2, .bool x3] 27)
    have C7 := Blk.new w7 27 #[.int .i64 x0, .int .i64 x1, .int .i64 x2, .bool x3]
    obtain ⟨w8, hw8⟩ : ∃ w8, w7.alloc (.cells #[.int .i64 x0, .int .i64 x1, .int .i64 x2, .bool x3] 27) = w8 := ⟨_, rfl⟩
    rw [hw8] at b7' C7
    have O7 := Lib.hid (O6.out.later b7')
    have N5' := Lib.hid (N5.out A6 c6 w8 (Y6.out.later b7'))
    have B7 := Lib.hid (below_on B6.out b7')
    have HW8 := Lib.hid hw8
    have HC7 := Lib.hid C7
    clear b7 b7' C7 hw8 N4' N5 Y6 O6 B6
    go_wp2_with fail
    rw [HW8.out]
    refine N5'.out.mono ?_
    rintro e w9 ⟨rfl, b9⟩
    have b9' := below_new b9 (.cells #[.int .i64 x0, .int .i64 x1, .int .i64 y2, .bool y3] 27)
    have D9 := (HC7.out.later b9).alloc (.cells #[.int .i64 x0, .int .i64 x1, .int .i64 y2, .bool y3] 27)
    have E9 := Blk.new w9 27 #[.int .i64 x0, .int .i64 x1, .int .i64 y2, .bool y3]
    obtain ⟨w10, hw10⟩ : ∃ w10, w9.alloc (.cells #[.int .i64 x0, .int .i64 x1, .int .i64 y2, .bool y3] 27) = w10 := ⟨_, rfl⟩
    rw [hw10] at D9 E9 b9'
    have d0 := D9.cell (i := 0) rfl
    have d1 := D9.cell (i := 1) rfl
    have f0 := E9.cell (i := 0) rfl
    have f1 := E9.cell (i := 1) rfl
    have HD := Lib.hid D9
    have B10 := Lib.hid (below_on B7.out b9')
    have O10 := Lib.hid (O7.out.later b9')
    have HW10 := Lib.hid hw10
    clear b9 b9' D9 E9 HC7 HW8 N5' B7 O7 hw10
    go_upto_region 12 with (fail)
    rw [HW10.out]
    have b10 := below_new (Below.refl w10.heap.size w10) (.cells #[] 27)
    have hg := Blk.new w10 27 #[]
    have HV := HL.out.later (below_on B10.out b10)
    clear HW10
    go_wp2_with (at_builtin; refine wpList_append_fresh _ rfl _ _ 22 rfl w10.heap.size w10.heap.size 27 i0 (.agg #[.int .i64 0, .int .i64 0, .int .i64 0, .bool false]) 4 32 Try.underlying22 hI hz0 hz1 hz2 rfl (by decide) rfl hg (Nat.le_refl _) A l.length c HV.2.2.1 (Nt.wrCells l) rfl (Nt.wrCells_length l) HV.2.2.2 (Nt.wrCells_one l) ?c7 ?c8 ?_)
    case c7 => have := HV.1; have := HV.2.1; omega
    case c8 => exact hl
    intro v11 w11 hown11 b11
    replace b11 : Below (w10.alloc (.cells #[] 27)).heap.size (w10.alloc (.cells #[] 27)) w11 := by simpa using b11
    have bb11 := below_on b10 b11
    have HV2 := HR.out.later (below_on B10.out bb11)
    have hz11 := bb11.size
    obtain ⟨VB, vd, hvv, -, -, -, -⟩ := own_form hown11
    subst hvv
    clear hg HV b10 b11 d0 d1 f0 f1
    go_wp2_with (at_builtin; refine Go.Proofs.Ytbpgofgdlikedaa.wpList_append_lies _ rfl _ _ 22 rfl w10.heap.size 27 i0 (.agg #[.int .i64 0, .int .i64 0, .int .i64 0, .bool false]) 4 32 Try.underlying22 hI hz0 hz1 hz2 rfl (by decide) _ l.length (Nt.wrCells l) rfl hown11 B r.length d HV2.2.2.1 (Nt.wrCells r) rfl (Nt.wrCells_length r) HV2.2.2.2 (Nt.wrCells_one r) ?c9 ?c10 hz11 ?_)
    case c9 => unfold maxLen; omega
    case c10 => omega
    intro v12 w12 hown12 hg12 _
    have b12 : Below w10.heap.size w10 w12 := bb11.grown hg12 (by omega) (fun r e => own_ge hown11 r e)
    obtain ⟨L, hL⟩ : ∃ L, l ++ r = L := ⟨_, rfl⟩
    have hLN : l.length + r.length = L.length := by rw [← hL, List.length_append]
    rw [← Nt.wrCells_append, hL, hLN] at hown12
    obtain ⟨A12, c12, rfl, hO12⟩ := OneW.of_own hown12
    have hq := HQ.out
    rw [hL] at hq
    have HQ2 := Lib.hid hq
    have HO := Lib.hid hO12
    have HX := Lib.hid (O10.out.later b12)
    have HD12 := Lib.hid (HD.out.later b12)
    have HB12 := Lib.hid (below_on B10.out b12)
    have hLl : L.length ≤ 9223372036854775807 := by omega
    clear hL hLN hown12 hO12 hq HQ b12 bb11 hown11 hg12 HV2 HD B10 O10 hz11 HL HR
    go_wp2_with fail
    go_loopw [15, 82] (fun s15 s82 wr => ∃ k : Nat, k ≤ L.length ∧ s82 = .int .i64 (k : Int) ∧ s15 = .bool (Sf.sn L o k) ∧ Below w12.heap.size w12 wr) (fun _ s82 _ => L.length - (intOf s82).toNat)
    case atStart => exact ⟨0, Nat.zero_le _, rfl, rfl, Below.refl _ _⟩
    case round =>
      obtain ⟨k, hk, rfl, rfl, hbw⟩ := hrel
      by_cases hlt : k < L.length
      · have hne : L ≠ [] := fun e => by subst e; simp at hlt
        obtain ⟨b, off, hA, hcs⟩ := (HO.out.later hbw).at hne
        obtain ⟨e0, e1, e2, e3⟩ := hcs k hlt
        subst hA
        have hi0 : (0 : Int) ≤ (k : Int) := by omega
        have hi1 : (k : Int) < (L.length : Int) := by omega
        have hsn := Sf.sn_succ (o := o) hlt
        have hmem : L.getD k Nt.zeroW ∈ L := by rw [Sf.getD_lt hlt]; exact List.getElem_mem hlt
        obtain ⟨z, hz⟩ : ∃ z, L.getD k Nt.zeroW = z := ⟨_, rfl⟩
        rw [hz] at e0 e1 e2 e3 hsn hmem
        obtain ⟨z0, z1, z2, z3⟩ := z
        dsimp only at e0 e1 e2 e3 hsn
        have HBW := Lib.hid hbw
        by_cases hd : z2 = o
        · have hd1 : (z2 == o) = true := beq_iff_eq.2 hd
          rw [decide_eq_true hd, Bool.or_true] at hsn
          have hq0 : q = 0 ∧ St.cmpS z0 z1 x0 x1 ≤ 0 := by
            rcases HQ2.out with ⟨h1, _, h3⟩ | ⟨_, h2⟩
            · exact ⟨h1, h3 _ hmem hd⟩
            · rw [List.any_eq_false] at h2
              exact absurd (decide_eq_true hd) (h2 _ hmem)
          obtain ⟨hq0, hcm⟩ := hq0
          have HSN := Lib.hid hsn
          have b1 := below_new (Below.refl wr.heap.size wr) (.cells #[.int .i64 z0, .int .i64 z1, .int .i64 z2, .bool z3] 27)
          have G := Blk.new wr 27 #[.int .i64 z0, .int .i64 z1, .int .i64 z2, .bool z3]
          have D1 := (HD12.out.later hbw).later b1
          have j0 := G.cell (i := 0) rfl
          have j1 := G.cell (i := 1) rfl
          have j2 := G.cell (i := 2) rfl
          have d0 := D1.cell (i := 0) rfl
          have d1 := D1.cell (i := 1) rfl
          have B1 := Lib.hid (below_on hbw b1)
          have NC := Lib.hid (fun wx => rcompare_any z0 z1 x0 x1 wx)
          obtain ⟨cm, hcm2⟩ : ∃ cm, St.cmpS z0 z1 x0 x1 = cm := ⟨_, rfl⟩
          rw [hcm2] at NC hcm
          have hc1 : decide (0 < cm) = false := decide_eq_false (by omega)
          have HQ0 := Lib.hid hq0
          clear hcs hbw hsn hmem hz b1 G D1 hcm2 hd hq0
          have hqq := HQ0.out
          subst hqq
          go_wp2_with fail
          refine (NC.out _).mono ?_
          rintro e w13 ⟨rfl, b13⟩
          have HBN := Lib.hid (below_on B1.out b13)
          clear b13 j0 j1 j2 d0 d1 e0 e1 e2 e3 B1 NC
          go_wp2_with fail
          go_roundw
          case rel => exact ⟨k + 1, by omega, by first | trivial | go_num, by rw [HSN.out], HBN.out⟩
          case measure => simp [intOf]; omega
        · have hd1 : (z2 == o) = false := beq_eq_false_iff_ne.2 hd
          rw [decide_eq_false hd, Bool.or_false] at hsn
          have HSN := Lib.hid hsn
          have b1 := below_new (Below.refl wr.heap.size wr) (.cells #[.int .i64 z0, .int .i64 z1, .int .i64 z2, .bool z3] 27)
          have G := Blk.new wr 27 #[.int .i64 z0, .int .i64 z1, .int .i64 z2, .bool z3]
          have j2 := G.cell (i := 2) rfl
          have B1 := Lib.hid (below_on hbw b1)
          clear hcs hbw hsn hmem hz b1 G hd
          go_wp2_with fail
          go_roundw
          case rel => exact ⟨k + 1, by omega, by first | trivial | go_num, by rw [HSN.out], B1.out⟩
          case measure => simp [intOf]; omega
      · obtain rfl : k = L.length := by omega
        have N6' := Lib.hid (N6.out A3 c3 wr (HX.out.later hbw))
        have BW := Lib.hid (below_on HB12.out hbw)
        have hsa := Sf.sn_all L o
        rcases HQ2.out with ⟨hq0, h2, -⟩ | ⟨hq8, h2⟩
        · rw [h2] at hsa
          rw [hsa]
          subst hq0
          clear hbw hsa h2 N6 HQ2
          go_wp2_with fail
          refine N6'.out.mono ?_
          rintro e w13 ⟨rfl, b13⟩
          have FB := Lib.hid (below_on BW.out b13)
          clear b13 N6' BW
          go_wp2
          go_ret
          exact ⟨by first | rfl | simp, FB.out⟩
        · rw [h2] at hsa
          rw [hsa]
          subst hq8
          clear hbw hsa h2 N6 HQ2
          go_wp2_with fail
          refine N6'.out.mono ?_
          rintro e w13 ⟨rfl, b13⟩
          have FB := Lib.hid (below_on BW.out b13)
          clear b13 N6' BW
          go_wp2
          go_ret
          exact ⟨by first | rfl | simp, FB.out⟩
end Go.Proofs.Ytbpgofgdlikedaa
namespace Go.Proofs.Ytbpgofgdlikedaa

theorem bulk_one {H : Type} (d : DataW H) : 1 ≤ Rows.uptoBulk d := by
  cases d with
  | lit l => cases l <;> simp [Rows.uptoBulk]
  | nil => simp [Rows.uptoBulk]
  | ptr d => simp [Rows.uptoBulk]
  | slice elems spare => simp [Rows.uptoBulk]
  | agg parts => simp [Rows.uptoBulk]
  | iface t d => simp [Rows.uptoBulk]
  | map entries => simp [Rows.uptoBulk]
  | held h => simp [Rows.uptoBulk]
theorem bulk_length {H : Type} (l : List (DataW H)) : l.length ≤ Rows.uptoBulkAll l := by
  induction l with
  | nil => simp [Rows.uptoBulkAll]
  | cons x r ih =>
    have := bulk_one x
    simp only [Rows.uptoBulkAll, List.length_cons]
    omega
theorem bulk_slice {H : Type} {d : DataW H} {n cap : Nat} (h : (d = .nil ∧ n = 0 ∧ cap = 0) ∨ ∃ elems spare, d = .slice elems spare ∧ elems.length = n ∧ elems.length + spare.length = cap) : n ≤ Rows.uptoBulk d := by
  rcases h with ⟨_, h, _⟩ | ⟨elems, spare, rfl, h1, _⟩
  · omega
  · have h2 := bulk_length elems
    simp only [Rows.uptoBulk]
    omega
theorem bulk_all {H : Type} {l : List (DataW H)} (h : Rows.uptoSmall H l = true) : Rows.uptoBulkAll l ≤ 1048576 := of_decide_eq_true h
theorem bulk_cons {H : Type} (d : DataW H) (l : List (DataW H)) : Rows.uptoBulkAll (d :: l) = Rows.uptoBulk d + Rows.uptoBulkAll l := by simp only [Rows.uptoBulkAll]

end Go.Proofs.Ytbpgofgdlikedaa
namespace Go.Proofs.Ytbpgofgdlikedaa.shelfNewest
open Go.ChangeShapes Go.WideShapes Go.ChangeAt Go.RowKit

theorem cellsWrite : Try.prog.cellsOf 27 = 4 := by kernel_rfl
theorem bytesWrite : Try.prog.bytesOf 27 = 32 := by kernel_rfl
theorem writeE {H : Type} {enc : TypeId × Value → H} {w : World} (fuel : Nat) (cs : List Value) (x : DataW H × List MemPlace) (h : DataW.trod enc Try.prog w 0 (fun _ => true) true fuel 27 cs = some x) : ∃ a, cs = Nt.wrCell a :=
  write_cells Try.underlying27 (by kernel_rfl) (by kernel_rfl) rfl (by kernel_rfl) rfl (by kernel_rfl) rfl Try.underlying25 (by kernel_rfl) rfl rfl Try.underlying3 Try.underlying3 Try.underlying4 h
theorem own : ownKnob Try.prog.godebug = none := by kernel_rfl
theorem laidOut : laidOutB Try.prog = true := by kernel_rfl
theorem reads : ∀ t ∈ Try.f7.params.toList, Try.prog.readableRec t = true ∧ t < Try.prog.types.size := by
  intro t ht
  rw [Try.params7] at ht
  have : t = 22 ∨ t = 22 ∨ t = 3 := by simpa using ht
  rcases this with rfl | rfl | rfl <;> exact ⟨by kernel_rfl, of_decide_eq_true (by kernel_rfl)⟩

set_option maxRecDepth 100000 in
theorem lifted (os : Os) (started : os.Started) (H : Type) (enc : TypeId × Value → H) (F : Stop.Interp) :
    ReturnsInHanded {} Try.checked os 7 .any ((Rows.OpenSpec.upto Rows.shelfNewestSpec).pre6 enc Try.prog Try.f7 Rows.shelfNewestUptoRow.domain false) (((Rows.OpenSpec.upto Rows.shelfNewestSpec).at F).post enc Try.prog Try.f7 false true false false) := by
  refine returnsInHanded_of_cond (C := Try.checked) (s := Rows.OpenSpec.upto Rows.shelfNewestSpec) (k := Rows.uptoSmall) rfl own started (by kernel_rfl) Try.func7
    (OpenSpec.witness (enc := enc) (C := Try.checked) (s := Rows.OpenSpec.upto Rows.shelfNewestSpec) (k := Rows.uptoSmall) rfl false ⟨#[], #[.slice none 0 0, .slice none 0 0, .int .i64 0], []⟩ 8 (by kernel_rfl) (by kernel_rfl) (by kernel_rfl)
      (x := ([.nil, .nil, .lit (.int .i64 0)], [], [])) (by kernel_rfl) rfl (by kernel_rfl)) ?_
  intro W base args ds gs before hval0 hW _ hk _
  suffices hs : Calls Try.prog 7 args W (fun e W' => ∃ v, e = .returned v ∧ Rows.shelfNewestSpec.post enc Try.prog Try.f7 false true false false W args v W') from hs
  replace hW : DataW.Whole enc Try.prog Try.f7.params.toList Rows.shelfNewestSpec.vars false W args.toList ds gs before := hW
  have hval : ∀ (j : Nat) t v, Try.f7.params[j]? = some t → args[j]? = some v → Value.okWide Try.prog W .any base t v := hval0
  have hW' := hW
  obtain ⟨p, q, hA0, hV, rfl, hfz, hnd⟩ := hW
  have hA : DataW.TrodAll enc Try.prog W 0 (fun _ => true) true Try.f7.params.toList args.toList ds p := hA0
  rw [Try.params7] at hA hval
  obtain ⟨v0, vs0, d0, ds0, p0, q0, hargs, rfl, rfl, h0, r0⟩ := trodAll_cons hA
  obtain ⟨v1, vs1, d1, ds1, p1, q1, rfl, rfl, rfl, h1, r1⟩ := trodAll_cons r0
  obtain ⟨v2, vs2, d2, ds2, p2, q2, rfl, rfl, rfl, h2, r2⟩ := trodAll_cons r1
  obtain ⟨rfl, rfl, rfl⟩ := trodAll_nil r2
  obtain rfl : args = #[v0, v1, v2] := by cases args; simp_all
  obtain ⟨rfl, rfl⟩ := trodVars_none hV
  have hb := bulk_all hk
  simp only [List.append_nil, bulk_cons] at hb
  obtain ⟨A0, cap0, l0, rfl, hc0, hm0, hn0, hl0, _, hd0⟩ := open_list Nt.zeroW Nt.wrCell (fun _ => True) (size := 4) (fun _ => rfl) Try.underlying22 cellsWrite (by decide) (fun fuel cs x hx => (writeE fuel cs x hx).elim fun a ha => ⟨a, ha, trivial⟩) (hval 0 22 v0 rfl rfl) h0
  have o0 : OneW W A0 cap0 l0 := ⟨hc0, hm0, hn0, hl0⟩
  have z0 := bulk_slice hd0
  obtain ⟨A1, cap1, l1, rfl, hc1, hm1, hn1, hl1, _, hd1⟩ := open_list Nt.zeroW Nt.wrCell (fun _ => True) (size := 4) (fun _ => rfl) Try.underlying22 cellsWrite (by decide) (fun fuel cs x hx => (writeE fuel cs x hx).elim fun a ha => ⟨a, ha, trivial⟩) (hval 1 22 v1 rfl rfl) h1
  have o1 : OneW W A1 cap1 l1 := ⟨hc1, hm1, hn1, hl1⟩
  have z1 := bulk_slice hd1
  obtain ⟨a2, rfl, rfl, rfl, w2⟩ := open_int Try.underlying3 (hval 2 3 v2 rfl rfl) h2
  clear hA0 hval0
  refine (lawSfNewest_any shelfSpec A0 A1 cap0 cap1 l0 l1 a2 W o0 o1 (by omega)).mono fun e W' ⟨he, hg⟩ => ?_
  subst he
  exact ⟨_, rfl, law_post laidOut hW' rfl rfl (by kernel_rfl) Try.underlying4 reads hg⟩

/-- The statement. -/
theorem proved : Rows.ShelfNewestUptoSaid :=
  OpenClaim.holds_of_cond 7 Try.f7 rfl rfl rfl rfl rfl rfl rfl ⟨rfl, rfl, rfl, rfl, rfl⟩ rfl rfl rfl rfl rfl (by kernel_rfl) Try.func7 (by kernel_rfl)
    (of_decide_eq_true (by kernel_rfl)) (by unfold Func.isWrapper; first | (rw [if_pos (by decide +kernel)]; kernel_rfl) | (rw [if_neg (by decide +kernel)]; exact ⟨rfl, rfl⟩))
    (fun os started H enc _ F => lifted os started H enc F)

end Go.Proofs.Ytbpgofgdlikedaa.shelfNewest
