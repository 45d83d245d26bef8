/-
  What span's Join answers; and the function that All answers: whatever the loop's body does, the objects of the list come, rising.
  What SpanWalks asks of span's All.
  What span's All answers: a function over the objects of the list, which was read when it was made.
  What shelf's Within answers.
-/
import Derived.Test.YtbpgofgdlikedaaG17
import Derived.RangeFuncFrom
import Derived.RangeFuncNested
import Derived.RangeFuncBound
import Derived.RangeFuncCalls
import Derived.RangeFuncLeaves
import Derived.RangeFuncWrites
import Derived.Shelf.Abstract
import Derived.Shelf.RegionOpen
import Derived.OwnWalkIn
import Derived.TacticsInMore
import Derived.LoopNIn
import Derived.LoopIn
import Derived.WalkMore
import Derived.Deep.RegionWith
import Derived.Test.YtbpgofgdlikedaaG16
import Derived.Test.YtbpgofgdlikedaaG10
import Derived.Test.YtbpgofgdlikedaaG15
namespace Go.Proofs.Ytbpgofgdlikedaa
open Go.RowKit Go.Shelf Fb
attribute [local go_sem] Oper.semAt_some

set_option maxHeartbeats 800000 in
theorem spjoin_any (A : Option Addr) (c : Nat) (ls : List (List (Int × Int))) (w : World) (hn : ls.length ≤ 9223372036854775807) (htot : Sp.tot ls ≤ 9223372036854775807) (h : Rows w A ls) :
    Calls Try.prog 27 #[.slice A ls.length c] w (GivesS (Sp.joinS ls) w) := by
  have N1 := Lib.hid (setOf_any A c ls w hn htot h)
  clear h
  go_enter Try.func27, Try.ntmps27
  go_wp2_with fail
  refine N1.out.mono ?_
  rintro e w1 ⟨rfl, b1⟩
  clear N1
  go_wp2_with fail
  refine (spans_any _ _).mono ?_
  rintro e w2 ⟨v, rfl, ho, b2⟩
  have HO := Lib.hid ho
  clear ho
  go_wp2
  go_ret
  exact ⟨v, rfl, own_base HO.out b1.size, below_on b1 b2⟩

theorem joinS_one (l : List (Int × Int)) : Sp.joinS [l] = Sp.ofL (Sp.inL l) := Sp.ofL_ext fun o _ => by
  show (false || Sp.inL l o) = Sp.inL l o
  rw [Bool.false_or]

theorem wp_scope_in {n : Nat} {P : Program} {Q : Exit → Act → World → Prop} {a : Act} {w : World} {c : Code} (h : c.wpIn Fence.wide n P (Exit.noGoto Q) a w) : (Code.scope c).wpIn Fence.wide n P Q a w := wpIn_wide.2 (wp_scope_straight (wpIn_wide.1 h))

end Go.Proofs.Ytbpgofgdlikedaa
namespace Go.Proofs.Ytbpgofgdlikedaa
open Go.RowKit Go.Shelf Fb
attribute [local go_sem] Oper.semAt_some

end Go.Proofs.Ytbpgofgdlikedaa
namespace Go.Proofs.Ytbpgofgdlikedaa
open Go.RowKit Go.Shelf Fb

/-- The places of a list, in a block from B on. -/
def FarL (B : Nat) (W : World) (D : Option Addr) (L : List (Int × Int)) : Prop :=
  L ≠ [] → ∃ g off, D = some ⟨g, off, none⟩ ∧ B ≤ g ∧ ∀ k, k < L.length → W.cell? ⟨g, off + k * 2, none⟩ = some (.int .i64 (L.getD k (0, 0)).1) ∧ W.cell? ⟨g, off + (k * 2 + 1), none⟩ = some (.int .i64 (L.getD k (0, 0)).2)
theorem FarL.later {B : Nat} {W W' : World} {D : Option Addr} {L : List (Int × Int)} (h : FarL B W D L) (hb : Below W.heap.size W W') : FarL B W' D L := fun hne => by
  obtain ⟨g, off, h1, h2, h3⟩ := h hne
  exact ⟨g, off, h1, h2, fun k hk => ⟨cell_later hb (h3 k hk).1, cell_later hb (h3 k hk).2⟩⟩
theorem own_far {w : World} {base : Nat} {e : TypeId} {v : Value} {L : List (Int × Int)} (h : w.ownsRow base e 2 v L.length (stCells L)) : ∃ D dc, v = .slice D L.length dc ∧ FarL base w D L := by
  by_cases hne : L = []
  · subst hne
    obtain ⟨D, dc, rfl, _⟩ := own_form h
    exact ⟨D, dc, rfl, fun h => absurd rfl h⟩
  · obtain ⟨g, cap, rfl⟩ := own_len h (List.length_pos_iff.2 hne)
    refine ⟨_, _, rfl, fun _ => ⟨g, 0, rfl, (own_base_le h).1, fun k hk => ?_⟩⟩
    obtain ⟨q1, q2⟩ := stCells_get L k hk
    exact ⟨by rw [Nat.zero_add]; exact own_cell_at h q1, by rw [Nat.zero_add]; exact own_cell_at h q2⟩

theorem join_one {w : World} {A : Option Addr} {c : Nat} {l : List (Int × Int)} (h1 : OneL w A c l) (t : TypeId) :
    Calls Try.prog 27 #[.slice (some ⟨w.heap.size, 0, none⟩) 1 1] (w.alloc (.cells #[.slice A l.length c] t)) (GivesS (Sp.ofL (Sp.inL l)) w) := by
  have b0 := below_new (Below.refl w.heap.size w) (.cells #[.slice A l.length c] t)
  rw [← joinS_one l]
  refine (spjoin_any (some ⟨w.heap.size, 0, none⟩) 1 [l] _ (by simp) (by rw [Sp.tot_one]; exact h1.len) (rows_one (Blk.new w t _) (h1.later b0))).mono ?_
  rintro e w' ⟨v, he, ho, hb⟩
  exact ⟨v, he, own_base ho (by simp), below_on b0 hb⟩
theorem setOf_one {w : World} {A : Option Addr} {c : Nat} {l : List (Int × Int)} (h1 : OneL w A c l) (t : TypeId) :
    Calls Try.prog 35 #[.slice (some ⟨w.heap.size, 0, none⟩) 1 1] (w.alloc (.cells #[.slice A l.length c] t)) fun e w' => e = .returned (.agg (Sp.arr (Sp.inL l))) ∧ Below w.heap.size w w' := by
  have b0 := below_new (Below.refl w.heap.size w) (.cells #[.slice A l.length c] t)
  have e0 : Sp.arr (Sp.inL l) = Sp.arr (Sp.anyTo [l] [l].length) := Sp.arr_ext fun o _ => by
    show Sp.inL l o = (false || Sp.inL l o)
    rw [Bool.false_or]
  rw [e0]
  refine (setOf_any (some ⟨w.heap.size, 0, none⟩) 1 [l] _ (by simp) (by rw [Sp.tot_one]; exact h1.len) (rows_one (Blk.new w t _) (h1.later b0))).mono ?_
  rintro e w' ⟨he, hb⟩
  exact ⟨he, below_on b0 hb⟩

end Go.Proofs.Ytbpgofgdlikedaa
namespace Go.Proofs.Ytbpgofgdlikedaa
open Go.RowKit Go.Shelf
attribute [local go_sem] Oper.semAt_some

namespace Sf
/-- Those of a set's objects. -/
def kin (s : List (Int × Int)) (l : List Wr) : List Wr := l.filter fun x => Sp.inL s x.2.2.1.toNat
theorem kin_snoc (s : List (Int × Int)) (l : List Wr) (x : Wr) : kin s (l ++ [x]) = kin s l ++ (if Sp.inL s x.2.2.1.toNat = true then [x] else []) := by
  unfold kin
  rw [List.filter_append, List.filter_cons]
  split <;> rfl
theorem kin_len (s : List (Int × Int)) (l : List Wr) : (kin s l).length ≤ l.length := List.length_filter_le _ _
theorem in_set (s : List (Int × Int)) {x : Wr} (h : right x = true) : inOf (Sp.ofL (Sp.inL s)) x.2.2.1 = Sp.inL s x.2.2.1.toNat := by
  have hr := (right_iff x).1 h
  unfold inOf
  rw [decide_eq_true (And.intro hr.1 hr.2.1), Sp.inL_ofL _ _ (by omega)]
  rfl
end Sf

set_option maxRecDepth 100000 in
set_option maxHeartbeats 6400000 in
theorem sdwithin_any (A B : Option Addr) (c d : Nat) (l : List Wr) (s : List (Int × Int)) (w : World) (h : OneW w A c l) (hs : OneL w B d s) :
    Calls Try.prog 16 #[.slice A l.length c, .slice B s.length d] w (AnsWE (Sf.withR l s).1 (Sf.withR l s).2 w) := by
  obtain ⟨i0, hI, hZ0, hZ1, hZ2⟩ := info_parts infoWr
  have N1 := Lib.hid (sdformed_any A c l w h)
  have HL := Lib.hid h
  have HI := Lib.hid hs
  have hR : Sf.withR l s = if Sf.fmd l = true then (Sf.kin s l, 0) else ([], 1) := rfl
  rw [hR]
  clear h hs hR
  refine (callsIn_wide (n := 3)).1 ?_
  refine callsIn_of_wp_marks Try.func16 rfl trivial ?_ rfl
  simp only [Try.ntmps16, List.size_toArray, List.length_cons, List.length_nil, Nat.reduceAdd, Nat.reduceSub, Array.replicate_succ, Array.replicate_zero, List.push_toArray, List.append_toArray, List.nil_append, List.cons_append]
  cases hf : Sf.fmd l with
  | false =>
    rw [hf] at N1
    rw [if_neg Bool.false_ne_true]
    clear hf
    gi_wp2_with fail
    refine ⟨trivial, (callsIn_wide.2 N1.out).mono ?_⟩
    rintro e w1 ⟨rfl, b1⟩
    have BB := Lib.hid b1
    clear N1 b1
    gi_wp2
    exact ⟨.tuple #[.slice none 0 0, .int .i64 1], by simp [results, Try.f16, go_sem], none, 0, rfl, OneW.nil, BB.out⟩
  | true =>
  rw [if_pos rfl]
  rw [hf] at N1
  have hrl := ((Sf.fmd_list l).1 hf).1
  have hl256 := Sf.fmd_len hf
  obtain ⟨xs, hxs⟩ := Sf.rights l hrl
  obtain ⟨us, hus⟩ : ∃ us, Sp.ofL (Sp.inL s) = us := ⟨_, rfl⟩
  have hin : ∀ x : Wr, Sf.right x = true → inOf us x.2.2.1 = Sp.inL s x.2.2.1.toNat := fun x hx => by rw [← hus]; exact Sf.in_set s hx
  have HIN := Lib.hid hin
  have HUS := Lib.hid hus
  have HXS := Lib.hid hxs
  have HLL := Lib.hid hl256
  clear hf hrl hus hin hl256 hxs
  gi_wp2_with fail
  refine ⟨trivial, (callsIn_wide.2 N1.out).mono ?_⟩
  rintro e w2 ⟨rfl, bb2⟩
  have JN := join_one (HI.out.later bb2) 37
  rw [HUS.out] at JN
  have NJ := Lib.hid JN
  clear N1 JN
  gi_wp2_with fail
  refine ⟨trivial, (callsIn_wide.2 NJ.out).mono ?_⟩
  rintro e w3 ⟨u, rfl, ho3, b3⟩
  obtain ⟨U, du, rfl, -, -, -, -⟩ := own_form ho3
  have bb3 := below_on bb2 b3
  have B7 := (Blk.new w3 37 #[.slice U us.length du]).alloc (.cells #[.slice none 0 0] 22)
  have B8 := Blk.new (w3.alloc (.cells #[.slice U us.length du] 37)) 22 #[.slice none 0 0]
  rw [World.size_alloc] at B8
  have b5 : Below w3.heap.size w3 ((w3.alloc (.cells #[.slice U us.length du] 37)).alloc (.cells #[.slice none 0 0] 22)) := below_new (below_new (Below.refl _ _) _) _
  have hUs := own_later (own_base ho3 bb2.size) b5
  have bb5 := below_on bb3 b5
  have hz3 := bb3.size
  obtain ⟨W5, hW5⟩ : ∃ W5, (w3.alloc (.cells #[.slice U us.length du] 37)).alloc (.cells #[.slice none 0 0] 22) = W5 := ⟨_, rfl⟩
  rw [hW5] at B7 B8 hUs bb5
  obtain ⟨g, hg⟩ : ∃ g, w3.heap.size = g := ⟨_, rfl⟩
  rw [hg] at B7 B8 hz3
  have HW5 := Lib.hid hW5
  have HG := Lib.hid hg
  clear b3 b5 ho3 bb2 bb3 hW5 hg NJ HI HUS
  gi_wp2_with fail
  rw [HW5.out]
  refine ⟨trivial, (callsIn_wide.2 (each_any A c l W5)).mono ?_⟩
  rintro e w4 ⟨bl, rfl, hbl, b4⟩
  have E7 := B7.later b4
  have E8 := B8.later b4
  have bb4 := below_on bb5 b4
  have hU4 := own_later hUs b4
  have hlt8 := E8.lt
  have hz4 := bb4.size
  have SEQ := eachW_stops Subtype.val xs l HXS.out 2 (by omega) bl c A w4 (HL.out.later bb4) hbl
  clear B7 B8 hUs bb5 b4 hbl HW5
  gi_wp2_with fail
  rw [HG.out]
  refine wpIn_rangeFunc_ownH rfl (by omega) (gf := 31) (lb := #[.pointer (some ⟨bl, 0, none⟩)]) rfl trivial enters_eachW SEQ KeepL.trans (fun W l' o o' _ h1 h2 _ => KeepL.put W l' o o' h1 h2) (Below.refl _ _) (fun _ => rfl)
    (fun pre W => ((Blk W g 37 #[.slice U us.length du] ∧ W.ownsRow w.heap.size 66 2 (.slice U us.length du) us.length (stCells us)) ∧ ∃ v, Boxed W (g + 1) 22 v ∧ W.ownsRow w.heap.size 27 4 v (Sf.kin s (pre.map Subtype.val)).length (Nt.wrCells (Sf.kin s (pre.map Subtype.val))) ∧ True) ∧ Below w.heap.size w W)
    (fun _ _ _ => False)
    ?hI (fun _ _ _ _ _ h _ _ => h) ⟨⟨⟨E7, hU4⟩, .slice none 0 0, E8, ⟨rfl, .inl ⟨rfl, rfl⟩⟩, trivial⟩, bb4⟩
    (fun x a' W => ∃ Bx, g + 1 < Bx ∧ Blk W Bx 27 (Nt.wrArr x.val) ∧ a' = { tmps := #[.slice A l.length c, .slice B s.length d, undef, undef, .slice none 0 0, .int .i64 0, .pointer (some ⟨g, 0, none⟩), .pointer (some ⟨g + 1, 0, none⟩), .int .i64 x.val.2.2.1, .pointer (some ⟨Bx, 0, none⟩), .slice A l.length c, .bool true, .bool false, .slice B s.length d, .slice (some ⟨w2.heap.size, 0, none⟩) 1 1, .slice U us.length du, .slice A l.length c, .func (.func 31) #[] #[.pointer (some ⟨bl, 0, none⟩)], .int .i64 x.val.2.2.1, Nt.wrV x.val, undef, undef, undef, undef, undef, undef, undef, undef], defers := [] })
    ?hAx ?assign ?body ?done (fun _ _ _ _ _ _ h _ => h.elim)
  case hI => exact OwnFrom.and (OwnFrom.and (OwnFrom.and (Own.from (blk_own _ _ fun _ => #[.slice U us.length du]) _) (Own.from (own_row _ _ _ _ _ _) _)) (Own.from (holdsRow_own w.heap.size (g + 1) 22 27 4 (fun (pre : List Sf.RW) => (Sf.kin s (pre.map Subtype.val)).length) (fun pre => Nt.wrCells (Sf.kin s (pre.map Subtype.val))) (fun _ _ => True)) _)) (ownFrom_below (Nat.le_refl _) hz4)
  case hAx => exact fun x a' _ X Y row ⟨Bx, h0, h1, h2⟩ hg hr => ⟨Bx, h0, blk_own _ _ (fun (_ : Unit) => Nt.wrArr x.val) () X Y row h1 hg (fun r e => (hr r e).2), h2⟩
  case assign =>
    rintro l' pre ⟨x, hx⟩ W K ⟨⟨⟨i1, i2⟩, v, hv, hrow, -⟩, i3⟩ hK
    obtain ⟨x0, x1, x2, x3⟩ := x
    unfold toldW Nt.wrV
    unfold Nt.wrV Nt.wrArr at hK
    dsimp only at hK ⊢
    have bN := below_new (Below.refl W.heap.size W) (.cells #[.int .i64 x0, .int .i64 x1, .int .i64 x2, .bool x3] 27)
    have HK := Lib.hid hK
    have F1 := Lib.hid (own_later hrow bN)
    have F2 := Lib.hid (below_on i3 bN)
    have F3 := Lib.hid (Blk.new W 27 #[.int .i64 x0, .int .i64 x1, .int .i64 x2, .bool x3])
    have F4 := Lib.hid (hv.alloc (.cells #[.int .i64 x0, .int .i64 x1, .int .i64 x2, .bool x3] 27))
    have F5 := Lib.hid bN
    have F6 := Lib.hid hv.lt
    have F7 := Lib.hid (own_later i2 bN)
    have F8 := Lib.hid (i1.later bN)
    clear hK hv hrow i1 i2 i3 bN SEQ E7 E8 hU4 bb4
    gi_wp2
    exact HK.out _ _ (keepsF_below F5.out) (fun h => h.later F5.out) ⟨⟨⟨F8.out, F7.out⟩, _, F4.out, F1.out, trivial⟩, F2.out⟩ ⟨_, F6.out, F3.out, rfl⟩
  case body =>
    rintro l' pre ⟨x, hx⟩ a' W hl _ ⟨⟨⟨i1, i2⟩, v8, hv, hrow, -⟩, i3⟩ ⟨Bx, hBx, hX, rfl⟩ hlt
    have hsn : Sf.kin s ((pre ++ [(⟨x, hx⟩ : Sf.RW)]).map Subtype.val) = Sf.kin s (pre.map Subtype.val) ++ (if Sp.inL s x.2.2.1.toNat = true then [x] else []) := by rw [List.map_append]; exact Sf.kin_snoc s _ x
    have hfl := Sf.kin_len s (pre.map Subtype.val)
    have hlt2 : (Sf.kin s (pre.map Subtype.val)).length ≤ 256 := by have := HLL.out; rw [List.length_map] at hfl; omega
    have hio := HIN.out x hx
    obtain ⟨M, hM⟩ : ∃ M, Sf.kin s (pre.map Subtype.val) = M := ⟨_, rfl⟩
    rw [hM] at hsn hrow hlt2
    obtain ⟨VA, vc, hvv, -, -, -, -⟩ := own_form hrow
    subst hvv
    obtain ⟨q, hq⟩ : ∃ q, Sp.inL s x.2.2.1.toNat = q := ⟨_, rfl⟩
    rw [hq] at hsn hio
    obtain ⟨U9, d9, e9, hU9⟩ := OneL.of_own i2
    injection e9 with e9 _ e10
    subst e9 e10
    have n1 := sphas_any U du us x.2.2.1 W hU9
    rw [hio] at n1
    obtain ⟨x0, x1, x2, x3⟩ := x
    unfold Nt.wrV
    unfold Nt.wrArr at hX
    dsimp only at hX n1 hq ⊢
    have N1 := Lib.hid n1
    have s0 := i1.cell (i := 0) rfl
    have HX := Lib.hid hX
    have HV := Lib.hid hv
    have HROW := Lib.hid hrow
    have HO := Lib.hid i1
    have HU := Lib.hid i2
    have I3 := Lib.hid i3
    cases q with
    | false =>
      rw [if_neg Bool.false_ne_true, List.append_nil] at hsn
      have HSN := Lib.hid hsn
      clear hX hv hrow i1 i2 i3 hsn hq SEQ E7 E8 hU4 bb4 hl hM hfl hio n1 hU9
      gi_wp2_with fail
      refine ⟨trivial, (CallsIn.inRound l' (callsIn_wide.2 N1.out)).mono ?_⟩
      rintro e w6 ⟨rfl, b6⟩
      have r1 := HO.out.later b6
      have r2 := own_later HU.out b6
      have r3 := own_later HROW.out b6
      have r4 : Boxed w6 (g + 1) 22 (.slice VA M.length vc) := Blk.later HV.out b6
      have FIN := Lib.hid (And.intro (keepsF_below (n0 := w4.heap.size) b6) (And.intro (show KeepL A c l W w6 from fun h => h.later b6) (And.intro (And.intro (And.intro r1 r2) (And.intro r3 r4)) (below_on I3.out b6))))
      clear b6 HV HROW HX HO HU I3 r1 r2 r3 r4 s0 N1
      gi_wp2
      exact ⟨FIN.out.1, FIN.out.2.1, ⟨FIN.out.2.2.1.1, _, FIN.out.2.2.1.2.2, by rw [HSN.out]; exact FIN.out.2.2.1.2.1, trivial⟩, FIN.out.2.2.2⟩
    | true =>
      rw [if_pos rfl] at hsn
      have HSN := Lib.hid hsn
      clear hX hv hrow i1 i2 i3 hsn hq SEQ E7 E8 hU4 bb4 hl hM hfl hio n1 hU9
      gi_wp2_with fail
      refine ⟨trivial, (CallsIn.inRound l' (callsIn_wide.2 N1.out)).mono ?_⟩
      rintro e w6 ⟨rfl, b6⟩
      have X2 := HX.out.later b6
      have hv6 : Boxed w6 (g + 1) 22 (.slice VA M.length vc) := Blk.later HV.out b6
      have hc6 := hv6.cell
      have hrow6 := own_later HROW.out b6
      have hU6 := own_later HU.out b6
      have hO6 := HO.out.later b6
      have hlt6 := hv6.lt
      have hbw6 := below_on I3.out b6
      have hsz6 := hbw6.size
      have k0 := X2.cell (i := 0) rfl
      have k1 := X2.cell (i := 1) rfl
      have k2 := X2.cell (i := 2) rfl
      have k3 := X2.cell (i := 3) rfl
      have HV6 := Lib.hid hv6
      have HR6 := Lib.hid hrow6
      have HU6 := Lib.hid hU6
      have HO6 := Lib.hid hO6
      have HBW6 := Lib.hid hbw6
      have B2 := Lib.hid b6
      clear b6 s0 hbw6 X2 N1 hU6 hO6
      gi_wp2_with (gi_at_builtin; refine Go.Proofs.Ytbpgofgdlikedaa.wpListIn_append_lies _ rfl _ _ 22 rfl w.heap.size 27 i0 (.agg #[.int .i64 0, .int .i64 0, .int .i64 0, .bool false]) 4 32 Try.underlying22 hI hZ0 hZ1 hZ2 rfl (by decide) _ M.length (Nt.wrCells M) rfl (hrow6.alloc _) (some ⟨w6.heap.size, 0, none⟩) 1 1 (fun h => by cases h) (Nt.wrCells [(x0, x1, x2, x3)]) rfl rfl ?c1 (Nt.wrCells_one _) ?c3 ?c4 ?c5 ?_)
      case c1 =>
        intro _
        refine ⟨w6.heap.size, 0, rfl, fun j u hu => ?_⟩
        rw [Nat.zero_add]
        exact (Blk.new w6 27 #[.int .i64 x0, .int .i64 x1, .int .i64 x2, .bool x3]).cell (by simpa [Nt.wrCells, Nt.wrCell] using hu)
      case c3 => unfold maxLen; omega
      case c4 => omega
      case c5 => simp; omega
      intro v' w7 hown1 hg1 hm1
      obtain ⟨g', cap', rfl⟩ := ownsRow_succ hown1
      obtain ⟨hv1, hv2, hr2, hk2, hb2⟩ := hv6.appended (by decide) hrow6 hsz6 (by omega) hown1 hg1
      have hc1 := hv1.cell
      have hf1 := hv1.frozen
      have hUN : (w7.setCell ⟨g + 1, 0, none⟩ (.slice (some ⟨g', 0, none⟩) (M.length + 1) cap')).ownsRow w.heap.size 66 2 (.slice U us.length du) us.length (stCells us) := by
        have q1 := own_later HU6.out (below_new (Below.refl w6.heap.size w6) (.cells #[.int .i64 x0, .int .i64 x1, .int .i64 x2, .bool x3] 27))
        have q2 := own_stays q1 (fun k hk => hg1.block k (own_lt q1 k hk) (fun e => own_apart HU6.out HR6.out (by decide) k hk e))
        exact own_stays q2 (fun k hk => Below.heap_setCell _ _ _ k (fun e => by
          have e : k = g + 1 := e
          exact hv1.not_row (by decide) q2 (by rw [hk, e])))
      have hON : Blk (w7.setCell ⟨g + 1, 0, none⟩ (.slice (some ⟨g', 0, none⟩) (M.length + 1) cap')) g 37 #[.slice U us.length du] := by
        have q1 := HO6.out.alloc (.cells #[.int .i64 x0, .int .i64 x1, .int .i64 x2, .bool x3] 27)
        have q2 : Blk w7 g 37 #[.slice U us.length du] := (hg1.block g q1.lt (fun e => by
          have q1' : Boxed w6 g 37 (.slice U us.length du) := HO6.out
          exact q1'.not_row (by decide) HR6.out e)).trans q1
        exact q2.far (p := ⟨g + 1, 0, none⟩) (by show g ≠ g + 1; omega) _
      have HUN := Lib.hid hUN
      have HON := Lib.hid hON
      have HV2 := Lib.hid hv2
      have HR2 := Lib.hid hr2
      have KF := Lib.hid (KeepsFrom.trans (keepsF_below (n0 := w4.heap.size) B2.out) (hk2.from _))
      have FB := Lib.hid (HBW6.out.trans hb2)
      clear hv2 hr2 hown1 hg1 hrow6 hv6 hv1 hUN hON hk2 hb2 hc6
      gi_wp2
      exact ⟨KF.out, fun _ => HL.out.later FB.out, ⟨⟨HON.out, HUN.out⟩, _, HV2.out, by rw [HSN.out, Nt.wrCells_append, List.length_append]; exact HR2.out, trivial⟩, FB.out⟩
  case done =>
    rintro DD ys W hDD hys ⟨⟨-, v, hv, hrow, -⟩, i3⟩ hK
    subst hys
    rw [HXS.out] at hrow
    obtain ⟨VA, vc, rfl, hO⟩ := OneW.of_own hrow
    have hc := hv.cell
    have HO := Lib.hid hO
    have I3 := Lib.hid i3
    clear SEQ hv hrow hO i3 E7 E8 hU4 bb4
    gi_wp2
    refine ⟨by simp, .inl ⟨_, _, rfl, run_takeDeferred hK, ?_⟩⟩
    have QR := oneW_own VA vc (Sf.kin s l) () _ _ (some DD) HO.out (grownBy_putObj' _ DD (.deferred none)) (fun r e => by cases e; exact ⟨_, hK, rfl⟩)
    exact ⟨.tuple #[.slice VA (Sf.kin s l).length vc, .int .i64 0], by simp [results, Try.f16, go_sem], VA, vc, rfl, QR, I3.out.trans (belowK_b (w := w) (Nat.le_refl _) _ DD _ _ (by omega) hK rfl rfl)⟩
end Go.Proofs.Ytbpgofgdlikedaa
