/-
  What shelf's Formed answers.
  What shelf's Get answers.
  The zero value of an array of 256 writes, by one name, however the program's text was loaded.
  What telltaleref04's Told answers.
-/
import Derived.Test.YtbpgofgdlikedaaG11
import Derived.Test.YtbpgofgdlikedaaG04
import Derived.Test.YtbpgofgdlikedaaG10
import Derived.Test.YtbpgofgdlikedaaG09
namespace Go.Proofs.Ytbpgofgdlikedaa
open Go.RowKit Go.Shelf
attribute [local go_sem] Oper.semAt_some

namespace Sf
/-- The last write's object; -1 if there is none. -/
def last (pre : List Wr) : Int := match pre.getLast? with
  | some x => x.2.2.1
  | none => -1
theorem last_snoc (pre : List Wr) (x : Wr) : last (pre ++ [x]) = x.2.2.1 := by unfold last; rw [List.getLast?_concat]
theorem le_last {pre : List Wr} (h : fmd pre = true) : ∀ a ∈ pre, a.2.2.1 ≤ last pre := by
  rcases List.eq_nil_or_concat pre with rfl | ⟨q, y, rfl⟩
  · intro a ha; cases ha
  · rw [List.concat_eq_append] at h ⊢
    rw [last_snoc]
    intro a ha
    have hp := (List.pairwise_append.1 ((fmd_list _).1 h).2).2.2
    rcases List.mem_append.1 ha with ha | ha
    · have := hp a ha y (by simp); omega
    · obtain rfl : a = y := by simpa using ha
      exact Int.le_refl _
theorem last_mem (pre : List Wr) : last pre = -1 ∨ ∃ y ∈ pre, last pre = y.2.2.1 := by
  rcases List.eq_nil_or_concat pre with rfl | ⟨q, y, rfl⟩
  · exact .inl rfl
  · rw [List.concat_eq_append, last_snoc]
    exact .inr ⟨y, by simp, rfl⟩
theorem fmd_pre {pre l : List Wr} (hp : pre <+: l) (h : fmd l = true) : fmd pre = true := by
  rw [fmd_list] at h ⊢
  obtain ⟨t, rfl⟩ := hp
  exact ⟨fun x hx => h.1 x (by simp [hx]), (List.pairwise_append.1 h.2).1⟩
theorem fmd_pre_no {pre l : List Wr} (hp : pre <+: l) (h : fmd pre = false) : fmd l = false := by
  cases hl : fmd l with
  | false => rfl
  | true => rw [fmd_pre hp hl] at h; cases h
theorem fmd_snoc {pre : List Wr} (x : Wr) (h : fmd pre = true) : fmd (pre ++ [x]) = (!(decide (x.2.2.1 ≤ last pre)) && right x) := by
  rw [Bool.eq_iff_iff, fmd_list, Bool.and_eq_true, Bool.not_eq_true', decide_eq_false_iff_not]
  constructor
  · rintro ⟨h1, h2⟩
    refine ⟨?_, h1 x (by simp)⟩
    rcases last_mem pre with e | ⟨y, hy, e⟩
    · have := ((right_iff x).1 (h1 x (by simp))).1; omega
    · have := (List.pairwise_append.1 h2).2.2 y hy x (by simp); omega
  · rintro ⟨h1, h2⟩
    have hf := (fmd_list pre).1 h
    refine ⟨fun y hy => ?_, List.pairwise_append.2 ⟨hf.2, List.pairwise_singleton _ _, fun a ha b hb => ?_⟩⟩
    · rcases List.mem_append.1 hy with hy | hy
      · exact hf.1 y hy
      · obtain rfl : y = x := by simpa using hy
        exact h2
    · obtain rfl : b = x := by simpa using hb
      have := le_last h a ha
      omega
end Sf

set_option maxRecDepth 100000 in
set_option maxHeartbeats 3200000 in
theorem sdformed_any (A : Option Addr) (c : Nat) (l : List Wr) (w : World) (h : OneW w A c l) :
    Calls Try.prog 11 #[.slice A l.length c] w (Says (.bool (Sf.fmd l)) w) := by
  have HL := Lib.hid h
  have b0 := below_new (below_new (Below.refl w.heap.size w) (.cells #[.bool false] 4)) (.cells #[.int .i64 (-1)] 3)
  have B0 := (Blk.new w 4 #[.bool false]).alloc (.cells #[.int .i64 (-1)] 3)
  have L0 := Blk.new (w.alloc (.cells #[.bool false] 4)) 3 #[.int .i64 (-1)]
  rw [World.size_alloc] at L0
  obtain ⟨W, hW⟩ : ∃ W, (w.alloc (.cells #[.bool false] 4)).alloc (.cells #[.int .i64 (-1)] 3) = W := ⟨_, rfl⟩
  rw [hW] at b0 B0 L0
  have HW := Lib.hid hW
  clear h hW
  refine (callsIn_wide (n := 3)).1 ?_
  refine callsIn_of_wp_marks Try.func11 rfl trivial ?_ rfl
  simp only [Try.ntmps11, List.size_toArray, List.length_cons, List.length_nil, Nat.reduceAdd, Nat.reduceSub, Array.replicate_succ, Array.replicate_zero, List.push_toArray, List.append_toArray, List.nil_append, List.cons_append]
  gi_wp2_with fail
  rw [HW.out]
  refine ⟨trivial, (callsIn_wide.2 (each_any A c l W)).mono ?_⟩
  rintro e w1 ⟨bl, rfl, hbl, b1⟩
  have bb1 := below_on b0 b1
  have B1 := B0.later b1
  have L1 := L0.later b1
  have hz1 := bb1.size
  have hlt1 := L1.lt
  have SEQ := eachW_stops id l l (List.map_id l) 2 (by omega) bl c A w1 (HL.out.later bb1) hbl
  clear b0 B0 L0 b1 HW hbl
  gi_wp2_with fail
  refine wpIn_rangeFunc_ownH rfl (by omega) (gf := 31) (lb := #[.pointer (some ⟨bl, 0, none⟩)]) rfl trivial enters_eachW SEQ KeepL.trans (fun W l' o o' _ h1 h2 _ => KeepL.put W l' o o' h1 h2) (Below.refl _ _) (fun _ => rfl)
    (fun pre W => ((Sf.fmd pre = true ∧ Blk W w.heap.size 4 #[.bool false]) ∧ Blk W (w.heap.size + 1) 3 #[.int .i64 (Sf.last pre)]) ∧ Below w.heap.size w W)
    (fun c pre W => ((c = .ret ∧ Sf.fmd pre = false) ∧ Blk W w.heap.size 4 #[.bool false]) ∧ Below w.heap.size w W)
    ?hI ?hIx ⟨⟨⟨Sf.fmd_nil, B1⟩, L1⟩, bb1⟩
    (fun x a' W => ∃ Bx, Blk W Bx 27 (Nt.wrArr x) ∧ a' = { tmps := #[.slice A l.length c, undef, .pointer (some ⟨w.heap.size, 0, none⟩), .pointer (some ⟨w.heap.size + 1, 0, none⟩), .int .i64 x.2.2.1, .pointer (some ⟨Bx, 0, none⟩), .slice A l.length c, .func (.func 31) #[] #[.pointer (some ⟨bl, 0, none⟩)], .int .i64 x.2.2.1, Nt.wrV x, undef, undef, undef, undef, undef, undef, undef, undef, undef], defers := [] })
    ?hAx ?assign ?body ?done ?stop
  case hI => exact OwnFrom.and (OwnFrom.and (OwnFrom.and (ownFrom_pure _ _) (Own.from (blk_own _ _ fun _ => #[.bool false]) _)) (Own.from (blk_own _ _ fun pre => #[.int .i64 (Sf.last pre)]) _)) (ownFrom_below (Nat.le_refl _) hz1)
  case hIx => exact fun c' => OwnFrom.and (OwnFrom.and (ownFrom_pure _ _) (Own.from (blk_own _ _ fun _ => #[.bool false]) _)) (ownFrom_below (Nat.le_refl _) hz1)
  case hAx => exact fun x a' _ X Y row ⟨Bx, h1, h2⟩ hg hr => ⟨Bx, blk_own _ _ (fun (_ : Unit) => Nt.wrArr x) () X Y row h1 hg (fun r e => (hr r e).2), h2⟩
  case assign =>
    rintro l' pre x W K ⟨⟨⟨i0, i1⟩, i3⟩, i2⟩ hK
    obtain ⟨x0, x1, x2, x3⟩ := x
    unfold toldW Nt.wrV
    unfold Nt.wrV Nt.wrArr at hK
    dsimp only [id] at hK ⊢
    have bN := below_new (Below.refl W.heap.size W) (.cells #[.int .i64 x0, .int .i64 x1, .int .i64 x2, .bool x3] 27)
    have HK := Lib.hid hK
    have F1 := Lib.hid (i1.later bN)
    have F2 := Lib.hid (below_on i2 bN)
    have F3 := Lib.hid (Blk.new W 27 #[.int .i64 x0, .int .i64 x1, .int .i64 x2, .bool x3])
    have F4 := Lib.hid i0
    have F5 := Lib.hid bN
    have F6 := Lib.hid (i3.later bN)
    clear hK i0 i1 i2 i3 bN
    gi_wp2
    exact HK.out _ _ (keepsF_below F5.out) (fun h => h.later F5.out) ⟨⟨⟨F4.out, F1.out⟩, F6.out⟩, F2.out⟩ ⟨_, F3.out, rfl⟩
  case body =>
    rintro l' pre x a' W hl _ ⟨⟨⟨i0, i1⟩, i3⟩, i2⟩ ⟨Bx, hX, rfl⟩ hlt
    have hlx := HL.out.later i2
    obtain ⟨x0, x1, x2, x3⟩ := x
    have hsn := Sf.fmd_snoc (x0, x1, x2, x3) i0
    have hls := Sf.last_snoc pre (x0, x1, x2, x3)
    have N1 := Lib.hid (sdright_any (x0, x1, x2, x3) W)
    unfold Nt.wrV at N1 ⊢
    unfold Nt.wrArr at hX
    dsimp only at N1 hX hsn hls ⊢
    obtain ⟨la, hla⟩ : ∃ la, Sf.last pre = la := ⟨_, rfl⟩
    rw [hla] at hsn i3
    have g0 := hX.cell (i := 0) rfl
    have g1 := hX.cell (i := 1) rfl
    have g2 := hX.cell (i := 2) rfl
    have g3 := hX.cell (i := 3) rfl
    have l0 := i3.cell (i := 0) rfl
    have lf := i3.free 0
    have c1 := i1.cell (i := 0) rfl
    have f1 := i1.free 0
    have HLS := Lib.hid hls
    have I1 := Lib.hid i1
    have I2 := Lib.hid i2
    have I3 := Lib.hid i3
    have HLX := Lib.hid hlx
    obtain ⟨q, hq⟩ : ∃ q, Sf.right (x0, x1, x2, x3) = q := ⟨_, rfl⟩
    rw [hq] at N1 hsn
    by_cases hd : x2 ≤ la
    · have hd1 : decide (x2 ≤ la) = true := decide_eq_true hd
      rw [hd1] at hsn
      have FIN := Lib.hid (show KeepsFrom w1.heap.size W (W.setCell ⟨w.heap.size, 0, none⟩ (.bool false)) ∧ ((Code.ret = .ret ∧ Sf.fmd (pre ++ [(x0, x1, x2, x3)]) = false) ∧ Blk (W.setCell ⟨w.heap.size, 0, none⟩ (.bool false)) w.heap.size 4 #[.bool false]) ∧ Below w.heap.size w (W.setCell ⟨w.heap.size, 0, none⟩ (.bool false)) from
        ⟨(KeepsOthers.setCell _ _ _).from _, ⟨⟨rfl, hsn⟩, i1.put 0 (.bool false)⟩, i2.setCell (p := ⟨w.heap.size, 0, none⟩) (Nat.le_refl _) _⟩)
      clear hX i0 i1 i2 i3 hlx hq hsn hls SEQ B1 L1 hl hla N1
      gi_wp2_with fail
      first
        | (refine ⟨trivial, ?_⟩
           gi_wp2
           exact ⟨FIN.out.1, ⟨⟨rfl, FIN.out.2.1.1.2⟩, FIN.out.2.1.2⟩, FIN.out.2.2⟩)
        | exact ⟨FIN.out.1, ⟨⟨rfl, FIN.out.2.1.1.2⟩, FIN.out.2.1.2⟩, FIN.out.2.2⟩
    · have hd1 : decide (x2 ≤ la) = false := decide_eq_false hd
      rw [hd1] at hsn
      have HSN := Lib.hid hsn
      clear hX i0 i1 i2 i3 hlx hq hsn hls SEQ B1 L1 hl hla
      gi_wp2_with fail
      refine ⟨trivial, (CallsIn.inRound l' (callsIn_wide.2 N1.out)).mono ?_⟩
      rintro e w2 ⟨rfl, b2⟩
      have C1 := I1.out.later b2
      have C3 := I3.out.later b2
      have c1 := C1.cell (i := 0) rfl
      have f1 := C1.free 0
      have m1 := C3.cell (i := 0) rfl
      have mf1 := C3.free 0
      have hb2 := below_on I2.out b2
      cases q with
      | true =>
        have FIN := Lib.hid (show KeepsFrom w1.heap.size W (w2.setCell ⟨w.heap.size + 1, 0, none⟩ (.int .i64 x2)) ∧ KeepL A c l W (w2.setCell ⟨w.heap.size + 1, 0, none⟩ (.int .i64 x2)) ∧ ((Sf.fmd (pre ++ [(x0, x1, x2, x3)]) = true ∧ Blk (w2.setCell ⟨w.heap.size + 1, 0, none⟩ (.int .i64 x2)) w.heap.size 4 #[.bool false]) ∧ Blk (w2.setCell ⟨w.heap.size + 1, 0, none⟩ (.int .i64 x2)) (w.heap.size + 1) 3 #[.int .i64 (Sf.last (pre ++ [(x0, x1, x2, x3)]))]) ∧ Below w.heap.size w (w2.setCell ⟨w.heap.size + 1, 0, none⟩ (.int .i64 x2)) from
          ⟨(keepsF_below b2).trans ((KeepsOthers.setCell _ _ _).from _), fun _ => HL.out.later (hb2.setCell (p := ⟨w.heap.size + 1, 0, none⟩) (by show w.heap.size ≤ w.heap.size + 1; omega) _), ⟨⟨HSN.out, C1.far (p := ⟨w.heap.size + 1, 0, none⟩) (by show w.heap.size ≠ w.heap.size + 1; omega) _⟩, by rw [HLS.out]; exact C3.put 0 (.int .i64 x2)⟩, hb2.setCell (p := ⟨w.heap.size + 1, 0, none⟩) (by show w.heap.size ≤ w.heap.size + 1; omega) _⟩)
        clear b2 C1 C3 c1 f1 hb2 N1 g0 g1 g2 g3 l0 lf
        gi_wp2
        exact FIN.out
      | false =>
        have FIN := Lib.hid (show KeepsFrom w1.heap.size W (w2.setCell ⟨w.heap.size, 0, none⟩ (.bool false)) ∧ ((Code.ret = .ret ∧ Sf.fmd (pre ++ [(x0, x1, x2, x3)]) = false) ∧ Blk (w2.setCell ⟨w.heap.size, 0, none⟩ (.bool false)) w.heap.size 4 #[.bool false]) ∧ Below w.heap.size w (w2.setCell ⟨w.heap.size, 0, none⟩ (.bool false)) from
          ⟨(keepsF_below b2).trans ((KeepsOthers.setCell _ _ _).from _), ⟨⟨rfl, HSN.out⟩, C1.put 0 (.bool false)⟩, hb2.setCell (p := ⟨w.heap.size, 0, none⟩) (Nat.le_refl _) _⟩)
        clear b2 C1 C3 hb2 N1 g0 g1 g2 g3 l0 lf m1 mf1
        gi_wp2
        exact ⟨FIN.out.1, ⟨⟨rfl, FIN.out.2.1.1.2⟩, FIN.out.2.1.2⟩, FIN.out.2.2⟩
  case done =>
    rintro DD ys W hDD hys ⟨⟨⟨i0, i1⟩, -⟩, i2⟩ hK
    subst hys
    have c1 := i1.cell (i := 0) rfl
    have f1 := i1.free 0
    have C2 := i1.put 0 (.bool true)
    have hK' := (KeepsOthers.setCell W ⟨w.heap.size, 0, none⟩ (.bool true)).same DD _ hK rfl
    have hb3 := i2.setCell (p := ⟨w.heap.size, 0, none⟩) (Nat.le_refl _) (.bool true)
    have HC2 := Lib.hid C2
    have HB3 := Lib.hid hb3
    have HK' := Lib.hid hK'
    have H0 := Lib.hid i0
    clear SEQ i0 i1 i2 hb3 C2 B1 L1
    gi_wp2
    refine ⟨by simp, .inl ⟨_, _, rfl, run_takeDeferred HK'.out, ?_⟩⟩
    have hc5 := cell_kept (HC2.out.cell (i := 0) rfl) (grownBy_putObj' _ DD (.deferred none)) (fun r e => by cases e; exact ⟨_, HK'.out, rfl⟩)
    refine ⟨.bool true, ?_, by rw [H0.out], HB3.out.trans (belowK_b (w := w) (Nat.le_refl _) _ DD _ _ (by omega) HK'.out rfl rfl)⟩
    simp [results, Try.f11, go_sem, hc5]
  case stop =>
    rintro DD c' pre W hDD hpre ⟨⟨⟨rfl, i0⟩, i1⟩, i2⟩ hK
    have hall := Sf.fmd_pre_no hpre i0
    have H0 := Lib.hid hall
    have c1 := i1.cell (i := 0) rfl
    clear SEQ i0 hall B1 L1
    gi_wp2
    refine ⟨by simp, .inl ⟨_, _, rfl, run_takeDeferred hK, ?_⟩⟩
    have hc5 := cell_kept c1 (grownBy_putObj' _ DD (.deferred none)) (fun r e => by cases e; exact ⟨_, hK, rfl⟩)
    refine ⟨.bool false, ?_, by rw [H0.out], i2.trans (belowK_b (w := w) (Nat.le_refl _) W DD _ _ (by omega) hK rfl rfl)⟩
    simp [results, Try.f11, go_sem, hc5]
end Go.Proofs.Ytbpgofgdlikedaa
namespace Go.Proofs.Ytbpgofgdlikedaa
open Go.RowKit Go.Shelf
attribute [local go_sem] Oper.semAt_some

/-- A write and a number are answered out of their cells. -/
theorem results_wr {P : Program} {fn : Func} {p q : Tmp} {ty t2 : TypeId} (h : fn.results = #[.cell p ty, .cell q t2]) (tmps : Array Value) (w : World) (g g2 : Nat) (t : TypeId) (cs : Array Value) (d : TypeDesc) (v : Value)
    (hp : tmps.getD p undef = .pointer (some ⟨g, 0, none⟩)) (hg : Blk w g t cs) (hu : P.underlying ty = some d) (hd : (match d with | .struct _ | .array _ _ => true | _ => false) = true) (hi : (P.info? ty).map (·.size) = some cs.size)
    (hq : tmps.getD q undef = .pointer (some ⟨g2, 0, none⟩)) (hv : (loadVar t2 ⟨g2, 0, none⟩).run P w = .ok v w) :
    (results fn tmps).run P w = .ok (.tuple #[.agg cs, v]) w := by
  have hp' : tmps[p]?.getD undef = .pointer (some ⟨g, 0, none⟩) := by simpa using hp
  have hq' : tmps[q]?.getD undef = .pointer (some ⟨g2, 0, none⟩) := by simpa using hq
  simp [results, h, hp', hq', asAddr, run_loadVar_row w g t ty cs (0, 0) d hg hu hd hi, hv]

theorem Nt.at_find (l : List Wr) (o : Int) (x : Wr) (h : l.find? (fun x => decide (x.2.2.1 = o)) = some x) : Nt.at_ l o = (x, true) := by unfold Nt.at_; rw [h]
theorem Nt.at_nowhere (l : List Wr) (o : Int) (h : ∀ y ∈ l, y.2.2.1 ≠ o) : Nt.at_ l o = (Nt.zeroW, false) := by
  have : l.find? (fun x => decide (x.2.2.1 = o)) = none := by
    rw [List.find?_eq_none]
    intro y hy e
    exact h y hy (of_decide_eq_true e)
  unfold Nt.at_; rw [this]
theorem Nt.find_pre {pre l : List Wr} {o : Int} {x : Wr} (hp : pre <+: l) (h : pre.find? (fun x => decide (x.2.2.1 = o)) = some x) : l.find? (fun x => decide (x.2.2.1 = o)) = some x := by
  obtain ⟨t, rfl⟩ := hp
  rw [List.find?_append, h]
  rfl
theorem Nt.find_snoc {pre : List Wr} {o : Int} {x : Wr} (h : ∀ y ∈ pre, y.2.2.1 ≠ o) (hx : x.2.2.1 = o) : (pre ++ [x]).find? (fun x => decide (x.2.2.1 = o)) = some x := by
  have : pre.find? (fun x => decide (x.2.2.1 = o)) = none := by
    rw [List.find?_eq_none]
    intro y hy e
    exact h y hy (of_decide_eq_true e)
  rw [List.find?_append, this]
  simp [hx]

set_option maxRecDepth 100000 in
set_option maxHeartbeats 3200000 in
theorem sdget_any (A : Option Addr) (c : Nat) (l : List Wr) (o : Int) (w : World) (h : OneW w A c l) :
    Calls Try.prog 9 #[.slice A l.length c, .int .i64 o] w (Says (.tuple #[Nt.wrV (Sf.getR l o).1, .int .i64 (Sf.getR l o).2]) w) := by
  have HL := Lib.hid h
  have b0 := below_new (below_new (below_new (Below.refl w.heap.size w) (.cells #[.int .i64 o] 3)) (.cells #[.int .i64 0, .int .i64 0, .int .i64 0, .bool false] 27)) (.cells #[.int .i64 0] 28)
  have O0 := ((Blk.new w 3 #[.int .i64 o]).alloc (.cells #[.int .i64 0, .int .i64 0, .int .i64 0, .bool false] 27)).alloc (.cells #[.int .i64 0] 28)
  have W0 := (Blk.new (w.alloc (.cells #[.int .i64 o] 3)) 27 #[.int .i64 0, .int .i64 0, .int .i64 0, .bool false]).alloc (.cells #[.int .i64 0] 28)
  have E0 := Blk.new ((w.alloc (.cells #[.int .i64 o] 3)).alloc (.cells #[.int .i64 0, .int .i64 0, .int .i64 0, .bool false] 27)) 28 #[.int .i64 0]
  simp only [World.size_alloc] at W0 E0
  obtain ⟨W, hW⟩ : ∃ W, ((w.alloc (.cells #[.int .i64 o] 3)).alloc (.cells #[.int .i64 0, .int .i64 0, .int .i64 0, .bool false] 27)).alloc (.cells #[.int .i64 0] 28) = W := ⟨_, rfl⟩
  rw [hW] at b0 O0 W0 E0
  have HW := Lib.hid hW
  have N0 := Lib.hid (fun (w' : World) (b : Below w.heap.size w w') => sdformed_any A c l w' (h.later b))
  clear h hW
  refine (callsIn_wide (n := 3)).1 ?_
  refine callsIn_of_wp_marks Try.func9 rfl trivial ?_ rfl
  simp only [Try.ntmps9, List.size_toArray, List.length_cons, List.length_nil, Nat.reduceAdd, Nat.reduceSub, Array.replicate_succ, Array.replicate_zero, List.push_toArray, List.append_toArray, List.nil_append, List.cons_append]
  gi_wp2_with fail
  rw [HW.out]
  refine ⟨trivial, (callsIn_wide.2 (N0.out W b0)).mono ?_⟩
  rintro e w1 ⟨rfl, b1⟩
  have bb1 := below_on b0 b1
  have O1 := O0.later b1
  have W1 := W0.later b1
  have E1 := E0.later b1
  clear b0 O0 W0 E0 b1 HW N0
  cases hf : Sf.fmd l with
  | false =>
    have hR : Sf.getR l o = (Nt.zeroW, 1) := by unfold Sf.getR; rw [if_neg (by rw [hf]; simp)]
    have HR := Lib.hid hR
    have z0 := W1.cell (i := 0) rfl
    have z1 := W1.cell (i := 1) rfl
    have z2 := W1.cell (i := 2) rfl
    have z3 := W1.cell (i := 3) rfl
    have y0 := W1.free 0
    have y1 := W1.free 1
    have y2 := W1.free 2
    have y3 := W1.free 3
    have e0 := E1.cell (i := 0) rfl
    have ef := E1.free 0
    have hf0 : w.heap.size ≤ w.heap.size + 1 := by omega
    have hf1 : w.heap.size ≤ w.heap.size + 1 + 1 := by omega
    have FW := Lib.hid (((((W1.put 0 (.int .i64 0)).put 1 (.int .i64 0)).put 2 (.int .i64 0)).put 3 (.bool false)).far (p := ⟨w.heap.size + 1 + 1, 0, none⟩) (by show w.heap.size + 1 ≠ w.heap.size + 1 + 1; omega) (.int .i64 1))
    have FE := Lib.hid (((((E1.far (p := ⟨w.heap.size + 1, 0, none⟩) (by show w.heap.size + 1 + 1 ≠ w.heap.size + 1; omega) (.int .i64 0)).far (p := ⟨w.heap.size + 1, 1, none⟩) (by show w.heap.size + 1 + 1 ≠ w.heap.size + 1; omega) (.int .i64 0)).far (p := ⟨w.heap.size + 1, 2, none⟩) (by show w.heap.size + 1 + 1 ≠ w.heap.size + 1; omega) (.int .i64 0)).far (p := ⟨w.heap.size + 1, 3, none⟩) (by show w.heap.size + 1 + 1 ≠ w.heap.size + 1; omega) (.bool false)).put 0 (.int .i64 1))
    have FB := Lib.hid (((((bb1.setCell (p := ⟨w.heap.size + 1, 0, none⟩) hf0 (.int .i64 0)).setCell (p := ⟨w.heap.size + 1, 1, none⟩) hf0 (.int .i64 0)).setCell (p := ⟨w.heap.size + 1, 2, none⟩) hf0 (.int .i64 0)).setCell (p := ⟨w.heap.size + 1, 3, none⟩) hf0 (.bool false)).setCell (p := ⟨w.heap.size + 1 + 1, 0, none⟩) hf1 (.int .i64 1))
    clear hf hR O1 W1 E1 bb1
    gi_wp2
    have fe := FE.out.cell (i := 0) rfl
    refine ⟨_, results_wr rfl _ _ (w.heap.size + 1) (w.heap.size + 1 + 1) _ _ _ (.int .i64 1) rfl FW.out rfl rfl (by kernel_rfl) rfl (by simp [go_sem, fe]), ?_, FB.out⟩
    rw [HR.out]
    rfl
  | true =>
  have HF := Lib.hid hf
  gi_wp2_with fail
  refine ⟨trivial, (callsIn_wide.2 (each_any A c l w1)).mono ?_⟩
  rintro e w2 ⟨bl, rfl, hbl, b2⟩
  have bb2 := below_on bb1 b2
  have O2 := O1.later b2
  have W2 := W1.later b2
  have E2 := E1.later b2
  have hz2 := bb2.size
  have hlt2 := E2.lt
  have SEQ := eachW_stops id l l (List.map_id l) 2 (by omega) bl c A w2 (HL.out.later bb2) hbl
  clear bb1 b2 O1 W1 E1 hbl hf
  gi_wp2_with fail
  refine wpIn_rangeFunc_ownH rfl (by omega) (gf := 31) (lb := #[.pointer (some ⟨bl, 0, none⟩)]) rfl trivial enters_eachW SEQ KeepL.trans (fun W l' o o' _ h1 h2 _ => KeepL.put W l' o o' h1 h2) (Below.refl _ _) (fun _ => rfl)
    (fun pre W => ((((∀ y ∈ pre, y.2.2.1 ≠ o) ∧ Blk W w.heap.size 3 #[.int .i64 o]) ∧ Blk W (w.heap.size + 1) 27 #[.int .i64 0, .int .i64 0, .int .i64 0, .bool false]) ∧ Blk W (w.heap.size + 1 + 1) 28 #[.int .i64 0]) ∧ Below w.heap.size w W)
    (fun c pre W => ∃ x : Wr, (((c = .ret ∧ pre.find? (fun x => decide (x.2.2.1 = o)) = some x) ∧ Blk W (w.heap.size + 1) 27 (Nt.wrArr x)) ∧ Blk W (w.heap.size + 1 + 1) 28 #[.int .i64 0]) ∧ Below w.heap.size w W)
    ?hI ?hIx ⟨⟨⟨⟨(fun y hy => by cases hy), O2⟩, W2⟩, E2⟩, bb2⟩
    (fun x a' W => ∃ Bx, Blk W Bx 27 (Nt.wrArr x) ∧ a' = { tmps := #[.slice A l.length c, .int .i64 o, undef, .pointer (some ⟨w.heap.size, 0, none⟩), .pointer (some ⟨w.heap.size + 1, 0, none⟩), .pointer (some ⟨w.heap.size + 1 + 1, 0, none⟩), .int .i64 x.2.2.1, .pointer (some ⟨Bx, 0, none⟩), .slice A l.length c, .bool true, .bool false, undef, .slice A l.length c, .func (.func 31) #[] #[.pointer (some ⟨bl, 0, none⟩)], .int .i64 x.2.2.1, Nt.wrV x, undef, undef, undef, undef, undef], defers := [] })
    ?hAx ?assign ?body ?done ?stop
  case hI => exact OwnFrom.and (OwnFrom.and (OwnFrom.and (OwnFrom.and (ownFrom_pure _ _) (Own.from (blk_own _ _ fun _ => #[.int .i64 o]) _)) (Own.from (blk_own _ _ fun _ => #[.int .i64 0, .int .i64 0, .int .i64 0, .bool false]) _)) (Own.from (blk_own _ _ fun _ => #[.int .i64 0]) _)) (ownFrom_below (Nat.le_refl _) hz2)
  case hIx => exact fun c' pre X Y row ⟨x, hx⟩ hg hr => ⟨x, (OwnFrom.and (OwnFrom.and (OwnFrom.and (ownFrom_pure _ (fun pre : List Wr => c' = .ret ∧ pre.find? (fun x => decide (x.2.2.1 = o)) = some x)) (Own.from (blk_own _ _ fun _ => Nt.wrArr x) _)) (Own.from (blk_own _ _ fun _ => #[.int .i64 0]) _)) (ownFrom_below (Nat.le_refl _) hz2)) pre X Y row hx hg hr⟩
  case hAx => exact fun x a' _ X Y row ⟨Bx, h1, h2⟩ hg hr => ⟨Bx, blk_own _ _ (fun (_ : Unit) => Nt.wrArr x) () X Y row h1 hg (fun r e => (hr r e).2), h2⟩
  case assign =>
    rintro l' pre x W K ⟨⟨⟨⟨i0, i1⟩, i3⟩, i4⟩, i2⟩ hK
    obtain ⟨x0, x1, x2, x3⟩ := x
    unfold toldW Nt.wrV
    unfold Nt.wrV Nt.wrArr at hK
    dsimp only [id] at hK ⊢
    have bN := below_new (Below.refl W.heap.size W) (.cells #[.int .i64 x0, .int .i64 x1, .int .i64 x2, .bool x3] 27)
    have HK := Lib.hid hK
    have F1 := Lib.hid (i1.later bN)
    have F2 := Lib.hid (below_on i2 bN)
    have F3 := Lib.hid (Blk.new W 27 #[.int .i64 x0, .int .i64 x1, .int .i64 x2, .bool x3])
    have F4 := Lib.hid i0
    have F5 := Lib.hid bN
    have F6 := Lib.hid (i3.later bN)
    have F7 := Lib.hid (i4.later bN)
    clear hK i0 i1 i2 i3 i4 bN SEQ O2 W2 E2
    gi_wp2
    exact HK.out _ _ (keepsF_below F5.out) (fun h => h.later F5.out) ⟨⟨⟨⟨F4.out, F1.out⟩, F6.out⟩, F7.out⟩, F2.out⟩ ⟨_, F3.out, rfl⟩
  case body =>
    rintro l' pre x a' W hl _ ⟨⟨⟨⟨i0, i1⟩, i3⟩, i4⟩, i2⟩ ⟨Bx, hX, rfl⟩ hlt
    obtain ⟨x0, x1, x2, x3⟩ := x
    have hfs := Nt.find_snoc (x := (x0, x1, x2, x3)) i0
    unfold Nt.wrV
    unfold Nt.wrArr at hX
    dsimp only at hX hfs ⊢
    have o0 := i1.cell (i := 0) rfl
    have FI := Lib.hid (show KeepsFrom w2.heap.size W W ∧ KeepL A c l W W ∧ ((((x2 ≠ o → ∀ y ∈ pre ++ [(x0, x1, x2, x3)], y.2.2.1 ≠ o) ∧ Blk W w.heap.size 3 #[.int .i64 o]) ∧ Blk W (w.heap.size + 1) 27 #[.int .i64 0, .int .i64 0, .int .i64 0, .bool false]) ∧ Blk W (w.heap.size + 1 + 1) 28 #[.int .i64 0]) ∧ Below w.heap.size w W from
      ⟨KeepsFrom.refl _ _, id, ⟨⟨⟨fun hne y hy => by
        rcases List.mem_append.1 hy with hy | hy
        · exact i0 y hy
        · rw [List.mem_singleton] at hy; subst hy; exact hne, i1⟩, i3⟩, i4⟩, i2⟩)
    by_cases hd : x2 = o
    · have hd1 : (x2 == o) = true := beq_iff_eq.2 hd
      have g0 := hX.cell (i := 0) rfl
      have g1 := hX.cell (i := 1) rfl
      have g2 := hX.cell (i := 2) rfl
      have g3 := hX.cell (i := 3) rfl
      have z0 := i3.cell (i := 0) rfl
      have z1 := i3.cell (i := 1) rfl
      have z2 := i3.cell (i := 2) rfl
      have z3 := i3.cell (i := 3) rfl
      have y0 := i3.free 0
      have y1 := i3.free 1
      have y2 := i3.free 2
      have y3 := i3.free 3
      have e0 := i4.cell (i := 0) rfl
      have ef := i4.free 0
      have hf0 : w.heap.size ≤ w.heap.size + 1 := by omega
      have hf1 : w.heap.size ≤ w.heap.size + 1 + 1 := by omega
      have FW := Lib.hid (((((i3.put 0 (.int .i64 x0)).put 1 (.int .i64 x1)).put 2 (.int .i64 x2)).put 3 (.bool x3)).far (p := ⟨w.heap.size + 1 + 1, 0, none⟩) (by show w.heap.size + 1 ≠ w.heap.size + 1 + 1; omega) (.int .i64 0))
      have FE := Lib.hid (((((i4.far (p := ⟨w.heap.size + 1, 0, none⟩) (by show w.heap.size + 1 + 1 ≠ w.heap.size + 1; omega) (.int .i64 x0)).far (p := ⟨w.heap.size + 1, 1, none⟩) (by show w.heap.size + 1 + 1 ≠ w.heap.size + 1; omega) (.int .i64 x1)).far (p := ⟨w.heap.size + 1, 2, none⟩) (by show w.heap.size + 1 + 1 ≠ w.heap.size + 1; omega) (.int .i64 x2)).far (p := ⟨w.heap.size + 1, 3, none⟩) (by show w.heap.size + 1 + 1 ≠ w.heap.size + 1; omega) (.bool x3)).put 0 (.int .i64 0))
      have FB := Lib.hid (((((i2.setCell (p := ⟨w.heap.size + 1, 0, none⟩) hf0 (.int .i64 x0)).setCell (p := ⟨w.heap.size + 1, 1, none⟩) hf0 (.int .i64 x1)).setCell (p := ⟨w.heap.size + 1, 2, none⟩) hf0 (.int .i64 x2)).setCell (p := ⟨w.heap.size + 1, 3, none⟩) hf0 (.bool x3)).setCell (p := ⟨w.heap.size + 1 + 1, 0, none⟩) hf1 (.int .i64 0))
      have HFS := Lib.hid (hfs hd)
      clear hX i0 i1 i2 i3 i4 hfs hl SEQ O2 W2 E2 FI hd
      gi_wp2
      exact ⟨(((((KeepsOthers.setCell _ _ _).trans (KeepsOthers.setCell _ _ _)).trans (KeepsOthers.setCell _ _ _)).trans (KeepsOthers.setCell _ _ _)).trans (KeepsOthers.setCell _ _ _)).from _, (x0, x1, x2, x3), ⟨⟨⟨rfl, HFS.out⟩, FW.out⟩, FE.out⟩, FB.out⟩
    · have hd1 : (x2 == o) = false := beq_eq_false_iff_ne.2 hd
      have HD := Lib.hid hd
      clear hX i0 i1 i2 i3 i4 hfs hl SEQ O2 W2 E2 hd
      gi_wp2
      exact ⟨FI.out.1, FI.out.2.1, ⟨⟨⟨FI.out.2.2.1.1.1.1 HD.out, FI.out.2.2.1.1.1.2⟩, FI.out.2.2.1.1.2⟩, FI.out.2.2.1.2⟩, FI.out.2.2.2⟩
  case done =>
    rintro DD ys W hDD hys ⟨⟨⟨⟨i0, i1⟩, i3⟩, i4⟩, i2⟩ hK
    subst hys
    have hR : Sf.getR ys o = (Nt.zeroW, 8) := by unfold Sf.getR; rw [if_pos HF.out, Nt.at_nowhere ys o i0]; rfl
    have HR := Lib.hid hR
    have z0 := i3.cell (i := 0) rfl
    have z1 := i3.cell (i := 1) rfl
    have z2 := i3.cell (i := 2) rfl
    have z3 := i3.cell (i := 3) rfl
    have y0 := i3.free 0
    have y1 := i3.free 1
    have y2 := i3.free 2
    have y3 := i3.free 3
    have e0 := i4.cell (i := 0) rfl
    have ef := i4.free 0
    have hf0 : w.heap.size ≤ w.heap.size + 1 := by omega
    have hf1 : w.heap.size ≤ w.heap.size + 1 + 1 := by omega
    have FW := Lib.hid (((((i3.put 0 (.int .i64 0)).put 1 (.int .i64 0)).put 2 (.int .i64 0)).put 3 (.bool false)).far (p := ⟨w.heap.size + 1 + 1, 0, none⟩) (by show w.heap.size + 1 ≠ w.heap.size + 1 + 1; omega) (.int .i64 8))
    have FE := Lib.hid (((((i4.far (p := ⟨w.heap.size + 1, 0, none⟩) (by show w.heap.size + 1 + 1 ≠ w.heap.size + 1; omega) (.int .i64 0)).far (p := ⟨w.heap.size + 1, 1, none⟩) (by show w.heap.size + 1 + 1 ≠ w.heap.size + 1; omega) (.int .i64 0)).far (p := ⟨w.heap.size + 1, 2, none⟩) (by show w.heap.size + 1 + 1 ≠ w.heap.size + 1; omega) (.int .i64 0)).far (p := ⟨w.heap.size + 1, 3, none⟩) (by show w.heap.size + 1 + 1 ≠ w.heap.size + 1; omega) (.bool false)).put 0 (.int .i64 8))
    have FB := Lib.hid (((((i2.setCell (p := ⟨w.heap.size + 1, 0, none⟩) hf0 (.int .i64 0)).setCell (p := ⟨w.heap.size + 1, 1, none⟩) hf0 (.int .i64 0)).setCell (p := ⟨w.heap.size + 1, 2, none⟩) hf0 (.int .i64 0)).setCell (p := ⟨w.heap.size + 1, 3, none⟩) hf0 (.bool false)).setCell (p := ⟨w.heap.size + 1 + 1, 0, none⟩) hf1 (.int .i64 8))
    have FK := Lib.hid ((((((KeepsOthers.setCell W ⟨w.heap.size + 1, 0, none⟩ (.int .i64 0)).trans (KeepsOthers.setCell _ ⟨w.heap.size + 1, 1, none⟩ (.int .i64 0))).trans (KeepsOthers.setCell _ ⟨w.heap.size + 1, 2, none⟩ (.int .i64 0))).trans (KeepsOthers.setCell _ ⟨w.heap.size + 1, 3, none⟩ (.bool false))).trans (KeepsOthers.setCell _ ⟨w.heap.size + 1 + 1, 0, none⟩ (.int .i64 8))).same DD _ hK rfl)
    clear SEQ i0 i1 i2 i3 i4 O2 W2 E2 hR
    gi_wp2
    refine ⟨by simp, .inl ⟨_, _, rfl, run_takeDeferred FK.out, ?_⟩⟩
    have QW := blk_own _ _ (fun (_ : Unit) => #[.int .i64 0, .int .i64 0, .int .i64 0, .bool false]) () _ _ (some DD) FW.out (grownBy_putObj' _ DD (.deferred none)) (fun r e => by cases e; exact ⟨_, FK.out, rfl⟩)
    have QE := blk_own _ _ (fun (_ : Unit) => #[.int .i64 8]) () _ _ (some DD) FE.out (grownBy_putObj' _ DD (.deferred none)) (fun r e => by cases e; exact ⟨_, FK.out, rfl⟩)
    have fe := QE.cell (i := 0) rfl
    refine ⟨_, results_wr rfl _ _ (w.heap.size + 1) (w.heap.size + 1 + 1) _ _ _ (.int .i64 8) rfl QW rfl rfl (by kernel_rfl) rfl (by simp [go_sem, fe]), ?_, FB.out.trans (belowK_b (w := w) (Nat.le_refl _) _ DD _ _ (by omega) FK.out rfl rfl)⟩
    rw [HR.out]
    rfl
  case stop =>
    rintro DD c' pre W hDD hpre ⟨x, ⟨⟨⟨rfl, i0⟩, i3⟩, i4⟩, i2⟩ hK
    have hR : Sf.getR l o = (x, 0) := by unfold Sf.getR; rw [if_pos HF.out, Nt.at_find l o x (Nt.find_pre hpre i0)]; rfl
    have HR := Lib.hid hR
    clear SEQ O2 W2 E2 hR
    gi_wp2
    refine ⟨by simp, .inl ⟨_, _, rfl, run_takeDeferred hK, ?_⟩⟩
    have QW := blk_own _ _ (fun (_ : Unit) => Nt.wrArr x) () _ _ (some DD) i3 (grownBy_putObj' _ DD (.deferred none)) (fun r e => by cases e; exact ⟨_, hK, rfl⟩)
    have QE := blk_own _ _ (fun (_ : Unit) => #[.int .i64 0]) () _ _ (some DD) i4 (grownBy_putObj' _ DD (.deferred none)) (fun r e => by cases e; exact ⟨_, hK, rfl⟩)
    have fe := QE.cell (i := 0) rfl
    refine ⟨_, results_wr rfl _ _ (w.heap.size + 1) (w.heap.size + 1 + 1) _ _ _ (.int .i64 0) rfl QW rfl rfl (by kernel_rfl) rfl (by simp [go_sem, fe]), ?_, i2.trans (belowK_b (w := w) (Nat.le_refl _) W DD _ _ (by omega) hK rfl rfl)⟩
    rw [HR.out]
    rfl
end Go.Proofs.Ytbpgofgdlikedaa
namespace Go.Proofs.Ytbpgofgdlikedaa.Fb

def Try.zeroCells48 : Array Value := Sf.arr fun _ => Nt.zeroW

end Go.Proofs.Ytbpgofgdlikedaa.Fb
namespace Go.Proofs.Ytbpgofgdlikedaa
open Fb

set_option maxRecDepth 100000 in
theorem wrs_zero : Try.zeroCells48 = Sf.arr (fun _ => Nt.zeroW) := by rfl
@[simp] theorem wrs_zeroV (w : World) : (zeroValue 48).run Try.prog w = .ok (.agg Try.zeroCells48) w := by kernel_rfl
@[simp] theorem wrs_zero_size : Try.zeroCells48.size = 1024 := by rw [wrs_zero, Sf.arr_size]
@[simp] theorem wrs_zero_ne : ¬ Try.zeroCells48 = #[] := fun h => by have h2 := wrs_zero_size; rw [h] at h2; cases h2

theorem infoWrs : (Try.prog.info? 48).map (·.size) = some 1024 := by kernel_rfl

end Go.Proofs.Ytbpgofgdlikedaa
namespace Go.Proofs.Ytbpgofgdlikedaa
open Go.RowKit

namespace Nt
/-- What a note says of an object: its write, is it sharp, the error's number. -/
def told (n : Note) (o : Int) : Wr × Bool × Int :=
  if fmd n = true ∧ 0 ≤ o ∧ o ≤ 255 then (if (at_ n.ws o).2 = true then ((at_ n.ws o).1, true, 0) else (zeroW, !inOf n.b o, 8)) else (zeroW, false, 1)
def toldV (r : Wr × Bool × Int) : Value := .tuple #[wrV r.1, .bool r.2.1, .int .i64 r.2.2]
end Nt

/-- Four cells of a write are stored, one after the other. -/
theorem wr_puts {w : World} {g : Nat} {t : TypeId} {y0 y1 y2 y3 : Value} (hB : Blk w g t #[y0, y1, y2, y3]) (x : Wr) : Blk ((((w.setCell ⟨g, 0, none⟩ (.int .i64 x.1)).setCell ⟨g, 1, none⟩ (.int .i64 x.2.1)).setCell ⟨g, 2, none⟩ (.int .i64 x.2.2.1)).setCell ⟨g, 3, none⟩ (.bool x.2.2.2)) g t (Nt.wrArr x) := (((hB.put 0 _).put 1 _).put 2 _).put 3 _
theorem below_puts {w0 w : World} {g : Nat} (hb : Below w0.heap.size w0 w) (hg : w0.heap.size ≤ g) (x0 x1 x2 x3 : Value) : Below w0.heap.size w0 ((((w.setCell ⟨g, 0, none⟩ x0).setCell ⟨g, 1, none⟩ x1).setCell ⟨g, 2, none⟩ x2).setCell ⟨g, 3, none⟩ x3) :=
  (((hb.setCell (p := ⟨g, 0, none⟩) hg _).setCell (p := ⟨g, 1, none⟩) hg _).setCell (p := ⟨g, 2, none⟩) hg _).setCell (p := ⟨g, 3, none⟩) hg _
theorem wr_cells {w : World} {g : Nat} {t : TypeId} {x : Wr} (h : Blk w g t (Nt.wrArr x)) : (w.cell? ⟨g, 0, none⟩ = some (.int .i64 x.1) ∧ w.cell? ⟨g, 1, none⟩ = some (.int .i64 x.2.1) ∧ w.cell? ⟨g, 2, none⟩ = some (.int .i64 x.2.2.1) ∧ w.cell? ⟨g, 3, none⟩ = some (.bool x.2.2.2)) ∧
    (w.frozen? ⟨g, 0, none⟩ = false ∧ w.frozen? ⟨g, 1, none⟩ = false ∧ w.frozen? ⟨g, 2, none⟩ = false ∧ w.frozen? ⟨g, 3, none⟩ = false) := ⟨⟨h.cell rfl, h.cell rfl, h.cell rfl, h.cell rfl⟩, h.free 0, h.free 1, h.free 2, h.free 3⟩

end Go.Proofs.Ytbpgofgdlikedaa
