/-
  A region that draws its order, over any invariant that speaks of which operations have been, of what they have yielded, and of the world. With it: a chain of two calls that lay bytes behind one row, the first one over numbers in a block of their own.
  What wire's layWrite answers.
  What wire's layList answers.
  What wire's layVector, laySet and layNote answer.
-/
import Derived.Test.YtbbmngabbbehcaaG17
import Derived.Test.YtbbmngabbbehcaaG15
namespace Go.Proofs.Ytbbmngabbbehcaa
open Go.RowKit

section
variable {P : Program} {ops : Array Oper} {md : Region.Mode} {Q : Exit → Act → World → Prop} {n : Nat}
theorem wpAny_gen (hB : factsB md ops n = true) (T : (Nat → Value) → Act) (I : (Nat → Bool) → (Nat → Value) → World → Prop)
    (step : ∀ i, i < n → ∀ L v w, I L v w → L i = false → (∀ j ∈ deps md ops i, L j = true) → wpOp P ops Q i (fun a' w' => ∃ x, a' = T (upd v i x) ∧ I (fun j => if j = i then true else L j) (upd v i x) w') (T v) w)
    (done : ∀ L v w, I L v w → (∀ i, i < n → L i = true) → wpList P ops Q (ops.toList.drop n) (T v) w) :
    ∀ (f : Nat) (listed : Array Bool) (v : Nat → Value) (w : World), HeadInv md ops n listed → cntTo listed n = f → I (fun j => listed.getD j true) v w → wpAny P md ops Q (f + (ops.size - n)) listed (T v) w := by
  simp only [factsB, Bool.and_eq_true, decide_eq_true_eq] at hB
  obtain ⟨⟨⟨⟨hn, hs⟩, hc⟩, hd⟩, hq⟩ := hB
  intro f
  induction f with
  | zero =>
    intro listed v w inv hcnt hI
    have hall := cntTo_zero listed n hcnt
    have he : listed = headListed ops.size n := by
      apply Array.ext
      · rw [inv.size]; simp [headListed]
      · intro i h1 h2
        have hi : i < ops.size := by rw [← inv.size]; exact h1
        have e2 : (headListed ops.size n)[i] = decide (i < n) := by simp [headListed]
        rw [e2]
        by_cases hin : i < n
        · have := hall i hin
          simp [h1] at this
          rw [this, decide_eq_true hin]
        · have := inv.tail i (by omega) hi
          simp [h1] at this
          rw [this, decide_eq_false hin]
    rw [Nat.zero_add]
    have hl : (ops.toList.drop n).length = ops.size - n := by simp
    rw [← hl]
    refine wpAny_of_seq (ops.toList.drop n) n listed _ w (fun j => by simp) ?_ (done _ v w hI hall)
    rw [hl, he]
    exact hq
  | succ f ih =>
    intro listed v w inv hcnt hI
    obtain ⟨m, hm1, hm2, hm3⟩ := cntTo_pos listed n (by omega)
    have hmr : m ∈ Region.ready md ops listed := by
      have hms : m < ops.size := by omega
      refine mem_ready.2 ⟨hm2, ops[m], Array.getElem?_eq_getElem hms, fun e he hbind => ?_⟩
      have h1 := List.all_eq_true.1 hd m (List.mem_range.2 hms)
      have h2 : e.on ∈ deps md ops m := by
        unfold deps
        rw [Array.getElem?_eq_getElem hms]
        exact List.mem_map.2 ⟨e, List.mem_filter.2 ⟨Array.mem_toList_iff.2 he, hbind⟩, rfl⟩
      have h3 := of_decide_eq_true (List.all_eq_true.1 h1 _ h2)
      have h4 := hm3 e.on h3
      have h5 : e.on < listed.size := by rw [inv.size]; omega
      simp [h5] at h4 ⊢
      exact h4
    rw [show f + 1 + (ops.size - n) = (f + (ops.size - n)) + 1 from by omega]
    refine ⟨fun h0 => (by rw [h0] at hmr; cases hmr), fun i hi => ?_⟩
    have hin : i < n := by
      rcases Nat.lt_or_ge i n with h | h
      · exact h
      · exact absurd hi (tail_waits hs hc hn inv _ m rfl hm1 hm2 i h)
    obtain ⟨hun, oi, hoi, hafter⟩ := mem_ready.1 hi
    refine wpOp_mono ?_ (step i hin _ v w hI hun ?_)
    · rintro a' w' ⟨x, rfl, hI'⟩
      refine ih _ (upd v i x) w' (inv.set hi hin) (by have := cntTo_set listed i hun n hin; omega) ?_
      have hL : (fun j => (listed.setIfInBounds i true).getD j true) = fun j => if j = i then true else listed.getD j true := by
        funext j
        by_cases e : j = i
        · subst e
          rw [if_pos rfl]
          rcases Nat.lt_or_ge j listed.size with h' | h'
          · simp [h']
          · simp
        · rw [if_neg e, getD_set_ne true (fun h => e h.symm)]
      rw [hL]
      exact hI'
    · intro j hj
      unfold deps at hj
      rw [hoi] at hj
      obtain ⟨e, he, rfl⟩ := List.mem_map.1 hj
      obtain ⟨he1, he2⟩ := List.mem_filter.1 he
      have h1 := hafter e (Array.mem_toList_iff.1 he1) he2
      have h2 : e.on < listed.size := by
        rcases Nat.lt_or_ge e.on listed.size with h' | h'
        · exact h'
        · simp [Array.getElem?_eq_none h'] at h1
      show listed.getD e.on true = true
      simp [h2] at h1 ⊢
      exact h1


/-- **A region that draws its order, over any invariant.** -/
theorem wp_region_gen {id : Nat} {l : List Oper} {w : World} (n : Nat) (hm : P.follows .mixedOrders = true) (hB : factsB .any l.toArray n = true) (T : (Nat → Value) → Act) (v0 : Nat → Value) (I : (Nat → Bool) → (Nat → Value) → World → Prop)
    (start : ∀ L : Nat → Bool, (∀ i, i < n → L i = false) → I L v0 w.drew)
    (step : ∀ i, i < n → ∀ L v w', I L v w' → L i = false → (∀ j ∈ deps .any l.toArray i, L j = true) → wpOp P l.toArray Q i (fun a' w'' => ∃ x, a' = T (upd v i x) ∧ I (fun j => if j = i then true else L j) (upd v i x) w'') (T v) w')
    (done : ∀ L v w', I L v w' → (∀ i, i < n → L i = true) → wpList P l.toArray Q (l.drop n) (T v) w') :
    (Code.region id l.toArray true).wp P Q (T v0) w := by
  refine wp_region_any hm ?_
  have hn : n < l.toArray.size := by
    simp only [factsB, Bool.and_eq_true, decide_eq_true_eq] at hB
    exact hB.1.1.1.1
  have h := wpAny_gen hB T I step done
    n (Array.replicate l.toArray.size false) v0 w.drew
    ⟨by simp, fun j oj hj hl => (by rw [getD_replicate_false] at hl; cases hl), fun t ht ht' => (by rw [Array.getD_eq_getD_getElem?, Array.getElem?_replicate, if_pos ht']; rfl)⟩ (cntTo_none _ n (by omega))
    (start _ (fun i hi => by rw [Array.getD_eq_getD_getElem?, Array.getElem?_replicate, if_pos (by omega)]; rfl))
  rw [show n + (l.toArray.size - n) = l.toArray.size from by omega] at h
  exact h
end

/-- A chain of laying: what is known on the way. ib: the block of numbers is made; ic: they are laid. -/
structure ChInv (w0 W : World) (row : Value) (pre pre' : List Int) (ns : List Int) (C : Nat → Value → Prop) (ib ic n : Nat) (L : Nat → Bool) (v : Nat → Value) (w : World) : Prop where
  grown : W.grownBy w row.ownBlock
  c : ∀ i, i < n → L i = true → C i (v i)
  old : L ic = false → w.ownsRow w0.heap.size 5 1 row pre.length (bCells pre)
  blk : L ib = true → ∃ g, v ib = .slice (some ⟨g, 0, none⟩) ns.length ns.length ∧ row.ownBlock ≠ some g ∧ Blk w g 3 (iCells ns).toArray
  out : L ic = true → w.ownsRow w0.heap.size 5 1 (v ic) pre'.length (bCells pre') ∧ Moved W row (v ic)
  ord : L ic = true → L ib = true
section
variable {w0 W w w' : World} {row : Value} {pre pre' ns : List Int} {C : Nat → Value → Prop} {ib ic n : Nat} {L : Nat → Bool} {v : Nat → Value}
theorem ChInv.start (ho : W.ownsRow w0.heap.size 5 1 row pre.length (bCells pre)) (hb : ib < n) (hc : ic < n) (hL : ∀ i, i < n → L i = false) : ChInv w0 W row pre pre' ns C ib ic n L v W.drew :=
  ⟨⟨rfl, rfl, rfl, Nat.le_refl _, fun _ _ _ => rfl⟩, fun i hi h => (by rw [hL i hi] at h; cases h), fun _ => ho, fun h => (by rw [hL ib hb] at h; cases h), fun h => (by rw [hL ic hc] at h; cases h), fun h => (by rw [hL ic hc] at h; cases h)⟩
theorem ite_far {L : Nat → Bool} {i j : Nat} {b : Bool} (h : j ≠ i) : ((fun k => if k = i then true else L k) j = b) = (L j = b) := by simp [h]
/-- An operation that only reads. -/
theorem ChInv.still (h : ChInv w0 W row pre pre' ns C ib ic n L v w) {i : Nat} {x : Value} (hx : C i x) (h1 : ib ≠ i) (h2 : ic ≠ i) : ChInv w0 W row pre pre' ns C ib ic n (fun j => if j = i then true else L j) (upd v i x) w where
  grown := h.grown
  c := fun j hj hl => by
    by_cases e : j = i
    · subst e; rw [upd_same]; exact hx
    · rw [ite_far e] at hl; rw [upd_other v i x e]; exact h.c j hj hl
  old := fun hl => h.old (by rw [ite_far h2] at hl; exact hl)
  blk := fun hl => by rw [ite_far h1] at hl; rw [upd_other v i x h1]; exact h.blk hl
  out := fun hl => by rw [ite_far h2] at hl; rw [upd_other v i x h2]; exact h.out hl
  ord := fun hl => by rw [ite_far h2] at hl; rw [ite_far h1]; exact h.ord hl
/-- The block of numbers is made. -/
theorem ChInv.made (h : ChInv w0 W row pre pre' ns C ib ic n L v w) (h2 : ic ≠ ib) (hi : L ib = false) (hr : ∀ k, row.ownBlock = some k → k < W.heap.size) {g : Nat} (hx : C ib (.slice (some ⟨g, 0, none⟩) ns.length ns.length)) (hg : g = w.heap.size) : ChInv w0 W row pre pre' ns C ib ic n (fun j => if j = ib then true else L j) (upd v ib (.slice (some ⟨g, 0, none⟩) ns.length ns.length)) (w.alloc (.cells (iCells ns).toArray 3)) where
  grown := grown_below h.grown (below_new (Below.refl _ _) _)
  c := fun j hj hl => by
    by_cases e : j = ib
    · subst e; rw [upd_same]; exact hx
    · rw [ite_far e] at hl; rw [upd_other v ib _ e]; exact h.c j hj hl
  old := fun hl => own_later (h.old (by rw [ite_far h2] at hl; exact hl)) (below_new (Below.refl _ _) _)
  blk := fun _ => by
    subst hg
    refine ⟨w.heap.size, by rw [upd_same], fun e => ?_, Blk.new _ _ _⟩
    have := hr _ e
    have := h.grown.size
    omega
  out := fun hl' => by rw [ite_far h2] at hl'; rw [h.ord hl'] at hi; cases hi
  ord := fun _ => by simp
/-- They are laid. -/
theorem ChInv.laid (h : ChInv w0 W row pre pre' ns C ib ic n L v w) (h2 : ib ≠ ic) (hlb : L ib = true) {x : Value} (hx : C ic x) (ho : w'.ownsRow w0.heap.size 5 1 x pre'.length (bCells pre')) (hg : w.grownBy w' row.ownBlock) (hm : Moved w row x) : ChInv w0 W row pre pre' ns C ib ic n (fun j => if j = ic then true else L j) (upd v ic x) w' where
  grown := grown_on h.grown hg (.inl rfl)
  c := fun j hj hl => by
    by_cases e : j = ic
    · subst e; rw [upd_same]; exact hx
    · rw [ite_far e] at hl; rw [upd_other v ic x e]; exact h.c j hj hl
  old := fun hl => by simp at hl
  blk := fun hl => by
    rw [ite_far h2] at hl; rw [upd_other v ic x h2]
    obtain ⟨g, h3, h4, h5⟩ := h.blk hl
    exact ⟨g, h3, h4, grown_blk hg h5 h4⟩
  out := fun _ => by
    rw [upd_same]
    exact ⟨ho, (Moved.refl W row).on h.grown.size hm⟩
  ord := fun _ => by rw [ite_far h2]; exact hlb
end

end Go.Proofs.Ytbbmngabbbehcaa
namespace Go.Proofs.Ytbbmngabbbehcaa
open Go.RowKit

set_option maxHeartbeats 6400000 in
theorem dwr_any (w0 : World) (rv : Value) (pre : List Int) (x : Wr) (w : World) (hpl : pre.length + (Wi.ewr x).length ≤ 70368744177664) (h1 : Wi.fit x.1) (h2 : Wi.fit x.2.1) (h3 : Wi.fit x.2.2.1) (ho : w.ownsRow w0.heap.size 5 1 rv pre.length (bCells pre)) (hb : w0.heap.size ≤ w.heap.size) :
    Calls Try.prog 102 #[rv, .agg #[.int .i64 x.1, .int .i64 x.2.1, .int .i64 x.2.2.1, .bool x.2.2.2]] w (Lays w0 rv (pre ++ Wi.ewr x) w) := by
  obtain ⟨c, n, o, g⟩ := x
  simp only at h1 h2 h3 ⊢
  have he : Wi.ewr (c, n, o, g) = (Wi.by_ o ++ Wi.est (c, n)) ++ Wi.by_ (if g then 1 else 0) := by
    cases g <;> simp [Wi.ewr, Wi.est] <;> rfl
  rw [he] at hpl ⊢
  rw [← List.append_assoc, ← List.append_assoc, List.length_append, List.length_append] at *
  clear he
  cases g with
  | true =>
    have hz : Wi.by_ (if true = true then 1 else 0) = Wi.by_ 1 := rfl
    rw [hz] at hpl ⊢
    clear hz
    have hB0 := Blk.new w 101 #[.int .i64 c, .int .i64 n, .int .i64 o, .bool true]
    have b0 := below_new (Below.refl w.heap.size w) (.cells #[.int .i64 c, .int .i64 n, .int .i64 o, .bool true] 101)
    have how := own_later ho b0
    have hne := own_ne ho (.inr (Nat.le_refl _))
    obtain ⟨bx, hbx⟩ : ∃ bx, w.heap.size = bx := ⟨_, rfl⟩
    obtain ⟨W, hW⟩ : ∃ W, w.alloc (.cells #[.int .i64 c, .int .i64 n, .int .i64 o, .bool true] 101) = W := ⟨_, rfl⟩
    rw [hW] at hB0 b0 how
    have hsW := b0.size
    rw [hbx] at hB0 hne
    have HB0 := Lib.hid b0; have HBX := Lib.hid hB0; have HOW := Lib.hid how; have HNE := Lib.hid hne; have HX := Lib.hid hbx; have HWW := Lib.hid hW
    have H1 := Lib.hid h1; have H2 := Lib.hid h2; have H3 := Lib.hid h3
    clear hW b0 hB0 how hne ho h1 h2 h3
    go_enter Try.func102, Try.ntmps102
    go_wp2_with fail
    rw [HWW.out]
    try rw [HX.out]
    refine wp_region_gen 7 (by kernel_rfl) (by kernel_rfl) (fun v => { tmps := #[rv, .agg #[.int .i64 c, .int .i64 n, .int .i64 o, .bool true], undef, .pointer (some ⟨bx, 0, none⟩), .slice none 0 0, .int .i64 1, .pointer (some ⟨bx, 3, none⟩), .bool true, v 0, v 1, v 2, v 3, v 4, v 5, v 6, undef, undef, undef, undef, undef], defers := [] }) (fun _ => undef)
      (ChInv w0 W rv pre (pre ++ Wi.by_ o) [o] (fun i x => match i with | 0 => x = rv | 1 => x = .pointer (some ⟨bx, 2, none⟩) | 2 => x = .int .i64 o | 5 => x = .pointer (some ⟨bx, 0, none⟩) | 6 => x = .agg #[.int .i64 c, .int .i64 n] | _ => True) 3 4 7) ?start ?step ?done
    case start => exact fun L hL => ChInv.start HOW.out (by decide) (by decide) hL
    case step =>
      intro i hi L v w' hI hun hd
      match i, hi with
      | 0, _ =>
        have ST := Lib.hid (hI.still (i := 0) (x := rv) rfl (by decide) (by decide))
        refine wpOp_one rfl ?_
        clear hd hI
        go_wp2
        first | exact ⟨_, (by simp [upd]; done), ST.out⟩ | exact ⟨(by simp [upd]; done), ST.out⟩
      | 1, _ =>
        have ST := Lib.hid (hI.still (i := 1) (x := .pointer (some ⟨bx, 2, none⟩)) rfl (by decide) (by decide))
        refine wpOp_one rfl ?_
        clear hd hI
        go_wp2
        first | exact ⟨_, (by simp [upd]; done), ST.out⟩ | exact ⟨(by simp [upd]; done), ST.out⟩
      | 2, _ =>
        have h1 : v 1 = _ := hI.c 1 (by decide) (hd 1 (List.elem_iff.1 (by kernel_rfl)))
        have hBx := grown_blk hI.grown HBX.out HNE.out
        have q0 := hBx.cell (i := 2) rfl
        have ST := Lib.hid (hI.still (i := 2) (x := .int .i64 o) rfl (by decide) (by decide))
        refine wpOp_one rfl ?_
        clear hd hI hBx
        rw [h1]
        go_wp2
        first | exact ⟨_, (by simp [upd, h1]; done), ST.out⟩ | exact ⟨(by simp [upd, h1]; done), ST.out⟩
      | 3, _ =>
        have h2 : v 2 = _ := hI.c 2 (by decide) (hd 2 (List.elem_iff.1 (by kernel_rfl)))
        have ST := Lib.hid (hI.made (by decide) hun (fun k hk => own_lt HOW.out k hk) (g := w'.heap.size) trivial rfl)
        refine wpOp_one rfl ?_
        clear hd hI
        rw [h2]
        go_wp2
        exact ⟨_, (by simp [upd, h2]; done), ST.out⟩
      | 4, _ =>
        have h0 : v 0 = _ := hI.c 0 (by decide) (hd 0 (List.elem_iff.1 (by kernel_rfl)))
        obtain ⟨g, h3, hg, hBg⟩ := hI.blk (hd 3 (List.elem_iff.1 (by kernel_rfl)))
        have ow := hI.old hun
        have hsw := hI.grown.size
        have CK := Lib.hid (dnums1_any w0 rv pre g o w' (by omega) H3.out hBg hg ow (by have := hsw; omega))
        have LA := Lib.hid (fun (x : Value) (w'' : World) q1 q2 q3 => hI.laid (w' := w'') (by decide) (hd 3 (List.elem_iff.1 (by kernel_rfl))) (x := x) trivial q1 q2 q3)
        refine wpOp_one rfl ?_
        clear hd hI hBg ow
        rw [h0, h3]
        go_wp2_with fail
        refine CK.out.mono ?_
        rintro e w'' ⟨x, rfl, q1, q2, q3⟩
        have ST := Lib.hid (LA.out x w'' q1 q2 q3)
        clear q1 q2 q3 CK LA
        go_wp2
        exact ⟨_, (by simp [upd, h0, h3]; done), ST.out⟩
      | 5, _ =>
        have ST := Lib.hid (hI.still (i := 5) (x := .pointer (some ⟨bx, 0, none⟩)) rfl (by decide) (by decide))
        refine wpOp_one rfl ?_
        clear hd hI
        go_wp2
        first | exact ⟨_, (by simp [upd]; done), ST.out⟩ | exact ⟨(by simp [upd]; done), ST.out⟩
      | 6, _ =>
        have h5 : v 5 = _ := hI.c 5 (by decide) (hd 5 (List.elem_iff.1 (by kernel_rfl)))
        have hBx := grown_blk hI.grown HBX.out HNE.out
        have q0 := hBx.cell (i := 0) rfl
        have q1 := hBx.cell (i := 1) rfl
        have ST := Lib.hid (hI.still (i := 6) (x := .agg #[.int .i64 c, .int .i64 n]) rfl (by decide) (by decide))
        refine wpOp_one rfl ?_
        clear hd hI hBx
        rw [h5]
        go_wp2
        first | exact ⟨_, (by simp [upd, h5]; done), ST.out⟩ | exact ⟨(by simp [upd, h5]; done), ST.out⟩
      | k + 7, hk => exact absurd hk (by omega)
    case done =>
      intro L v w5 hI hall
      have h6 : v 6 = _ := hI.c 6 (by decide) (hall 6 (by decide))
      obtain ⟨o4, m4⟩ := hI.out (hall 4 (by decide))
      obtain ⟨y, hy⟩ : ∃ y, v 4 = y := ⟨_, rfl⟩
      rw [hy] at o4 m4
      have hs5 := hI.grown.size
      have CK := Lib.hid (dst_any w0 y _ (c, n) w5 (by rw [List.length_append]; omega) H1.out H2.out o4 (by omega))
      have G5 := Lib.hid (grown_on (grown_of rv.ownBlock HB0.out) hI.grown (.inl rfl))
      have M5 := Lib.hid ((Moved.refl w rv).on hsW m4)
      have hsz5 : w.heap.size ≤ w5.heap.size := by omega
      clear hI hall o4 m4
      rw [h6, hy]
      clear h6 hy
      go_wp2_with fail
      refine CK.out.mono ?_
      rintro e w6 ⟨v6, rfl, q1, q2, q3⟩
      have hs6 := q2.size
      have b6 := below_new (Below.refl w6.heap.size w6) (.cells #[.int .i64 1] 3)
      have CL := Lib.hid (dnums1_any w0 v6 _ w6.heap.size 1 _ (by rw [List.length_append, List.length_append]; omega) ⟨by decide, by decide⟩ (Blk.new w6 3 #[.int .i64 1]) (own_ne q1 (.inr (Nat.le_refl _))) (own_later q1 b6) (by have := b6.size; omega))
      have G6 := Lib.hid (grown_on (grown_on G5.out q2 M5.out) (grown_of v6.ownBlock b6) ((M5.out).on hsz5 q3))
      have M6 := Lib.hid ((M5.out.on hsz5 q3).on (by omega) ((Moved.refl w6 v6).on b6.size (Moved.refl _ v6)))
      have hs7 := b6.size
      clear q1 q2 q3 b6 CK
      go_wp2_with fail
      refine CL.out.mono ?_
      rintro e w7 ⟨v7, rfl, q1, q2, q3⟩
      have Q1 := Lib.hid q1; have Q2 := Lib.hid (grown_on G6.out q2 M6.out)
      have Q3 := Lib.hid (M6.out.on (by omega) ((Moved.refl w6 v6).on hs7 q3))
      clear q1 q2 q3
      go_wp2
      go_ret
      exact ⟨_, rfl, by simpa [List.append_assoc] using Q1.out, Q2.out, Q3.out⟩
  | false =>
    have hz : Wi.by_ (if false = true then 1 else 0) = Wi.by_ 0 := rfl
    rw [hz] at hpl ⊢
    clear hz
    have hB0 := Blk.new w 101 #[.int .i64 c, .int .i64 n, .int .i64 o, .bool false]
    have b0 := below_new (Below.refl w.heap.size w) (.cells #[.int .i64 c, .int .i64 n, .int .i64 o, .bool false] 101)
    have how := own_later ho b0
    have hne := own_ne ho (.inr (Nat.le_refl _))
    obtain ⟨bx, hbx⟩ : ∃ bx, w.heap.size = bx := ⟨_, rfl⟩
    obtain ⟨W, hW⟩ : ∃ W, w.alloc (.cells #[.int .i64 c, .int .i64 n, .int .i64 o, .bool false] 101) = W := ⟨_, rfl⟩
    rw [hW] at hB0 b0 how
    have hsW := b0.size
    rw [hbx] at hB0 hne
    have HB0 := Lib.hid b0; have HBX := Lib.hid hB0; have HOW := Lib.hid how; have HNE := Lib.hid hne; have HX := Lib.hid hbx; have HWW := Lib.hid hW
    have H1 := Lib.hid h1; have H2 := Lib.hid h2; have H3 := Lib.hid h3
    clear hW b0 hB0 how hne ho h1 h2 h3
    go_enter Try.func102, Try.ntmps102
    go_wp2_with fail
    rw [HWW.out]
    try rw [HX.out]
    refine wp_region_gen 7 (by kernel_rfl) (by kernel_rfl) (fun v => { tmps := #[rv, .agg #[.int .i64 c, .int .i64 n, .int .i64 o, .bool false], undef, .pointer (some ⟨bx, 0, none⟩), .slice none 0 0, .int .i64 0, .pointer (some ⟨bx, 3, none⟩), .bool false, v 0, v 1, v 2, v 3, v 4, v 5, v 6, undef, undef, undef, undef, undef], defers := [] }) (fun _ => undef)
      (ChInv w0 W rv pre (pre ++ Wi.by_ o) [o] (fun i x => match i with | 0 => x = rv | 1 => x = .pointer (some ⟨bx, 2, none⟩) | 2 => x = .int .i64 o | 5 => x = .pointer (some ⟨bx, 0, none⟩) | 6 => x = .agg #[.int .i64 c, .int .i64 n] | _ => True) 3 4 7) ?start ?step ?done
    case start => exact fun L hL => ChInv.start HOW.out (by decide) (by decide) hL
    case step =>
      intro i hi L v w' hI hun hd
      match i, hi with
      | 0, _ =>
        have ST := Lib.hid (hI.still (i := 0) (x := rv) rfl (by decide) (by decide))
        refine wpOp_one rfl ?_
        clear hd hI
        go_wp2
        first | exact ⟨_, (by simp [upd]; done), ST.out⟩ | exact ⟨(by simp [upd]; done), ST.out⟩
      | 1, _ =>
        have ST := Lib.hid (hI.still (i := 1) (x := .pointer (some ⟨bx, 2, none⟩)) rfl (by decide) (by decide))
        refine wpOp_one rfl ?_
        clear hd hI
        go_wp2
        first | exact ⟨_, (by simp [upd]; done), ST.out⟩ | exact ⟨(by simp [upd]; done), ST.out⟩
      | 2, _ =>
        have h1 : v 1 = _ := hI.c 1 (by decide) (hd 1 (List.elem_iff.1 (by kernel_rfl)))
        have hBx := grown_blk hI.grown HBX.out HNE.out
        have q0 := hBx.cell (i := 2) rfl
        have ST := Lib.hid (hI.still (i := 2) (x := .int .i64 o) rfl (by decide) (by decide))
        refine wpOp_one rfl ?_
        clear hd hI hBx
        rw [h1]
        go_wp2
        first | exact ⟨_, (by simp [upd, h1]; done), ST.out⟩ | exact ⟨(by simp [upd, h1]; done), ST.out⟩
      | 3, _ =>
        have h2 : v 2 = _ := hI.c 2 (by decide) (hd 2 (List.elem_iff.1 (by kernel_rfl)))
        have ST := Lib.hid (hI.made (by decide) hun (fun k hk => own_lt HOW.out k hk) (g := w'.heap.size) trivial rfl)
        refine wpOp_one rfl ?_
        clear hd hI
        rw [h2]
        go_wp2
        exact ⟨_, (by simp [upd, h2]; done), ST.out⟩
      | 4, _ =>
        have h0 : v 0 = _ := hI.c 0 (by decide) (hd 0 (List.elem_iff.1 (by kernel_rfl)))
        obtain ⟨g, h3, hg, hBg⟩ := hI.blk (hd 3 (List.elem_iff.1 (by kernel_rfl)))
        have ow := hI.old hun
        have hsw := hI.grown.size
        have CK := Lib.hid (dnums1_any w0 rv pre g o w' (by omega) H3.out hBg hg ow (by have := hsw; omega))
        have LA := Lib.hid (fun (x : Value) (w'' : World) q1 q2 q3 => hI.laid (w' := w'') (by decide) (hd 3 (List.elem_iff.1 (by kernel_rfl))) (x := x) trivial q1 q2 q3)
        refine wpOp_one rfl ?_
        clear hd hI hBg ow
        rw [h0, h3]
        go_wp2_with fail
        refine CK.out.mono ?_
        rintro e w'' ⟨x, rfl, q1, q2, q3⟩
        have ST := Lib.hid (LA.out x w'' q1 q2 q3)
        clear q1 q2 q3 CK LA
        go_wp2
        exact ⟨_, (by simp [upd, h0, h3]; done), ST.out⟩
      | 5, _ =>
        have ST := Lib.hid (hI.still (i := 5) (x := .pointer (some ⟨bx, 0, none⟩)) rfl (by decide) (by decide))
        refine wpOp_one rfl ?_
        clear hd hI
        go_wp2
        first | exact ⟨_, (by simp [upd]; done), ST.out⟩ | exact ⟨(by simp [upd]; done), ST.out⟩
      | 6, _ =>
        have h5 : v 5 = _ := hI.c 5 (by decide) (hd 5 (List.elem_iff.1 (by kernel_rfl)))
        have hBx := grown_blk hI.grown HBX.out HNE.out
        have q0 := hBx.cell (i := 0) rfl
        have q1 := hBx.cell (i := 1) rfl
        have ST := Lib.hid (hI.still (i := 6) (x := .agg #[.int .i64 c, .int .i64 n]) rfl (by decide) (by decide))
        refine wpOp_one rfl ?_
        clear hd hI hBx
        rw [h5]
        go_wp2
        first | exact ⟨_, (by simp [upd, h5]; done), ST.out⟩ | exact ⟨(by simp [upd, h5]; done), ST.out⟩
      | k + 7, hk => exact absurd hk (by omega)
    case done =>
      intro L v w5 hI hall
      have h6 : v 6 = _ := hI.c 6 (by decide) (hall 6 (by decide))
      obtain ⟨o4, m4⟩ := hI.out (hall 4 (by decide))
      obtain ⟨y, hy⟩ : ∃ y, v 4 = y := ⟨_, rfl⟩
      rw [hy] at o4 m4
      have hs5 := hI.grown.size
      have CK := Lib.hid (dst_any w0 y _ (c, n) w5 (by rw [List.length_append]; omega) H1.out H2.out o4 (by omega))
      have G5 := Lib.hid (grown_on (grown_of rv.ownBlock HB0.out) hI.grown (.inl rfl))
      have M5 := Lib.hid ((Moved.refl w rv).on hsW m4)
      have hsz5 : w.heap.size ≤ w5.heap.size := by omega
      clear hI hall o4 m4
      rw [h6, hy]
      clear h6 hy
      go_wp2_with fail
      refine CK.out.mono ?_
      rintro e w6 ⟨v6, rfl, q1, q2, q3⟩
      have hs6 := q2.size
      have b6 := below_new (Below.refl w6.heap.size w6) (.cells #[.int .i64 0] 3)
      have CL := Lib.hid (dnums1_any w0 v6 _ w6.heap.size 0 _ (by rw [List.length_append, List.length_append]; omega) ⟨by decide, by decide⟩ (Blk.new w6 3 #[.int .i64 0]) (own_ne q1 (.inr (Nat.le_refl _))) (own_later q1 b6) (by have := b6.size; omega))
      have G6 := Lib.hid (grown_on (grown_on G5.out q2 M5.out) (grown_of v6.ownBlock b6) ((M5.out).on hsz5 q3))
      have M6 := Lib.hid ((M5.out.on hsz5 q3).on (by omega) ((Moved.refl w6 v6).on b6.size (Moved.refl _ v6)))
      have hs7 := b6.size
      clear q1 q2 q3 b6 CK
      go_wp2_with fail
      refine CL.out.mono ?_
      rintro e w7 ⟨v7, rfl, q1, q2, q3⟩
      have Q1 := Lib.hid q1; have Q2 := Lib.hid (grown_on G6.out q2 M6.out)
      have Q3 := Lib.hid (M6.out.on (by omega) ((Moved.refl w6 v6).on hs7 q3))
      clear q1 q2 q3
      go_wp2
      go_ret
      exact ⟨_, rfl, by simpa [List.append_assoc] using Q1.out, Q2.out, Q3.out⟩

end Go.Proofs.Ytbbmngabbbehcaa
namespace Go.Proofs.Ytbbmngabbbehcaa
open Go.RowKit

set_option maxHeartbeats 3200000 in
theorem dlwr_any (w0 : World) (v : Value) (pre : List Int) (A : Option Addr) (c : Nat) (l : List Wr) (w : World) (hpl : pre.length + (Wi.elist Wi.ewr l).length ≤ 70368744177664) (hll : l.length ≤ 1099511627776) (hf : ∀ x ∈ l, Wi.fit x.1 ∧ Wi.fit x.2.1 ∧ Wi.fit x.2.2.1) (h : OneW w0 A c l)
    (ho : w.ownsRow w0.heap.size 5 1 v pre.length (bCells pre)) (hb : Below w0.heap.size w0 w) :
    Calls Try.prog 101 #[v, .slice A l.length c, .func (.func 102) #[] #[]] w (Lays w0 v (pre ++ Wi.elist Wi.ewr l) w) := by
  have hel : Wi.elist Wi.ewr l = Wi.by_ (l.length : Int) ++ l.flatMap Wi.ewr := rfl
  rw [hel] at hpl ⊢
  rw [← List.append_assoc, List.length_append] at *
  have b1 := below_new (Below.refl w.heap.size w) (.cells #[.int .i64 (l.length : Int)] 3)
  have hs0 := hb.size
  have HK := Lib.hid (dnums1_any w0 v pre w.heap.size (l.length : Int) _ (by omega) ⟨by omega, by omega⟩ (Blk.new w 3 #[.int .i64 (l.length : Int)]) (own_ne ho (.inr (Nat.le_refl _))) (own_later ho b1) (Nat.le_trans hs0 b1.size))
  have B1 := Lib.hid b1; have HO := Lib.hid ho; have HB := Lib.hid hb; have H := Lib.hid h; have HF := Lib.hid hf
  have HFL := Lib.hid (Wi.flat_le Wi.ewr l)
  have HFT := Lib.hid (fun k hk => Wi.flat_take Wi.ewr l k Nt.zeroW hk)
  obtain ⟨hd, hhd⟩ : ∃ q, Wi.by_ (l.length : Int) = q := ⟨_, rfl⟩
  rw [hhd] at HK hpl ⊢
  clear b1 ho hb h hf hel hhd
  go_enter Try.func101, Try.ntmps101
  go_wp2_with fail
  refine HK.out.mono ?_
  rintro e w1 ⟨v1, rfl, h1, h2, h3⟩
  have H1 := Lib.hid h1
  have H2 := Lib.hid (grown_on (grown_of v.ownBlock B1.out) h2 (.inl rfl))
  have H3 := Lib.hid ((Moved.refl w v).on B1.out.size h3)
  clear h1 h2 h3 HK
  go_wp2_with fail
  go_loopw [0, 16] (fun s0 s16 wr => ∃ k : Nat, k ≤ l.length ∧ s16 = .int .i64 (k : Int) ∧ wr.ownsRow w0.heap.size 5 1 s0 (pre ++ hd ++ (l.take k).flatMap Wi.ewr).length (bCells (pre ++ hd ++ (l.take k).flatMap Wi.ewr)) ∧ w.grownBy wr v.ownBlock ∧ Moved w v s0) (fun _ s16 _ => l.length - (intOf s16).toNat)
  case atStart => exact ⟨0, by omega, rfl, by simpa using H1.out, H2.out, H3.out⟩
  case round =>
    obtain ⟨k, hk, rfl, hown, hgw, hmv⟩ := hrel
    have hsz := hgw.size
    by_cases hkl : k < l.length
    · have hdk : decide ((k : Int) < (l.length : Int)) = true := decide_eq_true (by omega)
      have hbr := below_grown HB.out hgw HO.out
      have hsr := hbr.size
      have hne : l ≠ [] := fun e => by rw [e] at hkl; simp at hkl
      obtain ⟨b, off, hA, hcA⟩ := H.out.at hne
      obtain ⟨c0, c1, c2, c3⟩ := hcA k hkl
      have dd := And.intro (cell_later hbr c0) (And.intro (cell_later hbr c1) (And.intro (cell_later hbr c2) (cell_later hbr c3)))
      subst hA
      have hmem : l.getD k Nt.zeroW ∈ l := by rw [List.getD_eq_getElem?_getD, List.getElem?_eq_getElem hkl]; exact List.getElem_mem hkl
      have g0 := HF.out _ hmem
      have hft := HFT.out k hkl
      have htl := HFL.out (k + 1)
      rw [hft, List.length_append] at htl
      obtain ⟨q, hq⟩ : ∃ q, pre ++ hd ++ (l.take k).flatMap Wi.ewr = q := ⟨_, rfl⟩
      have hql : q.length = pre.length + hd.length + ((l.take k).flatMap Wi.ewr).length := by rw [← hq, List.length_append, List.length_append]
      have hnew : pre ++ hd ++ (l.take (k + 1)).flatMap Wi.ewr = q ++ Wi.ewr (l.getD k Nt.zeroW) := by rw [hft, ← hq]; simp only [List.append_assoc]
      rw [hq] at hown
      obtain ⟨x, hx⟩ : ∃ x, l.getD k Nt.zeroW = x := ⟨_, rfl⟩
      rw [hx] at dd g0 htl hnew
      obtain ⟨x1, x2, x3, x4⟩ := x
      obtain ⟨d0, d1, d2, d3⟩ := dd
      obtain ⟨g1, g2, g3⟩ := g0
      simp only at d0 d1 d2 d3 g1 g2 g3
      obtain ⟨P, cp, hs3, -⟩ := own_form hown
      rw [hs3] at hown hmv
      subst hs3
      have hi1 : (0 : Int) ≤ (k : Int) := by omega
      have hi2 : (k : Int) < (l.length : Int) := by omega
      have CE := Lib.hid (fun (wx : World) (hx : Below wr.heap.size wr wx) => dwr_any w0 (.slice P q.length cp) q (x1, x2, x3, x4) wx (by omega) g1 g2 g3 (own_later hown hx) (Nat.le_trans hsr hx.size))
      have HNEW := Lib.hid hnew; have HOW := Lib.hid hown; have HGW := Lib.hid hgw; have HMV := Lib.hid hmv
      clear hmem g1 g2 g3 hft htl hx hnew hown hgw hmv hq hbr HO HB HF H1 H2 H3 HFL HFT hql hpl
      go_wp2_with fail
      refine (CE.out _ (below_new (Below.refl _ _) _)).mono ?_
      rintro e w2 ⟨v2, rfl, h1, h2, h3⟩
      have hx1 := below_new (Below.refl wr.heap.size wr) (.cells #[.int .i64 x1, .int .i64 x2, .int .i64 x3, .bool x4] 101)
      rw [← HNEW.out] at h1
      have H1 := Lib.hid h1
      have H2 := Lib.hid (grown_on HGW.out (grown_on (grown_of (Value.slice P q.length cp).ownBlock hx1) h2 (.inl rfl)) HMV.out)
      have H3 := Lib.hid (HMV.out.on hsz ((Moved.refl wr (Value.slice P q.length cp)).on hx1.size h3))
      clear h1 h2 h3 CE d0 d1 d2 d3 hx1
      go_wp2_with fail
      go_roundw
      case rel => exact ⟨k + 1, by omega, by first | rfl | (congr 1; omega), H1.out, H2.out, H3.out⟩
      case measure => simp [intOf]; omega
    · obtain rfl : k = l.length := by omega
      have hdk : decide ((l.length : Int) < (l.length : Int)) = false := decide_eq_false (by omega)
      rw [List.take_of_length_le (Nat.le_refl _)] at hown
      have H1 := Lib.hid hown; have H2 := Lib.hid hgw; have H3 := Lib.hid hmv
      clear hown hgw hmv
      go_wp2
      go_ret
      exact ⟨_, rfl, H1.out, H2.out, H3.out⟩

end Go.Proofs.Ytbbmngabbbehcaa
namespace Go.Proofs.Ytbbmngabbbehcaa
open Go.RowKit

set_option maxHeartbeats 1600000 in
theorem dvec_any (w0 : World) (v : Value) (pre : List Int) (A : Option Addr) (c : Nat) (l : List (Int × Int)) (w : World) (hpl : pre.length + (Wi.elist Wi.est l).length ≤ 70368744177664) (hll : l.length ≤ 1099511627776) (hf : ∀ s ∈ l, Wi.fit s.1 ∧ Wi.fit s.2) (h : OneL w0 A c l)
    (ho : w.ownsRow w0.heap.size 5 1 v pre.length (bCells pre)) (hb : Below w0.heap.size w0 w) :
    Calls Try.prog 50 #[v, .slice A l.length c] w (Lays w0 v (pre ++ Wi.elist Wi.est l) w) := by
  have CK := Lib.hid (dlst_any w0 v pre A c l w hpl hll hf h ho hb)
  clear hpl hll hf h ho hb
  go_enter Try.func50, Try.ntmps50
  go_wp2_with fail
  refine CK.out.mono ?_
  rintro e w2 ⟨v', rfl, h1, h2, h3⟩
  have H1 := Lib.hid h1; have H2 := Lib.hid h2; have H3 := Lib.hid h3
  clear h1 h2 h3 CK
  go_wp2
  go_ret
  exact ⟨v', rfl, H1.out, H2.out, H3.out⟩

set_option maxHeartbeats 1600000 in
theorem dset_any (w0 : World) (v : Value) (pre : List Int) (A : Option Addr) (c : Nat) (l : List (Int × Int)) (w : World) (hpl : pre.length + (Wi.elist Wi.etwo l).length ≤ 70368744177664) (hll : l.length ≤ 1099511627776) (hf : ∀ s ∈ l, Wi.fit s.1 ∧ Wi.fit s.2) (h : OneL w0 A c l)
    (ho : w.ownsRow w0.heap.size 5 1 v pre.length (bCells pre)) (hb : Below w0.heap.size w0 w) :
    Calls Try.prog 58 #[v, .slice A l.length c] w (Lays w0 v (pre ++ Wi.elist Wi.etwo l) w) := by
  have CK := Lib.hid (dlsp_any w0 v pre A c l w hpl hll hf h ho hb)
  clear hpl hll hf h ho hb
  go_enter Try.func58, Try.ntmps58
  go_wp2_with fail
  refine CK.out.mono ?_
  rintro e w2 ⟨v', rfl, h1, h2, h3⟩
  have H1 := Lib.hid h1; have H2 := Lib.hid h2; have H3 := Lib.hid h3
  clear h1 h2 h3 CK
  go_wp2
  go_ret
  exact ⟨v', rfl, H1.out, H2.out, H3.out⟩

set_option maxHeartbeats 3200000 in
theorem dnote_any (w0 : World) (v : Value) (pre : List Int) (S E B V : Option Addr) (cs ce cb cv : Nat) (n : Note) (w : World) (hpl : pre.length + (Wi.enote n).length ≤ 70368744177664) (k1 : n.s.length ≤ 1099511627776) (k2 : n.e.length ≤ 1099511627776) (k3 : n.b.length ≤ 1099511627776) (k4 : n.ws.length ≤ 1099511627776) (hf : Wi.fitN n) (h : NoteAt w0 S E B V cs ce cb cv n)
    (ho : w.ownsRow w0.heap.size 5 1 v pre.length (bCells pre)) (hb : Below w0.heap.size w0 w) :
    Calls Try.prog 66 #[v, .agg (noteCells S E B V cs ce cb cv n)] w (Lays w0 v (pre ++ Wi.enote n) w) := by
  have he : Wi.enote n = ((Wi.elist Wi.est n.s ++ Wi.elist Wi.est n.e) ++ Wi.elist Wi.etwo n.b) ++ Wi.elist Wi.ewr n.ws := by
    unfold Wi.enote
    rw [List.append_assoc]
    rfl
  rw [he] at hpl ⊢
  rw [List.length_append, List.length_append, List.length_append] at hpl
  rw [← List.append_assoc, ← List.append_assoc, ← List.append_assoc]
  clear he
  have hB0 := Blk.new w 51 (noteCells S E B V cs ce cb cv n)
  have b0 := below_new (Below.refl w.heap.size w) (.cells (noteCells S E B V cs ce cb cv n) 51)
  have how := own_later ho b0
  have hne := own_ne ho (.inr (Nat.le_refl _))
  have hb0 := hb.trans (b0.mono hb.size)
  have hs0 := hb.size
  obtain ⟨bx, hbx⟩ : ∃ bx, w.heap.size = bx := ⟨_, rfl⟩
  obtain ⟨W, hW⟩ : ∃ W, w.alloc (.cells (noteCells S E B V cs ce cb cv n) 51) = W := ⟨_, rfl⟩
  rw [hW] at hB0 b0 how hb0
  rw [hbx] at hB0 hne
  unfold noteCells at hB0 hW ⊢
  have c0 := hB0.cell (i := 0) rfl
  have hsW := b0.size
  have HB0 := Lib.hid b0; have HBX := Lib.hid hB0; have HOW := Lib.hid how; have HNE := Lib.hid hne; have HX := Lib.hid hbx; have HWW := Lib.hid hW
  have HF := Lib.hid hf; have H := Lib.hid h; have HB := Lib.hid hb; have HO := Lib.hid ho
  have CK := Lib.hid (dvec_any w0 v pre S cs n.s W (by omega) k1 hf.s h.hs how hb0)
  have G0 := Lib.hid (grown_of v.ownBlock b0)
  have M0 := Lib.hid (Moved.refl w v)
  obtain ⟨p0, hp0⟩ : ∃ p, pre = p := ⟨_, rfl⟩
  clear hW b0 hB0 how hne ho hf h hb hb0
  go_enter Try.func66, Try.ntmps66
  go_wp2_with fail
  rw [HWW.out]
  try rw [HX.out]
  go_wp2_with fail
  refine CK.out.mono ?_
  rintro e w1 ⟨v1, rfl, q1, q2, q3⟩
  have g1 := grown_on G0.out q2 M0.out
  have m1 := M0.out.on G0.out.size q3
  have hs1 := g1.size
  have hBx1 := grown_blk q2 HBX.out HNE.out
  have c1 := hBx1.cell (i := 1) rfl
  have hn1 := q3.ne HNE.out HBX.out.lt
  have CK := Lib.hid (dvec_any w0 v1 _ E ce n.e w1 (by simp only [List.length_append]; omega) k2 HF.out.e H.out.he q1 (below_grown HB.out g1 HO.out))
  have G1 := Lib.hid g1; have M1 := Lib.hid m1; have HBX1 := Lib.hid hBx1; have HNE1 := Lib.hid hn1
  clear q1 q2 q3 g1 m1 hBx1 hn1 c0
  go_wp2_with fail
  refine CK.out.mono ?_
  rintro e w2 ⟨v2, rfl, q1, q2, q3⟩
  have g2 := grown_on G1.out q2 M1.out
  have m2 := M1.out.on G1.out.size q3
  have hs2 := g2.size
  have hBx2 := grown_blk q2 HBX1.out HNE1.out
  have c2 := hBx2.cell (i := 2) rfl
  have hn2 := q3.ne HNE1.out HBX1.out.lt
  have CK := Lib.hid (dset_any w0 v2 _ B cb n.b w2 (by simp only [List.length_append]; omega) k3 HF.out.b H.out.hb q1 (below_grown HB.out g2 HO.out))
  have G2 := Lib.hid g2; have M2 := Lib.hid m2; have HBX2 := Lib.hid hBx2; have HNE2 := Lib.hid hn2
  clear q1 q2 q3 g2 m2 hBx2 hn2 c1
  go_wp2_with fail
  refine CK.out.mono ?_
  rintro e w3 ⟨v3, rfl, q1, q2, q3⟩
  have g3 := grown_on G2.out q2 M2.out
  have m3 := M2.out.on G2.out.size q3
  have hs3 := g3.size
  have hBx3 := grown_blk q2 HBX2.out HNE2.out
  have c3 := hBx3.cell (i := 3) rfl
  have hn3 := q3.ne HNE2.out HBX2.out.lt
  have CK := Lib.hid (dlwr_any w0 v3 _ V cv n.ws w3 (by simp only [List.length_append]; omega) k4 HF.out.ws H.out.hv q1 (below_grown HB.out g3 HO.out))
  have G3 := Lib.hid g3; have M3 := Lib.hid m3; have HBX3 := Lib.hid hBx3; have HNE3 := Lib.hid hn3
  clear q1 q2 q3 g3 m3 hBx3 hn3 c2
  go_wp2_with fail
  refine CK.out.mono ?_
  rintro e w4 ⟨v4, rfl, q1, q2, q3⟩
  have g4 := grown_on G3.out q2 M3.out
  have m4 := M3.out.on G3.out.size q3
  have hs4 := g4.size
  have Q1 := Lib.hid q1; have Q2 := Lib.hid g4; have Q3 := Lib.hid m4
  clear q1 q2 q3 g4 m4
  go_wp2
  go_ret
  exact ⟨_, rfl, Q1.out, Q2.out, Q3.out⟩

end Go.Proofs.Ytbbmngabbbehcaa
