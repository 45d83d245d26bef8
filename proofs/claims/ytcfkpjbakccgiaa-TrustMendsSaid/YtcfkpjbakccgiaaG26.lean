/-
  What trust's Take keeps in memory while it goes over pieces; how long its zones get.
  What trust's Take answers.
  What trust's functions answer, as they have landed: all that is asked of them.
-/
import Derived.Test.YtcfkpjbakccgiaaG24
import Derived.Test.YtcfkpjbakccgiaaG25
import Derived.Test.YtcfkpjbakccgiaaG23
import Derived.Test.YtcfkpjbakccgiaaG13
import Derived.Test.YtcfkpjbakccgiaaG21
namespace Go.Proofs.Ytcfkpjbakccgiaa
open Go.RowKit Go.Shelf

namespace Tr
def okZ (zs : List Zn) : Prop := ∀ z ∈ zs, 0 ≤ z.2.1 ∧ z.2.1 ≤ 255
theorem okZ_put {T : List (Int × Int)} {zs : List Zn} {z : Zn} (h : okZ zs) (hz : 0 ≤ z.2.1 ∧ z.2.1 ≤ 255) : okZ (put T zs z) := by
  unfold put
  split
  · exact h
  · split
    · rename_i hg
      obtain ⟨g1, -, -⟩ := of_decide_eq_true hg
      intro y hy
      unfold ext at hy
      rcases List.mem_append.1 hy with hy | hy
      · exact h y ((List.dropLast_sublist zs).subset hy)
      · rw [List.mem_singleton] at hy
        subst hy
        show 0 ≤ (z.2.1.toNat : Int) ∧ (z.2.1.toNat : Int) ≤ 255
        omega
    · intro y hy
      rcases List.mem_append.1 hy with hy | hy
      · exact h y hy
      · rw [List.mem_singleton] at hy
        subst hy
        exact hz
theorem put_len (T : List (Int × Int)) (zs : List Zn) (z : Zn) : (put T zs z).length ≤ zs.length + 1 := by
  unfold put
  split
  · omega
  · split
    · rename_i hg
      obtain ⟨g1, -, -⟩ := of_decide_eq_true hg
      rw [ext_len _ _ g1]
      omega
    · rw [List.length_append]; simp
theorem okZ_fold {T : List (Int × Int)} : ∀ (P zs : List Zn), okZ zs → okZ P → okZ (P.foldl (put T) zs) ∧ (P.foldl (put T) zs).length ≤ zs.length + P.length
  | [], zs, h, _ => ⟨h, Nat.le_refl _⟩
  | z :: r, zs, h, hp => by
    have h1 := okZ_put (T := T) h (hp z List.mem_cons_self)
    have h2 := put_len T zs z
    obtain ⟨a, b⟩ := okZ_fold (T := T) r _ h1 (fun y hy => hp y (List.mem_cons_of_mem _ hy))
    rw [List.foldl_cons, List.length_cons]
    exact ⟨a, by omega⟩
theorem pcs_len (rest : List (Int × Int)) (hi : Int) : ∀ (zs : List Zn) (k : Int), (pcs rest hi k zs).length ≤ 2 * zs.length + 1
  | [], k => by unfold pcs; split <;> simp
  | z :: r, k => by
    have := pcs_len rest hi r (z.2.1 + 1)
    show ((if k < z.1 then _ else []) ++ z :: pcs rest hi (z.2.1 + 1) r).length ≤ _
    rw [List.length_append, List.length_cons, List.length_cons]
    split <;> simp <;> omega
theorem parts_len (z : Zn) (n : Note) : (parts z n).length ≤ 257 := by
  have h1 := pcs_len (fur z.2.2 n) z.2.1 (stay z (fur z.2.2 n) n) z.1
  have h2 : (stay z (fur z.2.2 n) n).length ≤ 128 := by
    unfold stay keeps Sp.meetS
    rw [List.length_map]
    exact Sp.ofL_len _
  unfold parts
  omega
theorem parts_ok {n : Note} (hn : Nt.fmd n = true) {z : Zn} (h1 : 0 ≤ z.1) (h2 : z.1 ≤ z.2.1) (h3 : z.2.1 ≤ 255) : okZ (parts z n) := fun y hy => by
  have := tiles_of _ _ _ (parts_tiles hn h1 h2 h3) y hy
  omega
theorem okZ_puts {T : List (Int × Int)} {n : Note} (hn : Nt.fmd n = true) : ∀ (P zs : List Zn), okZ zs → (∀ z ∈ P, 0 ≤ z.1 ∧ z.1 ≤ z.2.1 ∧ z.2.1 ≤ 255) → okZ (P.foldl (puts T n) zs) ∧ (P.foldl (puts T n) zs).length ≤ zs.length + P.length * 257
  | [], zs, h, _ => ⟨h, by simp⟩
  | z :: r, zs, h, hp => by
    obtain ⟨q1, q2, q3⟩ := hp z List.mem_cons_self
    obtain ⟨a, b⟩ := okZ_fold (T := T) (parts z n) zs h (parts_ok hn q1 q2 q3)
    have hl := parts_len z n
    obtain ⟨c, d⟩ := okZ_puts hn r _ a (fun y hy => hp y (List.mem_cons_of_mem _ hy))
    rw [List.foldl_cons, List.length_cons]
    refine ⟨c, ?_⟩
    have d' : (List.foldl (puts T n) (puts T n zs z) r).length ≤ ((parts z n).foldl (put T) zs).length + r.length * 257 := d
    omega
end Tr

/-- What Take holds while it goes: the note, the function, the vector behind the note, the zones so far. -/
structure TkS (n0 b5 g : Nat) (nc : Array Value) (TX : Option Addr) (tc : Nat) (T : List (Int × Int)) (zs : List Zn) (W : World) : Prop where
  after : ∃ v L, Boxed W (g + 1) 22 v ∧ OwnZ W n0 v L ∧ L.map Zc.zn = zs
  note : Blk W b5 38 nc
  then_ : Blk W g 23 #[.slice TX T.length tc]
  fn : Blk W (g + 2) 75 #[.func (.func 52) #[] #[.pointer (some ⟨g + 1, 0, none⟩), .pointer (some ⟨g, 0, none⟩)]]
  row : W.ownsRow n0 53 2 (.slice TX T.length tc) T.length (stCells T)
section
variable {n0 b5 g : Nat} {nc : Array Value} {TX : Option Addr} {tc : Nat} {T : List (Int × Int)} {zs : List Zn} {W W' : World}
theorem TkS.ok (h : TkS n0 b5 g nc TX tc T zs W) : RowOk (g + 1) W := by
  obtain ⟨v, L, h1, h2, -⟩ := h.after
  exact RowOk.boxed h1 h2.row
theorem TkS.below (h : TkS n0 b5 g nc TX tc T zs W) (hb : Below W.heap.size W W') : TkS n0 b5 g nc TX tc T zs W' := by
  obtain ⟨v, L, h1, h2, h3⟩ := h.after
  exact ⟨⟨v, L, Blk.later h1 hb, h2.later hb, h3⟩, h.note.later hb, h.then_.later hb, h.fn.later hb, own_later h.row hb⟩
/-- It speaks of cells alone. -/
theorem TkS.own (h : TkS n0 b5 g nc TX tc T zs W) {row : Option Nat} (hg : W.grownBy W' row) (hr : ∀ r, row = some r → ∃ o : Obj, W.heap[r]? = some o ∧ o.isCells = false) : TkS n0 b5 g nc TX tc T zs W' ∧ ∀ W0, KeepB (g + 1) W0 W → KeepB (g + 1) W0 W' := by
  obtain ⟨v, L, h1, h2, h3⟩ := h.after
  have hv : Boxed W' (g + 1) 22 v := boxed_own _ _ (fun (_ : Unit) => v) () W W' row h1 hg hr
  refine ⟨⟨⟨v, L, hv, ⟨own_row _ _ _ _ _ _ () W W' row h2.row hg hr, fun z hz => own_row _ _ _ _ _ _ () W W' row (h2.each z hz) hg hr⟩, h3⟩, ?_, ?_, ?_, own_row _ _ _ _ _ _ () W W' row h.row hg hr⟩, fun W0 hk => ⟨Nat.le_trans hk.size hg.size, fun k o q1 q2 q3 q4 => ?_, ?_⟩⟩
  · exact blk_own _ _ (fun (_ : Unit) => nc) () W W' row h.note hg hr
  · exact blk_own _ _ (fun (_ : Unit) => #[.slice TX T.length tc]) () W W' row h.then_ hg hr
  · exact blk_own _ _ (fun (_ : Unit) => #[.func (.func 52) #[] #[.pointer (some ⟨g + 1, 0, none⟩), .pointer (some ⟨g, 0, none⟩)]]) () W W' row h.fn hg hr
  · have hX := hk.same k o q1 q2 q3 q4
    exact (hg.block k (Array.getElem?_eq_some_iff.1 hX).1 (fun e => by
      obtain ⟨u, hu, hc⟩ := hr k e.symm
      rw [hX] at hu
      cases hu
      rw [q2] at hc
      cases hc)).trans hX
  · rw [rowIn_boxed hv]
    have := hk.row
    rw [rowIn_boxed h1] at this
    rcases this with hq | hq
    · exact .inl hq
    · exact .inr (fun r e => ⟨(hq r e).1, Nat.lt_of_lt_of_le (hq r e).2 hg.size⟩)
/-- A row of stamps stays while zones are put. -/
theorem own_keepB {gA base size n : Nat} {u v : Value} {xs : List Value} {L : List Zc} (h : W.ownsRow base 53 size u n xs) (hv : Boxed W gA 22 v) (hO : OwnZ W n0 v L) (hk : KeepB gA W W') : W'.ownsRow base 53 size u n xs :=
  own_stays h (fun k hk2 => by
    have hc : ∃ o, W.heap[k]? = some o ∧ o.isCells = true := by
      rcases h.2 with ⟨h1, _⟩ | ⟨g3, cap, cur, h1, _, hB3, _⟩
      · rw [h1] at hk2; cases hk2
      · rw [h1] at hk2
        injection hk2 with hk2
        subst hk2
        exact ⟨_, hB3, rfl⟩
    exact (Safe.keep ⟨hc, fun e => by subst e; exact hv.not_row (by decide) h hk2.symm, fun e => by
      rw [rowIn_boxed hv] at e
      exact own_apart h hO.row (by decide) k hk2 e.symm⟩ hk).1)
theorem blk_keepB {gA k : Nat} {t : TypeId} {cs : Array Value} {v : Value} {L : List Zc} (h : Blk W k t cs) (hv : Boxed W gA 22 v) (hO : OwnZ W n0 v L) (hne : k ≠ gA) (ht : t ≠ 57) (hk : KeepB gA W W') : Blk W' k t cs :=
  ((Safe.keep ⟨⟨_, h, rfl⟩, hne, fun e => by
    rw [rowIn_boxed hv] at e
    exact own_not hO.row h ht k e rfl⟩ hk).1).trans h
/-- Behind a piece that was put. -/
theorem TkS.put {zs' : List Zn} {e : Ending} (h : TkS n0 b5 g nc TX tc T zs W) (hb5 : b5 < g) (hp : PutR (g + 1) n0 zs' W e W') : TkS n0 b5 g nc TX tc T zs' W' := by
  obtain ⟨v, L, h1, h2, h3⟩ := h.after
  obtain ⟨u, v', L', -, q1, q2, q3, q4, -, -⟩ := hp
  exact ⟨⟨v', L', q1, q2, q3⟩, blk_keepB h.note h1 h2 (by omega) (by decide) q4, blk_keepB h.then_ h1 h2 (by omega) (by decide) q4, blk_keepB h.fn h1 h2 (by omega) (by decide) q4, own_keepB h.row h1 h2 q4⟩
end
/-- Zones in a row that was laid behind. -/
theorem ZoneSafe.own {g : Nat} {W0 W : World} {U : Option Addr} {n d : Nat} {SL : List Zc} (h : RowOk g W0) (hb : Below W0.heap.size W0 W) (ho : W.ownsRow W0.heap.size 57 3 (.slice U n d) SL.length (zCells SL)) (hn : n = SL.length) : ZoneSafe g W U SL := fun hne => by
  subst hn
  obtain ⟨gb, cap, hv⟩ := own_len ho (List.length_pos_iff.2 hne)
  injection hv with hv _ hv2
  subst hv hv2
  have hge := own_base_le ho
  refine ⟨gb, 0, rfl, Safe.newer h hb hge.1 ?_, fun k x hx => ?_⟩
  · obtain ⟨x, hx⟩ : ∃ x, SL[0]? = some x := ⟨SL[0]'(List.length_pos_iff.2 hne), List.getElem?_eq_getElem _⟩
    exact cells_of_cell (own_cell_at ho (zCells_get SL 0 x hx).1)
  · obtain ⟨q0, q1, q2⟩ := zCells_get SL k x hx
    rw [Nat.zero_add]
    exact ⟨own_cell_at ho q0, own_cell_at ho q1, own_cell_at ho q2⟩
end Go.Proofs.Ytcfkpjbakccgiaa
namespace Go.Proofs.Ytcfkpjbakccgiaa
open Go.RowKit Go.Shelf Fb
attribute [local go_sem] Oper.semAt_some

theorem vec_short {n : Note} (hn : Nt.fmd n = true) : n.e.length ≤ 64 := by
  unfold Nt.fmd at hn
  simp only [Bool.and_eq_true] at hn
  exact Tr.short hn.2.1
theorem run_store_func (P : Program) (w : World) (a : Addr) (m : Mode) (f : Fn) (ca lb : Array Value) : (store a (.func f ca lb) m).run P w = stored P w a (.func f ca lb) m := run_store P w a _ m rfl
attribute [local go_sem] run_store_func

theorem stay_bounds {z : Zn} {fu : List (Int × Int)} {n : Note} : ∀ y ∈ Tr.stay z fu n, 0 ≤ y.1 ∧ y.1 ≤ 255 ∧ 0 ≤ y.2.1 ∧ y.2.1 ≤ 255 := fun y hy => by
  unfold Tr.stay at hy
  obtain ⟨s, hs, rfl⟩ := List.mem_map.1 hy
  unfold Tr.keeps Sp.meetS at hs
  obtain ⟨k, hk, rfl⟩ := List.mem_iff_getElem.1 hs
  have := Sp.good_ofL _ k hk
  rw [List.getD_eq_getElem?_getD, List.getElem?_eq_getElem hk] at this
  obtain ⟨g1, g2, g3, -⟩ := this
  simp only [Option.getD_some] at g1 g2 g3
  refine ⟨g1, ?_, ?_, ?_⟩
  · show (_ : Int × Int).1 ≤ 255; omega
  · show 0 ≤ (_ : Int × Int).2; omega
  · show (_ : Int × Int).2 ≤ 255; omega
/-- The pieces of a piece: what each is. -/
theorem part_zn {p : Zc} {n : Note} {SL : List Zc} (hS : SL.map Zc.zn = Tr.stay (p.lo, p.hi, p.l) (Tr.fur p.l n) n) (FX : Option Addr) (fd : Nat) : (pcc ⟨0, 0, FX, fd, Tr.fur p.l n⟩ p.hi p.lo SL).map Zc.zn = Tr.parts (p.lo, p.hi, p.l) n := by
  rw [pcc_zn, hS]
  rfl
theorem part_piece {p : Zc} {n : Note} (hn : Nt.fmd n = true) (h1 : 0 ≤ p.lo) (h2 : p.lo ≤ p.hi) (h3 : p.hi ≤ 255) (hl : p.l.length ≤ 64) {SL : List Zc} (hS : SL.map Zc.zn = Tr.stay (p.lo, p.hi, p.l) (Tr.fur p.l n) n) (hX : ∀ z ∈ SL, z.X = p.X ∧ z.c = p.c ∧ z.l = p.l) (FX : Option Addr) (fd k : Nat) :
    0 ≤ ((pcc ⟨0, 0, FX, fd, Tr.fur p.l n⟩ p.hi p.lo SL).getD k Zc.none).lo ∧ 0 ≤ ((pcc ⟨0, 0, FX, fd, Tr.fur p.l n⟩ p.hi p.lo SL).getD k Zc.none).hi ∧ ((pcc ⟨0, 0, FX, fd, Tr.fur p.l n⟩ p.hi p.lo SL).getD k Zc.none).hi ≤ 255 ∧ ((pcc ⟨0, 0, FX, fd, Tr.fur p.l n⟩ p.hi p.lo SL).getD k Zc.none).l.length ≤ 64 ∧
    ∀ w, OneL w p.X p.c p.l → OneL w FX fd (Tr.fur p.l n) → OneL w ((pcc ⟨0, 0, FX, fd, Tr.fur p.l n⟩ p.hi p.lo SL).getD k Zc.none).X ((pcc ⟨0, 0, FX, fd, Tr.fur p.l n⟩ p.hi p.lo SL).getD k Zc.none).c ((pcc ⟨0, 0, FX, fd, Tr.fur p.l n⟩ p.hi p.lo SL).getD k Zc.none).l := by
  have hz := part_zn hS FX fd
  have hfl : (Tr.fur p.l n).length ≤ 64 := Ve.ofL_len _
  obtain ⟨Q, hQ⟩ : ∃ Q, pcc ⟨0, 0, FX, fd, Tr.fur p.l n⟩ p.hi p.lo SL = Q := ⟨_, rfl⟩
  have hmem := fun z hz => pcc_mem ⟨0, 0, FX, fd, Tr.fur p.l n⟩ p.hi SL p.lo z hz
  rw [hQ] at hz hmem ⊢
  rw [List.getD_eq_getElem?_getD]
  cases hk : Q[k]? with
  | none => exact ⟨Int.le_refl _, Int.le_refl _, by show (0 : Int) ≤ 255; omega, Nat.zero_le _, fun w _ _ => OneL.nil⟩
  | some q =>
    have hm := List.mem_of_getElem? hk
    have hq : q.zn ∈ Tr.parts (p.lo, p.hi, p.l) n := by rw [← hz]; exact List.mem_map.2 ⟨q, hm, rfl⟩
    obtain ⟨t1, t2, t3, -⟩ := Tr.tiles_of _ _ _ (Tr.parts_tiles hn (z := (p.lo, p.hi, p.l)) h1 h2 h3) _ hq
    have t1 : (p.lo.toNat : Int) ≤ q.lo := t1
    have t2 : q.lo ≤ q.hi := t2
    have t3 : q.hi < ((p.hi.toNat + 1 : Nat) : Int) := t3
    refine ⟨by show 0 ≤ q.lo; omega, by show 0 ≤ q.hi; omega, by show q.hi ≤ 255; omega, ?_, fun w q1 q2 => ?_⟩
    · show q.l.length ≤ 64
      rcases hmem q hm with hl2 | ⟨-, -, hl2⟩
      · rw [(hX q hl2).2.2]; exact hl
      · rw [hl2]; exact hfl
    · show OneL w q.X q.c q.l
      rcases hmem q hm with hl2 | ⟨e1, e2, e3⟩
      · obtain ⟨e1, e2, e3⟩ := hX q hl2
        rw [e1, e2, e3]; exact q1
      · rw [e1, e2, e3]; exact q2
/-- A list of stamps speaks of cells alone. -/
theorem keepsFrom_below {n0 : Nat} {W W' : World} (hb : Below W.heap.size W W') : KeepsFrom n0 W W' := (keeps_below hb).from _

set_option maxRecDepth 100000 in
set_option maxHeartbeats 12800000 in
theorem ttake_any (A B S E Bl V : Option Addr) (c cb cs ce cl cv : Nat) (L : List Zc) (kn : List (Int × Int)) (n : Note) (w : World) (h : OneZ w A c L) (hb : OneL w B cb kn) (hN : NoteAt w S E Bl V cs ce cl cv n) :
    Calls Try.prog 23 #[.slice A L.length c, .slice B kn.length cb, .agg (noteCells S E Bl V cs ce cl cv n)] w (GivesT (Tr.tkR (L.map Zc.zn) kn n) w) := by
  have N1 := Lib.hid (fun (w' : World) (b : Below w.heap.size w w') => tformed_any A c L w' (h.later b))
  have N2 := Lib.hid (fun (w' : World) (b : Below w.heap.size w w') => formed_any B cb kn w' (hb.later b))
  have N3 := Lib.hid (fun (w' : World) (b : Below w.heap.size w w') => dnformed_any S E Bl V cs ce cl cv n w' (hN.later b))
  have N4 := Lib.hid (fun (w' : World) (b : Below w.heap.size w w') => dnfits_any S E Bl V B cs ce cl cv cb n kn w' (hN.later b) (hb.later b))
  have HD := Lib.hid h
  have HK := Lib.hid hb
  have HNA := Lib.hid hN
  clear h hb hN
  have b0 := below_new (Below.refl w.heap.size w) (.cells (noteCells S E Bl V cs ce cl cv n) 38)
  have B5 := Blk.new w 38 (noteCells S E Bl V cs ce cl cv n)
  obtain ⟨W1, hW1⟩ : ∃ W1, w.alloc (.cells (noteCells S E Bl V cs ce cl cv n) 38) = W1 := ⟨_, rfl⟩
  rw [hW1] at b0 B5
  have hz1 : w.heap.size + 1 ≤ W1.heap.size := by rw [← hW1]; simp
  have HW1 := Lib.hid hW1
  clear hW1
  refine (callsIn_wide (n := 5)).1 ?_
  refine callsIn_of_wp_marks Try.func23 rfl trivial ?_ rfl
  simp only [Try.ntmps23, List.size_toArray, List.length_cons, List.length_nil, Nat.reduceAdd, Nat.reduceSub, Array.replicate_succ, Array.replicate_zero, List.push_toArray, List.append_toArray, List.nil_append, List.cons_append]
  unfold noteCells at N3 N4 B5 HW1 ⊢
  cases hq : Tr.fmd (L.map Zc.zn) with
  | false =>
    have hR : Tr.tkR (L.map Zc.zn) kn n = ([], [], 1) := by unfold Tr.tkR; rw [if_neg (fun h => by rw [hq] at h; exact absurd h.1 Bool.false_ne_true)]
    rw [hR]
    rw [hq] at N1
    clear hR hq
    gi_wp2_with fail
    rw [HW1.out]
    refine ⟨trivial, (callsIn_wide.2 (N1.out _ b0)).mono ?_⟩
    rintro e w1 ⟨rfl, b1⟩
    have FB := Lib.hid (GivesT.err 1 (below_on b0 b1))
    clear N1 N2 N3 N4 B5 b1 HW1
    gi_wp2_with fail
    refine ⟨trivial, ?_⟩
    gi_wp2_with fail
    refine ⟨trivial, ?_⟩
    gi_wp2
    exact ⟨_, by simp [results, Try.f23, go_sem], FB.out⟩
  | true =>
  rw [hq] at N1
  cases hk : Ve.fmd kn with
  | false =>
    have hR : Tr.tkR (L.map Zc.zn) kn n = ([], [], 1) := by unfold Tr.tkR; rw [if_neg (fun h => by rw [hk] at h; exact absurd h.2.1 Bool.false_ne_true)]
    rw [hR]
    rw [hk] at N2
    clear hR hk
    gi_wp2_with fail
    rw [HW1.out]
    refine ⟨trivial, (callsIn_wide.2 (N1.out _ b0)).mono ?_⟩
    rintro e w1 ⟨rfl, b1⟩
    have bb1 := below_on b0 b1
    gi_wp2_with fail
    refine ⟨trivial, (callsIn_wide.2 (N2.out _ bb1)).mono ?_⟩
    rintro e w2 ⟨rfl, b2⟩
    have FB := Lib.hid (GivesT.err 1 (below_on bb1 b2))
    clear N1 N2 N3 N4 B5 b1 b2 bb1 HW1
    gi_wp2_with fail
    refine ⟨trivial, ?_⟩
    gi_wp2
    exact ⟨_, by simp [results, Try.f23, go_sem], FB.out⟩
  | true =>
  rw [hk] at N2
  cases hn : Nt.fmd n with
  | false =>
    have hR : Tr.tkR (L.map Zc.zn) kn n = ([], [], 1) := by unfold Tr.tkR; rw [if_neg (fun h => by rw [hn] at h; exact absurd h.2.2 Bool.false_ne_true)]
    rw [hR]
    rw [hn] at N3
    clear hR hn
    gi_wp2_with fail
    rw [HW1.out]
    refine ⟨trivial, (callsIn_wide.2 (N1.out _ b0)).mono ?_⟩
    rintro e w1 ⟨rfl, b1⟩
    have bb1 := below_on b0 b1
    have C5 := B5.later b1
    gi_wp2_with fail
    refine ⟨trivial, (callsIn_wide.2 (N2.out _ bb1)).mono ?_⟩
    rintro e w2 ⟨rfl, b2⟩
    have bb2 := below_on bb1 b2
    have D5 := C5.later b2
    have c0 := D5.cell (i := 0) rfl
    have c1 := D5.cell (i := 1) rfl
    have c2 := D5.cell (i := 2) rfl
    have c3 := D5.cell (i := 3) rfl
    clear b1 b2 C5
    gi_wp2_with fail
    refine ⟨trivial, (callsIn_wide.2 (N3.out _ bb2)).mono ?_⟩
    rintro e w3 ⟨rfl, b3⟩
    have FB := Lib.hid (GivesT.err 1 (below_on bb2 b3))
    clear N1 N2 N3 N4 B5 b3 bb1 bb2 HW1 D5 c0 c1 c2 c3
    gi_wp2
    exact ⟨_, by simp [results, Try.f23, go_sem], FB.out⟩
  | true =>
  rw [hn] at N3
  cases hf : Ve.cov (Ve.cnt kn) (Ve.cnt n.s) with
  | false =>
    have hR : Tr.tkR (L.map Zc.zn) kn n = ([], [], 3) := by unfold Tr.tkR; rw [if_pos ⟨hq, hk, hn⟩, if_neg (by rw [hf]; exact Bool.false_ne_true)]
    rw [hR]
    rw [hf] at N4
    clear hR hf hq hk hn
    gi_wp2_with fail
    rw [HW1.out]
    refine ⟨trivial, (callsIn_wide.2 (N1.out _ b0)).mono ?_⟩
    rintro e w1 ⟨rfl, b1⟩
    have bb1 := below_on b0 b1
    have C5 := B5.later b1
    gi_wp2_with fail
    refine ⟨trivial, (callsIn_wide.2 (N2.out _ bb1)).mono ?_⟩
    rintro e w2 ⟨rfl, b2⟩
    have bb2 := below_on bb1 b2
    have D5 := C5.later b2
    have c0 := D5.cell (i := 0) rfl
    have c1 := D5.cell (i := 1) rfl
    have c2 := D5.cell (i := 2) rfl
    have c3 := D5.cell (i := 3) rfl
    clear b1 b2 C5
    gi_wp2_with fail
    refine ⟨trivial, (callsIn_wide.2 (N3.out _ bb2)).mono ?_⟩
    rintro e w3 ⟨rfl, b3⟩
    have bb3 := below_on bb2 b3
    have E5 := D5.later b3
    have d0 := E5.cell (i := 0) rfl
    have d1 := E5.cell (i := 1) rfl
    have d2 := E5.cell (i := 2) rfl
    have d3 := E5.cell (i := 3) rfl
    clear b3 c0 c1 c2 c3
    gi_wp2_with fail
    refine ⟨trivial, (callsIn_wide.2 (N4.out _ bb3)).mono ?_⟩
    rintro e w4 ⟨rfl, b4⟩
    have FB := Lib.hid (GivesT.err 3 (below_on bb3 b4))
    clear N1 N2 N3 N4 B5 b4 bb1 bb2 bb3 HW1 D5 E5 d0 d1 d2 d3
    gi_wp2
    exact ⟨_, by simp [results, Try.f23, go_sem], FB.out⟩
  | true =>
  have hR := Tr.take_yes hq hk hn hf
  have hfold := Tr.take_fold hq kn hn
  rw [hf] at N4
  obtain ⟨T, hT⟩ : ∃ T, Ve.joinL [kn, n.e] = T := ⟨_, rfl⟩
  rw [hT] at hR hfold
  rw [← hfold] at hR
  have HTR := Lib.hid hR
  have HQ := Lib.hid hq
  have HKF := Lib.hid hk
  have HNF := Lib.hid hn
  clear hR hfold hq hk hn hf
  gi_wp2_with fail
  rw [HW1.out]
  refine ⟨trivial, (callsIn_wide.2 (N1.out _ b0)).mono ?_⟩
  rintro e w1 ⟨rfl, b1⟩
  have bb1 := below_on b0 b1
  have C5 := B5.later b1
  gi_wp2_with fail
  refine ⟨trivial, (callsIn_wide.2 (N2.out _ bb1)).mono ?_⟩
  rintro e w2 ⟨rfl, b2⟩
  have bb2 := below_on bb1 b2
  have D5 := C5.later b2
  have c0 := D5.cell (i := 0) rfl
  have c1 := D5.cell (i := 1) rfl
  have c2 := D5.cell (i := 2) rfl
  have c3 := D5.cell (i := 3) rfl
  clear b1 b2 C5
  gi_wp2_with fail
  refine ⟨trivial, (callsIn_wide.2 (N3.out _ bb2)).mono ?_⟩
  rintro e w3 ⟨rfl, b3⟩
  have bb3 := below_on bb2 b3
  have E5 := D5.later b3
  have d0 := E5.cell (i := 0) rfl
  have d1 := E5.cell (i := 1) rfl
  have d2 := E5.cell (i := 2) rfl
  have d3 := E5.cell (i := 3) rfl
  clear b3 c0 c1 c2 c3 D5
  gi_wp2_with fail
  refine ⟨trivial, (callsIn_wide.2 (N4.out _ bb3)).mono ?_⟩
  rintro e w4 ⟨rfl, b4⟩
  have bb4 := below_on bb3 b4
  have F5 := E5.later b4
  have f1 := F5.cell (i := 1) rfl
  have JB := Blk.new w4 23 #[.slice B kn.length cb, .slice E n.e.length ce]
  have bJ := below_new (Below.refl w4.heap.size w4) (.cells #[.slice B kn.length cb, .slice E n.e.length ce] 23)
  have JN := join_any (some ⟨w4.heap.size, 0, none⟩) 2 [kn, n.e] _ (by simp) (rows_two JB (HK.out.later (below_on bb4 bJ)) (HNA.out.he.later (below_on bb4 bJ)))
  rw [hT] at JN
  have NJ := Lib.hid JN
  have G5 := F5.later bJ
  have bb5 := below_on bb4 bJ
  clear b4 d0 d1 d2 d3 E5 F5 JB bJ JN N1 N2 N3 N4 bb1 bb2 bb3 bb4 HW1 B5
  gi_wp2_with fail
  refine ⟨trivial, (callsIn_wide.2 NJ.out).mono ?_⟩
  rintro e w5 ⟨u, rfl, ho5, b5⟩
  obtain ⟨TX, tc, rfl, -, -, -, -⟩ := own_form ho5
  have bb6 := below_on bb5 b5
  have G6 := G5.later b5
  have hT5 := own_base ho5 bb5.size
  clear NJ G5 ho5 b5 f1
  gi_wp2_with fail
  have B9 := ((Blk.new w5 23 #[.slice TX T.length tc]).alloc (.cells #[.slice none 0 0] 22)).alloc (.cells #[.func (.func 52) #[] #[.pointer (some ⟨w5.heap.size + 1, 0, none⟩), .pointer (some ⟨w5.heap.size, 0, none⟩)]] 75)
  have B10 := (Blk.new (w5.alloc (.cells #[.slice TX T.length tc] 23)) 22 #[.slice none 0 0]).alloc (.cells #[.func (.func 52) #[] #[.pointer (some ⟨w5.heap.size + 1, 0, none⟩), .pointer (some ⟨w5.heap.size, 0, none⟩)]] 75)
  have B11 := Blk.new ((w5.alloc (.cells #[.slice TX T.length tc] 23)).alloc (.cells #[.slice none 0 0] 22)) 75 #[.func (.func 52) #[] #[.pointer (some ⟨w5.heap.size + 1, 0, none⟩), .pointer (some ⟨w5.heap.size, 0, none⟩)]]
  have b8 : Below w5.heap.size w5 (((w5.alloc (.cells #[.slice TX T.length tc] 23)).alloc (.cells #[.slice none 0 0] 22)).alloc (.cells #[.func (.func 52) #[] #[.pointer (some ⟨w5.heap.size + 1, 0, none⟩), .pointer (some ⟨w5.heap.size, 0, none⟩)]] 75)) := below_new (below_new (below_new (Below.refl _ _) _) _) _
  simp only [World.size_alloc] at B10 B11
  obtain ⟨W8, hW8⟩ : ∃ W8, ((w5.alloc (.cells #[.slice TX T.length tc] 23)).alloc (.cells #[.slice none 0 0] 22)).alloc (.cells #[.func (.func 52) #[] #[.pointer (some ⟨w5.heap.size + 1, 0, none⟩), .pointer (some ⟨w5.heap.size, 0, none⟩)]] 75) = W8 := ⟨_, rfl⟩
  rw [hW8] at B9 B10 B11 b8
  have G8 := G6.later b8
  have hT8 := own_later hT5 b8
  have bb8 := below_on bb6 b8
  have hb5 : w.heap.size < w5.heap.size := by have := G6.lt; omega
  have HW8 := Lib.hid hW8
  obtain ⟨g, hg⟩ : ∃ g, w5.heap.size = g := ⟨_, rfl⟩
  have HG := Lib.hid hg
  rw [hg] at B9 B10 B11 hb5
  have TS := (⟨⟨.slice none 0 0, [], B10, OwnZ.nil _ _, rfl⟩, G8, B9, B11, hT8⟩ : TkS w.heap.size w.heap.size g #[.slice S n.s.length cs, .slice E n.e.length ce, .slice Bl n.b.length cl, .slice V n.ws.length cv] TX tc T [] W8)
  clear B9 b8 G6 hT5 G8 hT8 bb6 bb5 hW8 hg b0 hz1 hT
  rw [HW8.out]
  refine ⟨trivial, (callsIn_wide.2 (everything_any W8)).mono ?_⟩
  rintro e w6 ⟨rfl, b6⟩
  have TS6 := TS.below b6
  have bb9 := below_on bb8 b6
  have D10 := B10.later b6
  have hg6 := (B11.later b6).lt
  have NP := Lib.hid (pieces_any A c L ⟨0, 0, B, cb, kn⟩ 0 255 w6)
  clear TS b6 bb8 B10 B11
  gi_wp2_with fail
  refine ⟨trivial, (callsIn_wide.2 NP.out).mono ?_⟩
  rintro e w7 ⟨bw, bz, br, rfl, Bw, Bz, Br, l1, l2, l3, b7⟩
  have TS7 := TS6.below b7
  have bb7 := below_on bb9 b7
  have E10 := D10.later b7
  clear NP
  gi_wp2_with fail
  rw [HG.out]
  have hrn : rowIn w7 (g + 1) = none := by unfold rowIn; rw [E10.cell (i := 0) rfl]; rfl
  have hok := TS7.ok
  have hok6 := TS6.ok
  obtain ⟨P, hP⟩ : ∃ P, pcc ⟨0, 0, B, cb, kn⟩ 255 0 L = P := ⟨_, rfl⟩
  have hpc := fun k => all_piece HQ.out (R := ⟨0, 0, B, cb, kn⟩) HKF.out k
  have hsh := all_short HQ.out ⟨0, 0, B, cb, kn⟩
  have hzn := all_zn L ⟨0, 0, B, cb, kn⟩
  rw [hP] at hpc hsh hzn
  have HPC := Lib.hid hpc
  have HZN := Lib.hid hzn
  have SEQ := pieces_stops (g + 1) 4 L P ⟨0, 0, B, cb, kn⟩ 0 255 hP (fmd_bounds HQ.out) (by omega) (by omega) HD.out.len A c bw bz br w7 hok (Safe.newer hok6 b7 l1 Bw.isCells) (Safe.newer hok6 b7 l3 Br.isCells) Bw Bz Br (ZoneSafe.old HD.out bb7 (by omega) (fun r e => by rw [hrn] at e; cases e))
  have hz7 := bb7.size
  have hg7 : g + 2 < w7.heap.size := by have := TS7.fn.lt; omega
  have HBB7 := Lib.hid bb7
  have HB5 := Lib.hid hb5
  clear hpc hzn hP hok6 Bw Bz Br l1 l2 l3 D10 b7 bb9 TS6 hrn E10 hg6
  refine wpIn_rangeFunc_ownH rfl (by omega) (gf := 71) (lb := #[.pointer (some ⟨bw, 0, none⟩), .pointer (some ⟨bz, 0, none⟩), .pointer (some ⟨br, 0, none⟩)]) rfl trivial enters_eachP SEQ KeepB.trans (fun W l' o o' hl h1 h2 _ => KeepB.put l' o o' h1 h2 (show l' ≠ g + 1 by omega)) (Below.refl _ _) (fun _ => rfl)
    (fun pre W => TkS w.heap.size w.heap.size g #[.slice S n.s.length cs, .slice E n.e.length ce, .slice Bl n.b.length cl, .slice V n.ws.length cv] TX tc T ((pre.map fun k => (P.getD k Zc.none).zn).foldl (Tr.puts T n) []) W ∧ Below w.heap.size w W)
    (fun _ _ _ => False)
    ?hI (fun _ _ _ _ _ h _ _ => h) ⟨TS7, bb7⟩
    (fun x a' W => ∃ Bx, g + 2 < Bx ∧ Blk W Bx 55 #[.int .i64 (P.getD x Zc.none).lo, .int .i64 (P.getD x Zc.none).hi] ∧ a' = { tmps := #[.slice A L.length c, .slice B kn.length cb, .agg #[.slice S n.s.length cs, .slice E n.e.length ce, .slice Bl n.b.length cl, .slice V n.ws.length cv], undef, undef, .pointer (some ⟨w.heap.size, 0, none⟩), .slice none 0 0, .slice none 0 0, .int .i64 0, .pointer (some ⟨g, 0, none⟩), .pointer (some ⟨g + 1, 0, none⟩), .pointer (some ⟨g + 1 + 1, 0, none⟩), .pointer (some ⟨Bx, 0, none⟩), .slice (P.getD x Zc.none).X (P.getD x Zc.none).l.length (P.getD x Zc.none).c, undef, undef, undef, .bool false, .slice A L.length c, .bool true, .bool false, .bool false, .slice B kn.length cb, .bool true, .bool false, .bool false, .bool false, .agg #[.slice S n.s.length cs, .slice E n.e.length ce, .slice Bl n.b.length cl, .slice V n.ws.length cv], .bool true, .bool false, .bool false, .bool false, .agg #[.slice S n.s.length cs, .slice E n.e.length ce, .slice Bl n.b.length cl, .slice V n.ws.length cv], .slice B kn.length cb, .bool true, .bool false, .slice B kn.length cb, .pointer (some ⟨w.heap.size, 1, none⟩), .slice E n.e.length ce, .slice (some ⟨w4.heap.size, 0, none⟩) 2 2, .slice TX T.length tc, .func (.func 52) #[] #[.pointer (some ⟨g + 1, 0, none⟩), .pointer (some ⟨g, 0, none⟩)], .slice A L.length c, .slice B kn.length cb, .agg #[.int .i64 0, .int .i64 255], .func (.func 71) #[] #[.pointer (some ⟨bw, 0, none⟩), .pointer (some ⟨bz, 0, none⟩), .pointer (some ⟨br, 0, none⟩)], .agg #[.int .i64 (P.getD x Zc.none).lo, .int .i64 (P.getD x Zc.none).hi], .slice (P.getD x Zc.none).X (P.getD x Zc.none).l.length (P.getD x Zc.none).c, undef, undef, undef, undef, undef, undef, undef, undef, undef, undef, undef, undef, undef, undef, undef, undef, undef, undef, undef], defers := [] })
    ?hAx ?assign ?body ?done ?stop
  case hI => exact OwnFrom.and (Own.from (fun s X Y row h hg hr => (h.own hg hr).1) _) (ownFrom_below (Nat.le_refl _) hz7)
  case hAx => exact fun x a' _ X Y row ⟨Bx, h1, h2, h3⟩ hg hr => ⟨Bx, h1, blk_own _ _ (fun (_ : Unit) => #[.int .i64 (P.getD x Zc.none).lo, .int .i64 (P.getD x Zc.none).hi]) () X Y row h2 hg (fun r e => (hr r e).2), h3⟩
  case assign =>
    rintro l' pre x W K ⟨i1, i3⟩ hK
    unfold tellP toldP
    have bN := below_new (Below.refl W.heap.size W) (.cells #[.int .i64 (P.getD x Zc.none).lo, .int .i64 (P.getD x Zc.none).hi] 55)
    have HK := Lib.hid (fun a' W' h1 h2 h3 h4 => hK a' W' h1 h2 h3 h4)
    have I1 := Lib.hid i1
    have I3 := Lib.hid i3
    have BN := Lib.hid bN
    clear hK i1 i3 bN
    gi_wp2
    exact HK.out _ _ (keepsFrom_below BN.out) (KeepB.below I1.out.ok BN.out) ⟨I1.out.below BN.out, below_on I3.out BN.out⟩ ⟨W.heap.size, I1.out.fn.lt, Blk.new _ _ _, rfl⟩
  case body =>
    rintro l' pre x a' W hl hloop ⟨i1, i3⟩ ⟨Bx, hBx, hX, rfl⟩ hlt
    obtain ⟨p1, p2, p3, p4, p5⟩ := HPC.out x
    have p6 := fun (W' : World) (q : Below w.heap.size w W') => p5 W' (fun z hz => (HD.out.each z hz).later q) (HK.out.later q)
    have p5 := p6 W i3
    have hob := Tr.okZ_puts (T := T) HNF.out (pre.map fun k => (P.getD k Zc.none).zn) [] (fun z hz => by cases hz) (fun z hz => by
      obtain ⟨k, -, rfl⟩ := List.mem_map.1 hz
      obtain ⟨q1, q2, q3, -, -⟩ := HPC.out k
      exact ⟨q1, q2, q3⟩)
    obtain ⟨O, hO⟩ : ∃ O, (pre.map fun k => (P.getD k Zc.none).zn).foldl (Tr.puts T n) [] = O := ⟨_, rfl⟩
    have hOn : ((pre ++ [x]).map fun k => (P.getD k Zc.none).zn).foldl (Tr.puts T n) [] = (Tr.parts (P.getD x Zc.none).zn n).foldl (Tr.put T) O := by
      rw [List.map_append, List.foldl_append, hO]
      rfl
    rw [hO] at i1 hob
    rw [List.length_map] at hob
    obtain ⟨p, hp⟩ : ∃ p, P.getD x Zc.none = p := ⟨_, rfl⟩
    rw [hp] at hX p1 p2 p3 p4 p5 p6 hOn ⊢
    have hpl := Tr.short p4
    have hobl : O.length ≤ 140000 := by have := hob.2; simp only [List.length_nil] at this; omega
    have c0 := i1.note.cell (i := 0) rfl
    have c1 := i1.note.cell (i := 1) rfl
    have c2 := i1.note.cell (i := 2) rfl
    have c3 := i1.note.cell (i := 3) rfl
    obtain ⟨fu, hfu⟩ : ∃ fu, Tr.fur p.l n = fu := ⟨_, rfl⟩
    have STR := tstretched_any p.X S E Bl V p.c cs ce cl cv p.l n W p5 (HNA.out.later i3) (vec_short HNF.out)
    rw [hfu] at STR
    unfold noteCells at STR
    have HSTR := Lib.hid STR
    have I1 := Lib.hid i1
    have I3 := Lib.hid i3
    have HX := Lib.hid hX
    have H5 := Lib.hid p6
    have HOB := Lib.hid hob.1
    have HON := Lib.hid hOn
    have HFU := Lib.hid hfu
    have HLO := Lib.hid hloop
    clear i1 i3 hX p5 p6 p4 hob hOn hO hp STR hloop SEQ hok TS7 bb7 hfu
    gi_wp2_with fail
    refine ⟨trivial, (CallsIn.inRound l' (callsIn_wide.2 HSTR.out)).mono ?_⟩
    rintro e wa ⟨uF, rfl, hoF, ba⟩
    obtain ⟨FX, fd, rfl, -, -, -, -⟩ := own_form hoF
    have JA := I1.out.below ba
    have HJA := Lib.hid JA
    have HNB := Lib.hid JA.note
    have HXA := Lib.hid (HX.out.later ba)
    have HBA := Lib.hid ba
    have hwa := I3.out.size
    have HFR := Lib.hid (own_base hoF hwa)
    have HSTA := Lib.hid (fun (w' : World) (q : Below wa.heap.size wa w') => (show Calls Try.prog 56 #[.agg #[.slice S n.s.length cs, .slice E n.e.length ce, .slice Bl n.b.length cl, .slice V n.ws.length cv], .agg #[.int .i64 p.lo, .int .i64 p.hi], .slice p.X p.l.length p.c, .slice FX fu.length fd] w' (GivesStay p.X p.c p.l (Tr.stay (p.lo, p.hi, p.l) fu n) w') from
      tstaying_any S E Bl V p.X FX cs ce cl cv p.c fd n p.lo p.hi p.l fu w' (HNA.out.later (below_on (below_on I3.out ba) q)) HNF.out (by
        obtain ⟨F2, f2, e2, o2⟩ := OneL.of_own (own_later hoF q)
        injection e2 with e3 _ e4
        subst e3 e4
        exact o2)))
    obtain ⟨STY, hSTY⟩ : ∃ STY, Tr.stay (p.lo, p.hi, p.l) fu n = STY := ⟨_, rfl⟩
    rw [hSTY] at HSTA
    have HSTY := Lib.hid hSTY
    clear ba hoF JA c0 c1 c2 c3 HSTR hSTY
    gi_wp2_with fail
    refine wpIn_region_facts 7 (by kernel_rfl) (by kernel_rfl) (by kernel_rfl) ?letsoutR
      (fun v => { tmps := #[.slice A L.length c, .slice B kn.length cb, .agg #[.slice S n.s.length cs, .slice E n.e.length ce, .slice Bl n.b.length cl, .slice V n.ws.length cv], undef, undef, .pointer (some ⟨w.heap.size, 0, none⟩), .slice none 0 0, .slice none 0 0, .int .i64 0, .pointer (some ⟨g, 0, none⟩), .pointer (some ⟨g + 1, 0, none⟩), .pointer (some ⟨g + 1 + 1, 0, none⟩), .pointer (some ⟨Bx, 0, none⟩), .slice p.X p.l.length p.c, .slice FX fu.length fd, undef, undef, .bool false, .slice A L.length c, .bool true, .bool false, .bool false, .slice B kn.length cb, .bool true, .bool false, .bool false, .bool false, .agg #[.slice S n.s.length cs, .slice E n.e.length ce, .slice Bl n.b.length cl, .slice V n.ws.length cv], .bool true, .bool false, .bool false, .bool false, .agg #[.slice S n.s.length cs, .slice E n.e.length ce, .slice Bl n.b.length cl, .slice V n.ws.length cv], .slice B kn.length cb, .bool true, .bool false, .slice B kn.length cb, .pointer (some ⟨w.heap.size, 1, none⟩), .slice E n.e.length ce, .slice (some ⟨w4.heap.size, 0, none⟩) 2 2, .slice TX T.length tc, .func (.func 52) #[] #[.pointer (some ⟨g + 1, 0, none⟩), .pointer (some ⟨g, 0, none⟩)], .slice A L.length c, .slice B kn.length cb, .agg #[.int .i64 0, .int .i64 255], .func (.func 71) #[] #[.pointer (some ⟨bw, 0, none⟩), .pointer (some ⟨bz, 0, none⟩), .pointer (some ⟨br, 0, none⟩)], .agg #[.int .i64 p.lo, .int .i64 p.hi], .slice p.X p.l.length p.c, .slice p.X p.l.length p.c, .agg #[.slice S n.s.length cs, .slice E n.e.length ce, .slice Bl n.b.length cl, .slice V n.ws.length cv], .slice FX fu.length fd, v 0, v 1, v 2, v 3, v 4, v 5, v 6, undef, undef, undef, undef, undef, undef, undef, undef, undef], defers := [] }) (fun _ => undef)
      (fun i x wx => match i with
        | 0 => x = .agg #[.slice S n.s.length cs, .slice E n.e.length ce, .slice Bl n.b.length cl, .slice V n.ws.length cv]
        | 1 => x = .agg #[.int .i64 p.lo, .int .i64 p.hi]
        | 2 => x = .slice p.X p.l.length p.c
        | 3 => x = .slice FX fu.length fd
        | 4 => ∃ U d SL, x = .slice U (List.length SL) d ∧ wx.ownsRow wa.heap.size 57 3 (.slice U SL.length d) SL.length (zCells SL) ∧ SL.map Zc.zn = STY ∧ (∀ z ∈ SL, z.X = p.X ∧ z.c = p.c ∧ z.l = p.l)
        | 5 => x = .slice FX fu.length fd
        | 6 => x = .agg #[.int .i64 p.lo, .int .i64 p.hi]
        | _ => True)
      (fun w1 w2 => Below w1.heap.size w1 w2) (fun h1 h2 => below_on h1 h2) (fun _ => Below.refl _ _) (Below.drew (Below.refl _ _)) ?stabR ?stepR ?doneR
    case letsoutR => exact fun ⟨_, _, h⟩ => h
    case stabR =>
      rintro i x w1 w2 h hb
      match i, h with
      | 0, h => exact h
      | 1, h => exact h
      | 2, h => exact h
      | 3, h => exact h
      | 4, h => obtain ⟨U, d, SL, h1, h2, h3, h4⟩ := h; exact ⟨U, d, SL, h1, own_later h2 hb, h3, h4⟩
      | 5, h => exact h
      | 6, h => exact h
      | i + 7, _ => trivial
    case stepR =>
      intro i hi v w' hb hd
      match i, hi with
      | 0, _ =>
        refine wpOp_oneK rfl (fun KK hKK => ?_)
        have HKK := Lib.hid hKK
        clear hKK hd
        have q0 := cell_later hb (HNB.out.cell (i := 0) rfl)
        have q1 := cell_later hb (HNB.out.cell (i := 1) rfl)
        have q2 := cell_later hb (HNB.out.cell (i := 2) rfl)
        have q3 := cell_later hb (HNB.out.cell (i := 3) rfl)
        go_wp2
        exact HKK.out _ _ ⟨_, (by simp [upd]; done), Below.refl _ _, rfl⟩
      | 1, _ =>
        refine wpOp_oneK rfl (fun KK hKK => ?_)
        have HKK := Lib.hid hKK
        clear hKK hd
        have q0 := cell_later hb (HXA.out.cell (i := 0) rfl)
        have q1 := cell_later hb (HXA.out.cell (i := 1) rfl)
        go_wp2
        exact HKK.out _ _ ⟨_, (by simp [upd]; done), Below.refl _ _, rfl⟩
      | 2, _ =>
        refine wpOp_oneK rfl (fun KK hKK => ?_)
        have HKK := Lib.hid hKK
        clear hKK hd
        go_wp2
        exact HKK.out _ _ ⟨_, (by simp [upd]; done), Below.refl _ _, rfl⟩
      | 3, _ =>
        refine wpOp_oneK rfl (fun KK hKK => ?_)
        have HKK := Lib.hid hKK
        clear hKK hd
        go_wp2
        exact HKK.out _ _ ⟨_, (by simp [upd]; done), Below.refl _ _, rfl⟩
      | 4, _ =>
        have h0 : v 0 = _ := hd 0 (List.elem_iff.1 (by kernel_rfl))
        have h1 : v 1 = _ := hd 1 (List.elem_iff.1 (by kernel_rfl))
        have h2 : v 2 = _ := hd 2 (List.elem_iff.1 (by kernel_rfl))
        have h3 : v 3 = _ := hd 3 (List.elem_iff.1 (by kernel_rfl))
        refine wpOp_oneK rfl (fun KK hKK => ?_)
        have HKK := Lib.hid hKK
        clear hKK hd
        rw [h0, h1, h2, h3]
        have hsz := hb.size
        go_wp2_with fail
        refine (HSTA.out _ hb).mono ?_
        rintro e w'' ⟨u, SL, rfl, ho, hz, hy, b⟩
        obtain ⟨U, d, rfl, -, -, -, -⟩ := own_form ho
        have HHO := Lib.hid (own_base ho hsz)
        have HHZ := Lib.hid hz
        have HHY := Lib.hid hy
        clear ho hz hy
        go_wp2
        exact HKK.out _ _ ⟨_, (by simp [upd, h0, h1, h2, h3]; done), b, U, d, SL, rfl, HHO.out, HHZ.out, HHY.out⟩
      | 5, _ =>
        refine wpOp_oneK rfl (fun KK hKK => ?_)
        have HKK := Lib.hid hKK
        clear hKK hd
        go_wp2
        exact HKK.out _ _ ⟨_, (by simp [upd]; done), Below.refl _ _, rfl⟩
      | 6, _ =>
        refine wpOp_oneK rfl (fun KK hKK => ?_)
        have HKK := Lib.hid hKK
        clear hKK hd
        have q0 := cell_later hb (HXA.out.cell (i := 0) rfl)
        have q1 := cell_later hb (HXA.out.cell (i := 1) rfl)
        go_wp2
        exact HKK.out _ _ ⟨_, (by simp [upd]; done), Below.refl _ _, rfl⟩
      | k + 7, hk => exact absurd hk (by omega)
    case doneR =>
      intro v w5 hb hf
      have h0 : v 0 = _ := hf 0 (by decide)
      have h1 : v 1 = _ := hf 1 (by decide)
      have h2 : v 2 = _ := hf 2 (by decide)
      have h3 : v 3 = _ := hf 3 (by decide)
      obtain ⟨U4, d4, SL4, h4, o4, z4, y4⟩ := hf 4 (by decide)
      have h5 : v 5 = _ := hf 5 (by decide)
      have h6 : v 6 = _ := hf 6 (by decide)
      clear hf
      rw [h0, h1, h2, h3, h4, h5, h6]
      have NP2 := Lib.hid (pieces_any U4 d4 SL4 ⟨0, 0, FX, fd, fu⟩ p.lo p.hi w5)
      have HZ4 := Lib.hid z4
      have HY4 := Lib.hid y4
      have HO4 := Lib.hid o4
      have BA5 := Lib.hid hb
      clear h0 h1 h2 h3 h4 h5 h6 z4 y4 o4 hb HSTA
      go_wp2_with fail
      refine NP2.out.mono ?_
      rintro e w6 ⟨bw2, bz2, br2, rfl, Bw2, Bz2, Br2, m1, m2, m3, b6⟩
      have baw := below_on BA5.out b6
      have bWw := below_on HBA.out baw
      have JB := HJA.out.below baw
      have hok5 := (HJA.out.below BA5.out).ok
      have hstay : SL4.map Zc.zn = Tr.stay (p.lo, p.hi, p.l) (Tr.fur p.l n) n := by rw [HFU.out, HSTY.out]; exact HZ4.out
      have hpp := fun k => part_piece HNF.out p1 p2 p3 hpl hstay HY4.out FX fd k
      have hpz := part_zn hstay FX fd
      have hSb : ∀ z ∈ SL4, 0 ≤ z.lo ∧ z.lo ≤ 255 ∧ 0 ≤ z.hi ∧ z.hi ≤ 255 := fun z hz => stay_bounds (z := (p.lo, p.hi, p.l)) (fu := Tr.fur p.l n) (n := n) z.zn (by rw [← hstay]; exact List.mem_map.2 ⟨z, hz, rfl⟩)
      have hSl : SL4.length ≤ 128 := by
        rw [← List.length_map (f := Zc.zn), hstay]
        unfold Tr.stay Tr.keeps Sp.meetS
        rw [List.length_map]
        exact Sp.ofL_len _
      rw [HFU.out] at hpp hpz
      obtain ⟨Qp, hQp⟩ : ∃ Qp, pcc ⟨0, 0, FX, fd, fu⟩ p.hi p.lo SL4 = Qp := ⟨_, rfl⟩
      rw [hQp] at hpp hpz
      have hQl : Qp.length ≤ 257 := by rw [← List.length_map (f := Zc.zn), hpz]; exact Tr.parts_len _ _
      have HPP := Lib.hid hpp
      have HPZ := Lib.hid hpz
      have SEQ2 := pieces_stops (g + 1) 2 SL4 Qp ⟨0, 0, FX, fd, fu⟩ p.lo p.hi hQp hSb (by omega) (by omega) (by omega) U4 d4 bw2 bz2 br2 w6 JB.ok (Safe.newer hok5 b6 m1 Bw2.isCells) (Safe.newer hok5 b6 m3 Br2.isCells) Bw2 Bz2 Br2 (ZoneSafe.own HJA.out.ok baw (own_later HO4.out b6) rfl)
      obtain ⟨rl, hrl⟩ := HLO.out
      have hrl6 : w6.heap[l']? = some (.loop rl) := (bWw.block l' (Array.getElem?_eq_some_iff.1 hrl).1).trans hrl
      have hF6 := own_later HFR.out baw
      have KB6 := KeepB.below I1.out.ok bWw
      have bw6 := below_on I3.out bWw
      have hg6 : g + 2 < w6.heap.size := JB.fn.lt
      have hWs := bWw.size
      have hz6 := bw6.size
      clear hpp hpz hSb hSl hQp hstay hok5 baw Bw2 Bz2 Br2 m1 m2 m3 b6 NP2 HO4 HZ4 HY4
      go_wp2_with fail
      gi_wp2_with fail
      refine wpIn_rangeFunc_ownN (l₀ := l') (r₀ := rl) rfl hrl6 (by omega) (gf := 71) (lb := #[.pointer (some ⟨bw2, 0, none⟩), .pointer (some ⟨bz2, 0, none⟩), .pointer (some ⟨br2, 0, none⟩)]) rfl trivial enters_eachP (SEQ2.inRound l') KeepB.trans (fun W9 l9 o o' hl9 h1 h2 _ => KeepB.put l9 o o' h1 h2 (show l9 ≠ g + 1 by omega)) (Below.refl _ _) (fun _ => rfl)
        (fun pre' W' => ((TkS w.heap.size w.heap.size g #[.slice S n.s.length cs, .slice E n.e.length ce, .slice Bl n.b.length cl, .slice V n.ws.length cv] TX tc T ((pre'.map fun k => (Qp.getD k Zc.none).zn).foldl (Tr.put T) O) W' ∧ W'.ownsRow w.heap.size 53 2 (.slice FX fu.length fd) fu.length (stCells fu)) ∧ KeepB (g + 1) W W') ∧ (KeepsFrom w7.heap.size W W' ∧ Below w.heap.size w W'))
        (fun _ _ _ => False)
        ?hI2 (fun _ _ _ _ _ h _ _ => h) ⟨⟨⟨JB, hF6⟩, KB6⟩, keepsFrom_below bWw, bw6⟩
        (fun y a'' W' => ∃ By, g + 2 < By ∧ Blk W' By 55 #[.int .i64 (Qp.getD y Zc.none).lo, .int .i64 (Qp.getD y Zc.none).hi] ∧ a'' = { tmps := #[.slice A L.length c, .slice B kn.length cb, .agg #[.slice S n.s.length cs, .slice E n.e.length ce, .slice Bl n.b.length cl, .slice V n.ws.length cv], undef, undef, .pointer (some ⟨w.heap.size, 0, none⟩), .slice none 0 0, .slice none 0 0, .int .i64 0, .pointer (some ⟨g, 0, none⟩), .pointer (some ⟨g + 1, 0, none⟩), .pointer (some ⟨g + 1 + 1, 0, none⟩), .pointer (some ⟨Bx, 0, none⟩), .slice p.X p.l.length p.c, .slice FX fu.length fd, .pointer (some ⟨By, 0, none⟩), .slice (Qp.getD y Zc.none).X (Qp.getD y Zc.none).l.length (Qp.getD y Zc.none).c, .bool false, .slice A L.length c, .bool true, .bool false, .bool false, .slice B kn.length cb, .bool true, .bool false, .bool false, .bool false, .agg #[.slice S n.s.length cs, .slice E n.e.length ce, .slice Bl n.b.length cl, .slice V n.ws.length cv], .bool true, .bool false, .bool false, .bool false, .agg #[.slice S n.s.length cs, .slice E n.e.length ce, .slice Bl n.b.length cl, .slice V n.ws.length cv], .slice B kn.length cb, .bool true, .bool false, .slice B kn.length cb, .pointer (some ⟨w.heap.size, 1, none⟩), .slice E n.e.length ce, .slice (some ⟨w4.heap.size, 0, none⟩) 2 2, .slice TX T.length tc, .func (.func 52) #[] #[.pointer (some ⟨g + 1, 0, none⟩), .pointer (some ⟨g, 0, none⟩)], .slice A L.length c, .slice B kn.length cb, .agg #[.int .i64 0, .int .i64 255], .func (.func 71) #[] #[.pointer (some ⟨bw, 0, none⟩), .pointer (some ⟨bz, 0, none⟩), .pointer (some ⟨br, 0, none⟩)], .agg #[.int .i64 p.lo, .int .i64 p.hi], .slice p.X p.l.length p.c, .slice p.X p.l.length p.c, .agg #[.slice S n.s.length cs, .slice E n.e.length ce, .slice Bl n.b.length cl, .slice V n.ws.length cv], .slice FX fu.length fd, .agg #[.slice S n.s.length cs, .slice E n.e.length ce, .slice Bl n.b.length cl, .slice V n.ws.length cv], .agg #[.int .i64 p.lo, .int .i64 p.hi], .slice p.X p.l.length p.c, .slice FX fu.length fd, .slice U4 SL4.length d4, .slice FX fu.length fd, .agg #[.int .i64 p.lo, .int .i64 p.hi], .func (.func 71) #[] #[.pointer (some ⟨bw2, 0, none⟩), .pointer (some ⟨bz2, 0, none⟩), .pointer (some ⟨br2, 0, none⟩)], .agg #[.int .i64 (Qp.getD y Zc.none).lo, .int .i64 (Qp.getD y Zc.none).hi], .slice (Qp.getD y Zc.none).X (Qp.getD y Zc.none).l.length (Qp.getD y Zc.none).c, undef, undef, undef, undef, undef, undef], defers := [] })
        ?hAx2 ?assign2 ?body2 ?done2 ?stop2
      case hI2 => exact OwnFrom.and (Own.from (fun s X Y row ⟨⟨h1, h2⟩, h3⟩ hg hr => ⟨⟨(h1.own hg hr).1, own_row _ _ _ _ _ _ () X Y row h2 hg hr⟩, (h1.own hg hr).2 W h3⟩) _) (OwnFrom.and (ownFrom_keepsFrom hWs) (ownFrom_below (Nat.le_refl _) hz6))
      case hAx2 => exact fun y a'' _ X Y row ⟨By, h1, h2, h3⟩ hg hr => ⟨By, h1, blk_own _ _ (fun (_ : Unit) => #[.int .i64 (Qp.getD y Zc.none).lo, .int .i64 (Qp.getD y Zc.none).hi]) () X Y row h2 hg (fun r e => (hr r e).2), h3⟩
      case assign2 =>
        rintro l2 pre' y W' K ⟨⟨⟨i1, i2⟩, i3⟩, i4, i5⟩ hK
        unfold tellP toldP
        have bN := below_new (Below.refl W'.heap.size W') (.cells #[.int .i64 (Qp.getD y Zc.none).lo, .int .i64 (Qp.getD y Zc.none).hi] 55)
        have HK2 := Lib.hid (fun a' W' h1 h2 h3 h4 => hK a' W' h1 h2 h3 h4)
        have J1 := Lib.hid i1
        have J2 := Lib.hid i2
        have J3 := Lib.hid i3
        have J4 := Lib.hid i4
        have J5 := Lib.hid i5
        have BN := Lib.hid bN
        clear hK i1 i2 i3 i4 i5 bN JB hF6 KB6 SEQ2 hrl6
        gi_wp2
        exact HK2.out _ _ (keepsFrom_below BN.out) (KeepB.below J1.out.ok BN.out) ⟨⟨⟨J1.out.below BN.out, own_later J2.out BN.out⟩, J3.out.trans (KeepB.below J1.out.ok BN.out)⟩, J4.out.trans (keepsFrom_below BN.out), below_on J5.out BN.out⟩ ⟨W'.heap.size, J1.out.fn.lt, Blk.new _ _ _, rfl⟩
      case body2 =>
        rintro l2 pre' y a'' W' hl2 _ ⟨⟨⟨i1, i2⟩, i3⟩, i4, i5⟩ ⟨By, hBy, hY, rfl⟩ hlt2
        obtain ⟨q1, q2, q3, q4, q5⟩ := HPP.out y
        have hfo := Tr.okZ_fold (T := T) (pre'.map fun k => (Qp.getD k Zc.none).zn) O HOB.out (fun z hz => by
          obtain ⟨k, -, rfl⟩ := List.mem_map.1 hz
          obtain ⟨-, t2, t3, -, -⟩ := HPP.out k
          exact ⟨t2, t3⟩)
        obtain ⟨Z, hZ⟩ : ∃ Z, (pre'.map fun k => (Qp.getD k Zc.none).zn).foldl (Tr.put T) O = Z := ⟨_, rfl⟩
        have hZn : ((pre' ++ [y]).map fun k => (Qp.getD k Zc.none).zn).foldl (Tr.put T) O = Tr.put T Z (Qp.getD y Zc.none).zn := by
          rw [List.map_append, List.foldl_append, hZ]
          rfl
        rw [hZ] at i1 hfo
        rw [List.length_map] at hfo
        obtain ⟨FX2, fd2, e2, hF⟩ := OneL.of_own i2
        injection e2 with e3 _ e4
        subst e3 e4
        obtain ⟨v, LZ, u1, u2, u3⟩ := i1.after
        obtain ⟨TX2, tc2, e5, hTL⟩ := OneL.of_own i1.row
        injection e5 with e6 _ e7
        subst e6 e7
        have hq5 := q5 W' (H5.out W' i5) hF
        have hLh : ∀ z ∈ LZ, 0 ≤ z.hi ∧ z.hi ≤ 255 := fun z hz => hfo.1 z.zn (by rw [← u3]; exact List.mem_map.2 ⟨z, hz, rfl⟩)
        have hLl : LZ.length ≤ 1000000 := by
          have e := congrArg List.length u3
          rw [List.length_map] at e
          have := hfo.2
          omega
        obtain ⟨q, hq⟩ : ∃ q, Qp.getD y Zc.none = q := ⟨_, rfl⟩
        rw [hq] at q1 q2 q3 q4 hq5 hY hZn ⊢
        have PUT := tput_any (g + 1) g w.heap.size v LZ TX q.X tc q.c T q.l q.lo q.hi W' u1 u2 i1.then_ hTL hq5 q4 i5.size (by have := HB5.out; omega) ⟨q1, q2⟩ hLh hLl
        rw [u3] at PUT
        have HPUT := Lib.hid PUT
        have cF : W'.cell? ⟨g + 1 + 1, 0, none⟩ = some (.func (.func 52) #[] #[.pointer (some ⟨g + 1, 0, none⟩), .pointer (some ⟨g, 0, none⟩)]) := i1.fn.cell (i := 0) rfl
        have y0 := hY.cell (i := 0) rfl
        have y1 := hY.cell (i := 1) rfl
        have J1 := Lib.hid i1
        have J2 := Lib.hid i2
        have J3 := Lib.hid i3
        have J4 := Lib.hid i4
        have J5 := Lib.hid i5
        have HZN2 := Lib.hid hZn
        have HU1 := Lib.hid u1
        have HU2 := Lib.hid u2
        clear PUT i1 i2 i3 i4 i5 u1 u2 u3 hTL hq5 hF hfo hZ hZn hLh hLl hq hY JB hF6 KB6 SEQ2 hrl6 hrl
        gi_wp2_with fail
        refine ⟨trivial, (CallsIn.inRound l2 (CallsIn.inRound l' (callsIn_wide.2 HPUT.out))).mono ?_⟩
        rintro e W3 hp3
        have JN := Lib.hid (J1.out.put HB5.out hp3)
        obtain ⟨u, v', L', rfl, -, -, -, kb, ko, bl⟩ := hp3
        have FIN := Lib.hid (show KeepsFrom w6.heap.size W' W3 ∧ KeepB (g + 1) W' W3 ∧ ((TkS w.heap.size w.heap.size g #[.slice S n.s.length cs, .slice E n.e.length ce, .slice Bl n.b.length cl, .slice V n.ws.length cv] TX tc T (((pre' ++ [y]).map fun k => (Qp.getD k Zc.none).zn).foldl (Tr.put T) O) W3 ∧ W3.ownsRow w.heap.size 53 2 (.slice FX fu.length fd) fu.length (stCells fu)) ∧ KeepB (g + 1) W W3) ∧ (KeepsFrom w7.heap.size W W3 ∧ Below w.heap.size w W3) from
          ⟨ko.from _, kb, ⟨⟨by rw [HZN2.out]; exact JN.out, own_keepB J2.out HU1.out HU2.out kb⟩, J3.out.trans kb⟩, J4.out.trans (ko.from _), J5.out.trans bl⟩)
        clear kb ko bl
        gi_wp2
        exact FIN.out
      case done2 =>
        rintro xs W' hxs ⟨⟨⟨i1, i2⟩, i3⟩, i4, i5⟩
        have hall : ((List.range Qp.length).map fun k => (Qp.getD k Zc.none).zn) = Qp.map Zc.zn := by
          have := congrArg (List.map Zc.zn) (range_all Qp)
          rw [List.map_map] at this
          exact this
        rw [hxs, hall, HPZ.out] at i1
        have FIN := Lib.hid (show KeepsFrom w7.heap.size W W' ∧ KeepB (g + 1) W W' ∧ TkS w.heap.size w.heap.size g #[.slice S n.s.length cs, .slice E n.e.length ce, .slice Bl n.b.length cl, .slice V n.ws.length cv] TX tc T (((pre ++ [x]).map fun k => (P.getD k Zc.none).zn).foldl (Tr.puts T n) []) W' ∧ Below w.heap.size w W' from ⟨i4, i3, by rw [HON.out]; exact i1, i5⟩)
        clear i1 i2 i3 i4 i5 hxs hall JB hF6 KB6 SEQ2 hrl6 hrl
        gi_wp2
        exact FIN.out
      case stop2 =>
        rintro cd pre' W' _ h
        exact h.elim
  case done =>
    rintro DD ys W hDD hys ⟨i1, i3⟩ hK
    have hall : ((List.range P.length).map fun k => (P.getD k Zc.none).zn) = P.map Zc.zn := by
      have := congrArg (List.map Zc.zn) (range_all P)
      rw [List.map_map] at this
      exact this
    have hzn2 : P.map Zc.zn = Tr.all (L.map Zc.zn) kn := HZN.out
    rw [hys, hall, hzn2] at i1
    have hR := HTR.out
    obtain ⟨v, aL, u1, u2, u3⟩ := i1.after
    obtain ⟨AV, ac, rfl, -, -, -, -⟩ := own_form u2.row
    have HAC := Lib.hid u1.cell
    have HTC := Lib.hid (show W.cell? ⟨g, 0, none⟩ = some (.slice TX T.length tc) from i1.then_.cell (i := 0) rfl)
    have HU2 := Lib.hid u2
    have HU3 := Lib.hid u3
    have HRW := Lib.hid i1.row
    have HK2 := Lib.hid hK
    have I3 := Lib.hid i3
    have hDl := (Array.getElem?_eq_some_iff.1 hK).1
    clear hall hzn2 hR i1 i3 u1 u2 u3 hys hK SEQ hok TS7
    gi_wp2_with fail
    refine wpIn_wide.2 ?_
    refine wp_region_all (by kernel_rfl) (by kernel_rfl)
      (fun v => { tmps := #[.slice A L.length c, .slice B kn.length cb, .agg #[.slice S n.s.length cs, .slice E n.e.length ce, .slice Bl n.b.length cl, .slice V n.ws.length cv], undef, undef, .pointer (some ⟨w.heap.size, 0, none⟩), v 2, v 3, v 4, .pointer (some ⟨g, 0, none⟩), .pointer (some ⟨g + 1, 0, none⟩), .pointer (some ⟨g + 1 + 1, 0, none⟩), undef, undef, undef, undef, undef, .bool false, .slice A L.length c, .bool true, .bool false, .bool false, .slice B kn.length cb, .bool true, .bool false, .bool false, .bool false, .agg #[.slice S n.s.length cs, .slice E n.e.length ce, .slice Bl n.b.length cl, .slice V n.ws.length cv], .bool true, .bool false, .bool false, .bool false, .agg #[.slice S n.s.length cs, .slice E n.e.length ce, .slice Bl n.b.length cl, .slice V n.ws.length cv], .slice B kn.length cb, .bool true, .bool false, .slice B kn.length cb, .pointer (some ⟨w.heap.size, 1, none⟩), .slice E n.e.length ce, .slice (some ⟨w4.heap.size, 0, none⟩) 2 2, .slice TX T.length tc, .func (.func 52) #[] #[.pointer (some ⟨g + 1, 0, none⟩), .pointer (some ⟨g, 0, none⟩)], .slice A L.length c, .slice B kn.length cb, .agg #[.int .i64 0, .int .i64 255], .func (.func 71) #[] #[.pointer (some ⟨bw, 0, none⟩), .pointer (some ⟨bz, 0, none⟩), .pointer (some ⟨br, 0, none⟩)], undef, undef, undef, undef, undef, undef, undef, undef, undef, undef, undef, undef, undef, undef, undef, undef, undef, undef, undef, v 0, v 1], defers := [{ target := .collected DD, args := #[] }] }) (fun i => match i with | 0 => undef | 1 => undef | 2 => .slice none 0 0 | 3 => .slice none 0 0 | 4 => .int .i64 0 | _ => undef)
      (fun i x wx => match i with
        | 0 => x = .slice AV aL.length ac
        | 1 => x = .slice TX T.length tc
        | 2 => x = .slice AV aL.length ac
        | 3 => x = .slice TX T.length tc
        | 4 => x = .int .i64 0
        | _ => True)
      (fun w1 w2 => Below w1.heap.size w1 w2) (fun h1 h2 => below_on h1 h2) (fun _ => Below.refl _ _) (Below.drew (Below.refl _ _)) ?stabE ?stepE ?doneE
    case stabE =>
      rintro i x w1 w2 h hb
      match i, h with
      | 0, h => exact h
      | 1, h => exact h
      | 2, h => exact h
      | 3, h => exact h
      | 4, h => exact h
      | i + 5, _ => trivial
    case stepE =>
      intro i hi v w' hb hd
      match i, hi with
      | 0, _ =>
        refine wpOp_oneK rfl (fun KK hKK => ?_)
        have HKK := Lib.hid hKK
        clear hKK hd
        have q0 := cell_later hb HAC.out
        go_wp2
        exact HKK.out _ _ ⟨_, (by simp [upd]; done), Below.refl _ _, rfl⟩
      | 1, _ =>
        refine wpOp_oneK rfl (fun KK hKK => ?_)
        have HKK := Lib.hid hKK
        clear hKK hd
        have q0 := cell_later hb HTC.out
        go_wp2
        exact HKK.out _ _ ⟨_, (by simp [upd]; done), Below.refl _ _, rfl⟩
      | 2, _ =>
        have h0 : v 0 = _ := hd 0 (List.elem_iff.1 (by kernel_rfl))
        refine wpOp_oneK rfl (fun KK hKK => ?_)
        have HKK := Lib.hid hKK
        clear hKK hd
        rw [h0]
        go_wp2
        exact HKK.out _ _ ⟨_, (by simp [upd, h0]; done), Below.refl _ _, rfl⟩
      | 3, _ =>
        have h1 : v 1 = _ := hd 1 (List.elem_iff.1 (by kernel_rfl))
        refine wpOp_oneK rfl (fun KK hKK => ?_)
        have HKK := Lib.hid hKK
        clear hKK hd
        rw [h1]
        go_wp2
        exact HKK.out _ _ ⟨_, (by simp [upd, h1]; done), Below.refl _ _, rfl⟩
      | 4, _ =>
        refine wpOp_oneK rfl (fun KK hKK => ?_)
        have HKK := Lib.hid hKK
        clear hKK hd
        go_wp2
        exact HKK.out _ _ ⟨_, (by simp [upd]; done), Below.refl _ _, rfl⟩
      | k + 5, hk => exact absurd hk (by simp)
    case doneE =>
      intro v w5 hb hf
      have h0 : v 0 = _ := hf 0 (by decide)
      have h1 : v 1 = _ := hf 1 (by decide)
      have h2 : v 2 = _ := hf 2 (by decide)
      have h3 : v 3 = _ := hf 3 (by decide)
      have h4 : v 4 = _ := hf 4 (by decide)
      clear hf
      rw [h0, h1, h2, h3, h4]
      have hK5 := (hb.block DD hDl).trans HK2.out
      have hb9 := below_on I3.out hb
      have hO9 : OwnZ (w5.putObj DD (.deferred none)) w.heap.size (.slice AV aL.length ac) aL := ⟨ownsRow_putObj (own_later HU2.out.row hb) _ hK5 rfl, fun z hz => ownsRow_putObj (own_later (HU2.out.each z hz) hb) _ hK5 rfl⟩
      obtain ⟨A9, c9, e9, hZ9⟩ := hO9.one
      injection e9 with e1 _ e3
      subst e1 e3
      obtain ⟨T9, d9, e9, hT9⟩ := OneL.of_own (ownsRow_putObj (own_later HRW.out hb) (.deferred none) hK5 rfl)
      injection e9 with e1 _ e3
      subst e1 e3
      have FIN := Lib.hid (show GivesT (Tr.tkR (L.map Zc.zn) kn n) w (.returned (.tuple #[.slice AV aL.length ac, .slice TX T.length tc, .int .i64 0])) (w5.putObj DD (.deferred none)) from by
        rw [HTR.out]
        exact ⟨AV, ac, aL, TX, tc, rfl, hZ9, HU3.out, hT9, hb9.trans (belowK_b (w := w) (Nat.le_refl _) w5 DD _ (.deferred none) (by omega) hK5 rfl rfl)⟩)
      have HK5 := Lib.hid hK5
      clear hb hb9 hO9 hZ9 hT9 hK5 h0 h1 h2 h3 h4 hDl
      gi_wp2
      refine ⟨by simp, .inl ⟨_, _, rfl, run_takeDeferred HK5.out, ?_⟩⟩
      exact ⟨_, by simp [results, Try.f23, go_sem], FIN.out⟩
  case stop =>
    rintro DD cd pre W _ _ h _
    exact h.elim
end Go.Proofs.Ytcfkpjbakccgiaa
namespace Go.Proofs.Ytcfkpjbakccgiaa
open Go.RowKit

theorem trustSpec : TrustSpec where
  formed := tformed_any
  blurred := tblurred_any
  reach := fun A B c cb L kn o w h hb => treach_any A B c cb L kn o w h hb
  since := tsince_any
  take := ttake_any
end Go.Proofs.Ytcfkpjbakccgiaa
