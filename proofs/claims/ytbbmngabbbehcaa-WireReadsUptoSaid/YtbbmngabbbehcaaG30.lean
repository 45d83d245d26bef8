/-
  The laws of wire: what stands in all of them: alive, behind, read.
  For any law (a function that returns one bool, names no variable, and is to return true with its arguments as they were): whatever its parameters are, its row's last step follows from two facts: it returned true, and all memory that was there before the call is as it was.
  A slice argument, opened: whatever its elements are, if each element's cells are known by a way to write it out, the slice reads as a list of such elements. With it slices of stamps.
  A slice of slices of stamps as an argument, opened.
-/
import Derived.Test.YtbbmngabbbehcaaG28
import Derived.Test.YtbbmngabbbehcaaG29
import Derived.Test.YtbbmngabbbehcaaG14
import Derived.Test.YtbbmngabbbehcaaG03
import Derived.ProofKit
import Derived.Below
import Derived.WideKeyArgs
import Derived.OpenShut
import Derived.Lib.SmallJoins
import Derived.Test.YtbbmngabbbehcaaG01
import Derived.Deep.Slices
import Derived.SizedLaws
namespace Go.Proofs.Ytbbmngabbbehcaa
open Go.RowKit

/-- An append that is guarded, where the guard let it through. -/
theorem wpList_append_on {P : Program} (w : World) {ops : Array Oper} {rest : List Oper} {o : Oper} {a : Act} {Q : Exit → Act → World → Prop} (hgd : Region.wanted o (yielded ops a.tmps) = true) (s x : Operand) (t : TypeId)
    (ho : o.op = .call { callee := .builtin .append, args := #[s, x], argTypes := #[t, t] })
    (base : Nat) (e : TypeId) (i : TypeInfo) (z : Value) (size bytes : Nat) (ht : P.underlying t = some (.slice e)) (hi : P.info? e = some i) (hz : i.zero = some z)
    (hsize : i.size = size) (hby : i.bytes = bytes) (hzs : z.cells.size = size) (hsz : 0 < size)
    (v : Value) (n : Nat) (xs : List Value) (hs : a.eval s = v) (hown : w.ownsRow base e size v n xs)
    (A : Option Addr) (m c : Nat) (hA : A = none → m = 0 ∧ c = 0) (news : List Value) (hx : a.eval x = .slice A m c) (hl : news.length = m * size) (hr : Lies w A news) (h1 : ∀ u ∈ news, u.oneCell' = true)
    (h63 : n + m ≤ maxLen) (hbytes : (n + m) * bytes ≤ 140737488355328) (hbase : base ≤ w.heap.size)
    (h : ∀ v' w', w'.ownsRow base e size v' (n + m) (xs ++ news) → w.grownBy w' v.ownBlock → (v'.ownBlock = v.ownBlock ∨ v'.ownBlock = some w.heap.size) → wpList P ops Q rest (a.put o.dst v') w') :
    wpList P ops Q (o :: rest) a w := by
  refine wpList_step fun K hK => ?_
  obtain ⟨v', w', hrun, h2, h3, h4⟩ := run_append_lies (P := P) w base t o.type e i z size bytes ht hi hz hsize hby hzs hsz v n xs hown A m c hA news hl hr h1 h63 hbytes hbase
  rw [hgd]
  simp only [if_true]
  unfold Oper.wp execOp
  simp only [ho, resolve, invoke, builtin, Sem.run_bind, Sem.run_pure, Result.andThen_ok, List.map_toArray, List.map_cons, List.map_nil, hs, hx, hrun]
  exact hK _ _ (h v' w' h2 h3 h4)

def aliveM : Ms := ⟨4, 1, 2, 0, 0, [], [], [], ⟨7, 0, 0, []⟩⟩
theorem alive_ints : Wi.IntsM aliveM := ⟨by decide, by decide, (fun _ h => by cases h), (fun _ h => by cases h), by decide⟩
theorem alive_fmd : Wi.dmf aliveM = true := by decide
theorem alive_bytes : Wi.emsg aliveM = [4, 1, 2, 7] := by decide
theorem alive_reads : Wi.such Wi.dmf (Wi.pmsgr [4, 1, 2, 7] 0) = some (aliveM, 4) := by
  have h := Wi.fw_msg alive_ints alive_fmd [4, 1, 2, 7] 0 [] (by rw [alive_bytes]; rfl)
  rw [h, alive_bytes]
  unfold Wi.such
  simp only [Option.bind_some, alive_fmd, if_true]
  rfl
theorem alive_at (w : World) : MsAt w none none none none 0 0 0 0 aliveM := by
  have h := (MsOwn.zero w 0).at
  exact ⟨h.hi, h.hv, h.hn, h.hb⟩

set_option maxRecDepth 100000 in
set_option maxHeartbeats 1600000 in
theorem walive_any (w : World) : Calls Try.prog 10 #[] w (Says (.bool true) w) := by
  have n1 := denc_any none none none none 0 0 0 0 aliveM w (alive_at w) (fun h => Wi.fit_msg alive_ints h) (by intro _; rw [alive_bytes]; decide)
  rw [alive_fmd, alive_bytes] at n1
  have N1 := Lib.hid (show Calls Try.prog 37 #[.agg #[.int .i64 4, .int .i64 1, .int .i64 2, .int .i64 0, .int .i64 0, .slice none 0 0, .slice none 0 0, .slice none 0 0, .int .i64 7, .int .i64 0, .int .i64 0, .slice none 0 0]] w (GivesB2 [4, 1, 2, 7] 0 w) from n1)
  clear n1
  have hby : ∀ x ∈ ([4, 1, 2, 7] : List Int), isB x := by
    intro x hx
    simp at hx
    unfold isB
    omega
  have four : ∀ wx : World, OneB (wx.alloc (.cells #[.int .u8 4, .int .u8 1, .int .u8 2, .int .u8 7] 5)) (some ⟨wx.heap.size, 0, none⟩) 4 [4, 1, 2, 7] := fun wx =>
    ⟨Nat.le_refl _, by unfold maxLen; omega, (fun h => by cases h), (fun _ => ⟨wx.heap.size, 0, rfl, fun j u hu => by
      rw [Nat.zero_add]
      exact (Blk.new wx 5 #[.int .u8 4, .int .u8 1, .int .u8 2, .int .u8 7]).cell (by simpa [bCells] using hu)⟩), hby⟩
  have N2 := Lib.hid (fun wx : World => (show Calls Try.prog 43 #[.slice (some ⟨wx.heap.size, 0, none⟩) 4 4] (wx.alloc (.cells #[.int .u8 4, .int .u8 1, .int .u8 2, .int .u8 7] 5)) (DecM (fun a => Wi.such Wi.dmf (Wi.pmsgr [4, 1, 2, 7] a)) 4 (wx.alloc (.cells #[.int .u8 4, .int .u8 1, .int .u8 2, .int .u8 7] 5))) from
    ddecode_any (some ⟨wx.heap.size, 0, none⟩) 4 [4, 1, 2, 7] _ (by simp) (four wx) (Wi.pmsgr_le hby)))
  have HF := Lib.hid four
  have HY := Lib.hid hby
  clear four hby
  go_enter Try.func10, Try.ntmps10
  go_wp2_with fail
  refine N1.out.mono ?_
  rintro e w1 ⟨v, rfl, ho, b1⟩
  obtain ⟨A, c, rfl, hA⟩ := OneB.of_own ho HY.out
  go_wp2_with fail
  refine (N2.out w1).mono ?_
  rintro e w2 ⟨I, V, N, D, ci, cv, cn, d, x, er, rfl, -, -, b2, hp⟩
  obtain ⟨rfl, rfl⟩ : x = aliveM ∧ er = 0 := by
    rcases hp with ⟨h1, h2⟩ | ⟨h1, -, -⟩
    · have h3 : some (x, 4) = some (aliveM, 4) := h1.symm.trans alive_reads
      cases h3
      exact ⟨rfl, h2⟩
    · exact absurd alive_reads (h1 aliveM)
  clear hp
  have bb2 : Below w.heap.size w w2 := below_on b1 (below_on (below_new (Below.refl _ _) (.cells #[.int .u8 4, .int .u8 1, .int .u8 2, .int .u8 7] 5)) b2)
  have hA2 := (hA.later (below_new (Below.refl _ _) (.cells #[.int .u8 4, .int .u8 1, .int .u8 2, .int .u8 7] 5))).later b2
  unfold msCells aliveM
  dsimp only
  have kz := Blk.new w2 74 #[.int .i64 0, .int .i64 0, .int .i64 0, .int .i64 0, .int .i64 0, .slice none 0 0, .slice none 0 0, .slice none 0 0, .int .i64 0, .int .i64 0, .int .i64 0, .slice none 0 0]
  have KZ := Lib.hid kz
  have kz3 : Blk ((w2.alloc (.cells #[.int .i64 0, .int .i64 0, .int .i64 0, .int .i64 0, .int .i64 0, .slice none 0 0, .slice none 0 0, .slice none 0 0, .int .i64 0, .int .i64 0, .int .i64 0, .slice none 0 0] 74)).setRow w2.heap.size #[.int .i64 4, .int .i64 1, .int .i64 2, .int .i64 0, .int .i64 0, .slice I 0 ci, .slice V 0 cv, .slice N 0 cn, .int .i64 7, .int .i64 0, .int .i64 0, .slice D 0 d]) w2.heap.size 74 #[.int .i64 4, .int .i64 1, .int .i64 2, .int .i64 0, .int .i64 0, .slice I 0 ci, .slice V 0 cv, .slice N 0 cn, .int .i64 7, .int .i64 0, .int .i64 0, .slice D 0 d] := kz.row _
  have bz3 : Below w2.heap.size w2 ((w2.alloc (.cells #[.int .i64 0, .int .i64 0, .int .i64 0, .int .i64 0, .int .i64 0, .slice none 0 0, .slice none 0 0, .slice none 0 0, .int .i64 0, .int .i64 0, .int .i64 0, .slice none 0 0] 74)).setRow w2.heap.size #[.int .i64 4, .int .i64 1, .int .i64 2, .int .i64 0, .int .i64 0, .slice I 0 ci, .slice V 0 cv, .slice N 0 cn, .int .i64 7, .int .i64 0, .int .i64 0, .slice D 0 d]) := (Only.row _ w2.heap.size _).to_below (by simp) (Nat.le_refl _) |> fun h => (below_new (Below.refl _ _) _).trans h
  obtain ⟨W3, hW3⟩ : ∃ W3, (w2.alloc (.cells #[.int .i64 0, .int .i64 0, .int .i64 0, .int .i64 0, .int .i64 0, .slice none 0 0, .slice none 0 0, .slice none 0 0, .int .i64 0, .int .i64 0, .int .i64 0, .slice none 0 0] 74)).setRow w2.heap.size #[.int .i64 4, .int .i64 1, .int .i64 2, .int .i64 0, .int .i64 0, .slice I 0 ci, .slice V 0 cv, .slice N 0 cn, .int .i64 7, .int .i64 0, .int .i64 0, .slice D 0 d] = W3 := ⟨_, rfl⟩
  rw [hW3] at kz3 bz3
  have HW3 := Lib.hid hW3; have HA2 := Lib.hid hA2; have K3 := Lib.hid kz3; have B3 := Lib.hid bz3; have BB2 := Lib.hid bb2
  clear kz hW3 kz3 bz3 hA2 bb2 b2 b1 hA ho N1 N2
  go_upto_region 3 with (refine wpList_store_row rfl 74 _ _ rfl w2.heap.size #[.int .i64 4, .int .i64 1, .int .i64 2, .int .i64 0, .int .i64 0, .slice I 0 ci, .slice V 0 cv, .slice N 0 cn, .int .i64 7, .int .i64 0, .int .i64 0, .slice D 0 d] rfl rfl 74 #[.int .i64 0, .int .i64 0, .int .i64 0, .int .i64 0, .int .i64 0, .slice none 0 0, .slice none 0 0, .slice none 0 0, .int .i64 0, .int .i64 0, .int .i64 0, .slice none 0 0] KZ.out infoMs12 rfl (by simp [Value.oneCell']) ?_)
  rw [HW3.out]
  have bb3 := below_on BB2.out B3.out
  have b4 := below_new (Below.refl W3.heap.size W3) (.cells #[.int .u8 4, .int .u8 1, .int .u8 2, .int .u8 7] 5)
  have hs := bsame_any A (some ⟨W3.heap.size, 0, none⟩) c 4 [4, 1, 2, 7] [4, 1, 2, 7] _ ((HA2.out.later B3.out).later b4) (HF.out W3)
  rw [decide_eq_true rfl] at hs
  have HS := Lib.hid hs
  have HB3 := Lib.hid bb3; have HB4 := Lib.hid b4
  clear hs bb3 b4
  go_wp2_with fail
  refine HS.out.mono ?_
  rintro e w4 ⟨rfl, b5⟩
  have k4 := K3.out.later (below_on HB4.out b5)
  have c8 := k4.cell (i := 8) rfl
  clear k4
  go_wp2
  go_ret
  exact ⟨rfl, below_on HB3.out (below_on HB4.out b5)⟩

theorem ssame_self {A B : Option Addr} {c d : Nat} {l : List (Int × Int)} {w : World} (h1 : OneL w A c l) (h2 : OneL w B d l) :
    Calls Try.prog 24 #[.slice A l.length c, .slice B l.length d] w (Says (.bool true) w) := by
  have h := ssame_any A B c d l l w h1.len h1.stamps h2.stamps
  rw [decide_eq_true rfl] at h
  exact h

set_option maxRecDepth 100000 in
set_option maxHeartbeats 1600000 in
/-- What was laid behind bytes is what is said. -/
theorem wbehind_any (X B D : Option Addr) (cx cb d : Nat) (x b e : List Int) (f : Bool) (er : Int) (w : World) (hl : b.length + e.length ≤ 140737488355328) (hx : OneB w X cx x) (hb : OneB w B cb b) (he : OneB w D d e) (h : x = (if f then b ++ e else [])) (hr : er = if f then 0 else 1) :
    Calls Try.prog 16 #[.slice X x.length cx, .slice B b.length cb, .slice D e.length d, .int .i64 er, .bool f] w (Says (.bool true) w) := by
  obtain ⟨i0, hi, hz0, hz1, hz2⟩ := info_parts infoBy
  cases f with
  | false =>
    simp at h hr
    subst h hr
    clear hx hb he
    go_enter Try.func16, Try.ntmps16
    go_wp2
    go_ret
    exact ⟨rfl, Below.refl _ _⟩
  | true =>
    simp at h hr
    subst hr
    have N1 := Lib.hid (bcopy_any B cb b w (by omega) hb)
    have HX := Lib.hid hx
    have HB := Lib.hid hb
    have HE := Lib.hid he
    have HEQ := Lib.hid h
    clear hx hb he h
    go_enter Try.func16, Try.ntmps16
    go_wp2_with fail
    refine N1.out.mono ?_
    rintro e1 w1 ⟨v, rfl, ho, b1⟩
    have HA := Lib.hid HE.out.noA
    have hL := HE.out.lies.later b1
    have hsz := b1.size
    go_wp2_with (at_builtin; (refine wpList_append_on _ rfl _ _ 23 rfl w.heap.size 5 i0 (.int .u8 0) 1 1 Try.underlying23 hi hz0 hz1 hz2 rfl (by decide) _ b.length (bCells b) rfl ho D e.length d HA.out (bCells e) rfl (by rw [bCells_length, Nat.mul_one]) hL (bCells_one e) ?c3 ?c4 ?c5 ?_))
    case c3 => unfold maxLen; omega
    case c4 => omega
    case c5 => omega
    intro v' w2 hown1 hg1 _
    have hb2 : Below w.heap.size w w2 := b1.grown hg1 hsz (fun k' hk' => own_ge ho _ hk')
    rw [← bCells_append, show b.length + e.length = (b ++ e).length from by simp] at hown1
    obtain ⟨Y, cy, rfl, hY⟩ := OneB.of_own hown1 (fun y hy => (List.mem_append.1 hy).elim (HB.out.byte y) (HE.out.byte y))
    have hs := bsame_any X Y cx cy x (b ++ e) w2 (HX.out.later hb2) hY
    rw [decide_eq_true HEQ.out] at hs
    have HS := Lib.hid (show Calls Try.prog 39 #[.slice X x.length cx, .slice Y (b.length + e.length) cy] w2 (fun e w' => e = .returned (.bool true) ∧ Below w2.heap.size w2 w') from by rwa [List.length_append] at hs)
    clear hs hY hown1 hg1 ho
    go_wp2_with fail
    refine HS.out.mono ?_
    rintro e2 w3 ⟨rfl, b3⟩
    go_wp2
    go_ret
    exact ⟨rfl, below_on hb2 b3⟩

set_option maxRecDepth 100000 in
set_option maxHeartbeats 1600000 in
/-- How many bytes were read, and the error. -/
theorem wread_any (g : Nat) (A : Option Addr) (c : Nat) (l : List Int) (s : Option Nat) (k er : Int) (w : World) (h : RdAt w g A c l s) (hk : (∃ a : Nat, s = some a ∧ k = (a : Int) ∧ er = 0) ∨ (s = none ∧ k = 0 ∧ er = 4)) :
    Calls Try.prog 17 #[.pointer (some ⟨g, 0, none⟩), .int .i64 k, .int .i64 er] w (Says (.bool true) w) := by
  obtain ⟨a, bd, hB, -, ha, hs⟩ := h
  have c1 := hB.cell (i := 1) rfl
  have c2 := hB.cell (i := 2) rfl
  clear hB
  cases bd with
  | true =>
    simp at hs
    obtain ⟨rfl, rfl⟩ : k = 0 ∧ er = 4 := by
      rcases hk with ⟨a', h1, -⟩ | ⟨-, h2, h3⟩
      · rw [hs] at h1
        cases h1
      · exact ⟨h2, h3⟩
    clear hk hs
    go_enter Try.func17, Try.ntmps17
    go_wp2
    go_ret
    exact ⟨rfl, Below.refl _ _⟩
  | false =>
    simp at hs
    obtain ⟨rfl, rfl⟩ : k = (a : Int) ∧ er = 0 := by
      rcases hk with ⟨a', h1, h2, h3⟩ | ⟨h1, -, -⟩
      · rw [hs] at h1
        cases h1
        exact ⟨h2, h3⟩
      · rw [hs] at h1
        cases h1
    clear hk hs
    have hd : decide ((a : Int) = (a : Int)) = true := decide_eq_true rfl
    go_enter Try.func17, Try.ntmps17
    go_wp2
    go_ret
    exact ⟨by first | rfl | simp, Below.refl _ _⟩
end Go.Proofs.Ytbbmngabbbehcaa
namespace Go.Proofs.Ytbbmngabbbehcaa
open Go.ChangeShapes Go.WideShapes Go.RowKit

section
variable {H : Type} {enc : TypeId × Value → H} {P : Program}

/-- Arguments that were read before the call read alike behind it, where all old memory is as it was. -/
theorem args_stay (hl : laidOutB P = true) {W W' : World} {sp : Nat → Bool} (hb : Below W.heap.size W W') :
    ∀ {ts : List TypeId} {vs : List Value} {ds : List (DataW H)} {ps : List MemPlace}, (∀ t ∈ ts, P.readableRec t = true ∧ t < P.types.size) →
      DataW.TrodAll enc P W 0 (fun _ => true) true ts vs ds ps → (∀ x ∈ ps, x.block < W.heap.size) → (∀ x ∈ ps, sp x.block = true) →
      DataW.TrodAll enc P W' 0 sp true ts vs ds ps
  | [], _, _, _, _, h, _, _ => by
    obtain ⟨rfl, rfl, rfl⟩ := trodAll_nil h
    exact trodAll_mk0
  | t :: ts, _, _, _, ht, h, hlt, hsp => by
    obtain ⟨v, vs1, d, ds1, a, b, rfl, rfl, rfl, h1, h2⟩ := trodAll_cons h
    have htt := ht t (List.mem_cons_self ..)
    refine ⟨a, b, ?_, ?_, rfl⟩
    · exact WideElems.Trod_stays hl htt.1 htt.2 h1 (fun x hx => hb.same (hlt x (List.mem_append_left _ hx))) (fun x hx => hsp x (List.mem_append_left _ hx))
    · exact args_stay hl hb (fun t' h' => ht t' (List.mem_cons_of_mem _ h')) h2 (fun x hx => hlt x (List.mem_append_right _ hx)) (fun x hx => hsp x (List.mem_append_right _ hx))

/-- The last step of a law's row. -/
theorem law_post (hl : laidOutB P = true) {f : Func} {s : ChangeSpec} {W W' : World} {args : Array Value} {ds gs : List (DataW H)} {before : List MemPlace} {tb : TypeId}
    (hW : DataW.Whole enc P f.params.toList s.vars false W args.toList ds gs before)
    (hvars : s.vars = []) (hfn : s.fn H (ds ++ gs) = { results := [.lit (.bool true)], args := ds })
    (hres : f.resultTypes = #[tb]) (htb : P.underlying tb = some .bool)
    (hts : ∀ t ∈ f.params.toList, P.readableRec t = true ∧ t < P.types.size) (hb : Below W.heap.size W W') :
    s.post enc P f false true false false W args (.bool true) W' := by
  have hlt : ∀ x ∈ before, x.block < W.heap.size := fun x hx => hW.lt x hx
  have hW0 := hW
  obtain ⟨p, q, hA, hV, hpq, _, _⟩ := hW0
  rw [hvars] at hV
  obtain ⟨rfl, rfl⟩ := trodVars_none hV
  obtain rfl : before = p := by rw [hpq, List.append_nil]
  refine ⟨ds, [], before, [], before, [], hW, ?_, ?_, ?_, ?_, fun h => by cases h⟩
  · rw [hfn, hres]
    exact trodAll_mk1 (shut_bool htb _)
  · rw [hfn]
    exact args_stay hl hb hts hA hlt (fun x hx => by simpa using hlt x hx)
  · rw [hvars, hfn]
    rfl
  · exact World.keptBut_mono (fun x hx => hx.elim) (hb.frame (fun _ => False))

/-- The cells of a stamp: two whole numbers, each within an int. -/
theorem stamp_cells {w : World} {base : Nat} {spare : Nat → Bool} {held : Bool} {fuel : Nat} {t ti : TypeId} {f0 f1 : Field} {cs : List Value} {x : DataW H × List MemPlace}
    (hs : P.underlying t = some (.struct #[f0, f1])) (hone : Deep.oneCellFields P #[f0, f1] = true) (hC : P.cellsOf t = 2) (hi0 : f0.type = ti) (hi1 : f1.type = ti) (hi : P.underlying ti = some (.int .i64))
    (h : DataW.trod enc P w base spare held fuel t cs = some x) :
    ∃ c n : Int, cs = [.int .i64 c, .int .i64 n] ∧ x.2 = [] ∧ -9223372036854775808 ≤ c ∧ c ≤ 9223372036854775807 ∧ -9223372036854775808 ≤ n ∧ n ≤ 9223372036854775807 := by
  obtain ⟨y0, y1, m, rfl, hl, hy0, hy1⟩ := trod_struct2 hs h
  obtain ⟨o0, k0⟩ := Deep.hone_of hone 0 f0 rfl
  obtain ⟨o1, k1⟩ := Deep.hone_of hone 1 f1 rfl
  rw [hC] at hl
  obtain ⟨a0, a1, rfl⟩ : ∃ a0 a1, cs = [a0, a1] := by
    match cs, hl with
    | [a0, a1], _ => exact ⟨a0, a1, rfl⟩
  rw [o0, k0, hi0] at hy0
  rw [o1, k1, hi1] at hy1
  obtain ⟨a, e0, rfl, wa⟩ := DataW.trod_int hi hy0
  obtain ⟨b, e1, rfl, wb⟩ := DataW.trod_int hi hy1
  simp at e0 e1
  subst e0 e1
  exact ⟨a, b, rfl, rfl, (bounds_i64 wa).1, (bounds_i64 wa).2, (bounds_i64 wb).1, (bounds_i64 wb).2⟩

/-- A stamp by value: two whole numbers, each within an int. -/
theorem open_stamp {w : World} {base b0 : Nat} {spare : Nat → Bool} {held : Bool} {r : Reach} {t ti : TypeId} {f0 f1 : Field} {v : Value} {d : DataW H} {p : List MemPlace}
    (hs : P.underlying t = some (.struct #[f0, f1])) (hone : Deep.oneCellFields P #[f0, f1] = true) (hC : P.cellsOf t = 2) (hi0 : f0.type = ti) (hi1 : f1.type = ti) (hi : P.underlying ti = some (.int .i64))
    (hv : Value.okWide P w r b0 t v) (h : DataW.Trod enc P w base spare held t v d p) :
    ∃ c n : Int, v = .agg #[.int .i64 c, .int .i64 n] ∧ -9223372036854775808 ≤ c ∧ c ≤ 9223372036854775807 ∧ -9223372036854775808 ≤ n ∧ n ≤ 9223372036854775807 := by
  obtain ⟨cs, rfl, _⟩ := okWide_struct hs hv
  obtain ⟨fuel, hf⟩ := h
  obtain ⟨c, n, hcs, _, hb⟩ := stamp_cells hs hone hC hi0 hi1 hi hf
  refine ⟨c, n, ?_, hb⟩
  have : cs = #[.int .i64 c, .int .i64 n] := by
    apply Array.toList_inj.1
    simpa [Value.cells] using hcs
  rw [this]

/-- Three stamps in an array, by value. -/
theorem open_stamps3 {w : World} {base b0 : Nat} {spare : Nat → Bool} {held : Bool} {r : Reach} {ta t ti : TypeId} {f0 f1 : Field} {v : Value} {d : DataW H} {p : List MemPlace}
    (ha : P.underlying ta = some (.array 3 t)) (hA : P.cellsOf ta = 6)
    (hs : P.underlying t = some (.struct #[f0, f1])) (hone : Deep.oneCellFields P #[f0, f1] = true) (hC : P.cellsOf t = 2) (hi0 : f0.type = ti) (hi1 : f1.type = ti) (hi : P.underlying ti = some (.int .i64))
    (hv : Value.okWide P w r b0 ta v) (h : DataW.Trod enc P w base spare held ta v d p) :
    ∃ c0 n0 c1 n1 c2 n2 : Int, v = .agg #[.int .i64 c0, .int .i64 n0, .int .i64 c1, .int .i64 n1, .int .i64 c2, .int .i64 n2] ∧ c0 ≤ 9223372036854775807 := by
  simp only [Value.okWide, ha] at hv
  obtain ⟨cs, rfl, _⟩ := hv
  obtain ⟨fuel, hf⟩ := h
  obtain ⟨xs, m, _, _, hl, hxl, hx⟩ := DataW.trod_array ha hf
  have hcs : (Value.agg cs).cells.toList = cs.toList := rfl
  rw [hcs] at hl hx
  rw [hA] at hl
  rw [hC] at hx
  obtain ⟨l0, l1, l2, l3, l4, l5, hcl⟩ : ∃ l0 l1 l2 l3 l4 l5, cs.toList = [l0, l1, l2, l3, l4, l5] := by
    match cs.toList, hl with
    | [l0, l1, l2, l3, l4, l5], _ => exact ⟨l0, l1, l2, l3, l4, l5, rfl⟩
  rw [hcl] at hx
  obtain ⟨x0, x1, x2, rfl⟩ : ∃ x0 x1 x2, xs = [x0, x1, x2] := by
    match xs, hxl with
    | [x0, x1, x2], _ => exact ⟨x0, x1, x2, rfl⟩
  have e0 := hx 0 (by omega)
  have e1 := hx 1 (by omega)
  have e2 := hx 2 (by omega)
  simp at e0 e1 e2
  obtain ⟨c0, n0, h0, _, _, b0, _, _⟩ := stamp_cells hs hone hC hi0 hi1 hi e0
  obtain ⟨c1, n1, h1, _⟩ := stamp_cells hs hone hC hi0 hi1 hi e1
  obtain ⟨c2, n2, h2, _⟩ := stamp_cells hs hone hC hi0 hi1 hi e2
  simp at h0 h1 h2
  obtain ⟨rfl, rfl⟩ := h0
  obtain ⟨rfl, rfl⟩ := h1
  obtain ⟨rfl, rfl⟩ := h2
  refine ⟨c0, n0, c1, n1, c2, n2, ?_, b0⟩
  rw [← hcl]
end

end Go.Proofs.Ytbbmngabbbehcaa
namespace Go.Proofs.Ytbbmngabbbehcaa
open Go.ChangeShapes Go.WideShapes Go.RowKit Go.Deep

theorem pick {α : Type} (z : α) {n : Nat} {p : Nat → α → Prop} (h : ∀ i, i < n → ∃ s, p i s) : ∃ f : Nat → α, ∀ i, i < n → p i (f i) := by
  refine ⟨fun i => if hi : i < n then Classical.choose (h i hi) else z, fun i hi => ?_⟩
  simp only [hi, dite_true]
  exact Classical.choose_spec (h i hi)

theorem flat_get {α : Type} {size : Nat} (f : α → List Value) (hf : ∀ a, (f a).length = size) : ∀ (l : List α) (j : Nat) (u : Value), (l.flatMap f)[j]? = some u →
    ∃ i r a, l[i]? = some a ∧ r < size ∧ j = i * size + r ∧ (f a)[r]? = some u
  | [], j, u, h => by simp at h
  | a :: l, j, u, h => by
    rw [List.flatMap_cons] at h
    by_cases hj : j < size
    · rw [List.getElem?_append_left (by rw [hf]; exact hj)] at h
      exact ⟨0, j, a, rfl, hj, by omega, h⟩
    · rw [List.getElem?_append_right (by rw [hf]; omega), hf] at h
      obtain ⟨i, r, b, h1, h2, h3, h4⟩ := flat_get f hf l (j - size) u h
      refine ⟨i + 1, r, b, by simpa using h1, h2, ?_, h4⟩
      rw [Nat.add_mul]
      omega

section
variable {H : Type} {enc : TypeId × Value → H} {P : Program} {w : World}

/-- A slice whose elements' cells are known by 'f': it reads as a list. -/
theorem open_list {α : Type} (z : α) (f : α → List Value) (good : α → Prop) {size : Nat} (hf : ∀ a, (f a).length = size) {r : Reach} {b0 : Nat} {t e : TypeId} {v : Value} {d : DataW H} {p : List MemPlace}
    (ht : P.underlying t = some (.slice e)) (hC : P.cellsOf e = size) (hsz : 0 < size)
    (helem : ∀ (fuel : Nat) (cs : List Value) (x : DataW H × List MemPlace), DataW.trod enc P w 0 (fun _ => true) true fuel e cs = some x → ∃ a, cs = f a ∧ good a)
    (hv : Value.okWide P w r b0 t v) (h : DataW.Trod enc P w 0 (fun _ => true) true t v d p) :
    ∃ (A : Option Addr) (cap : Nat) (l : List α), v = .slice A l.length cap ∧ l.length ≤ cap ∧ cap ≤ maxLen ∧ (A = none → l.length = 0 ∧ cap = 0) ∧ Lies w A (l.flatMap f) ∧ (∀ a ∈ l, good a) ∧
      ((d = .nil ∧ l.length = 0 ∧ cap = 0) ∨ ∃ elems spare, d = .slice elems spare ∧ elems.length = l.length ∧ elems.length + spare.length = cap) := by
  obtain ⟨a0, len0, cap0, rfl⟩ := okWide_slice ht hv
  obtain ⟨fuel, hfu⟩ := h
  rcases open_slice ht hfu with ⟨hcs, hx⟩ | ⟨a, len, cap, m, n, D, Pl, hcs, _, hl, hm, hmm, hx, hi⟩
  · simp [Value.cells] at hcs hx
    obtain ⟨rfl, rfl, rfl⟩ := hcs
    exact ⟨none, 0, [], rfl, Nat.le_refl _, Nat.zero_le _, fun _ => ⟨rfl, rfl⟩, Lies.nil, by simp, .inl ⟨hx.1, rfl, rfl⟩⟩
  · simp [Value.cells] at hcs hx hmm
    obtain ⟨rfl, rfl, rfl⟩ := hcs
    subst hmm
    obtain ⟨g, hg⟩ := pick (n := len0) (p := fun i s => good s ∧ ∀ j, j < size → w.cell? (a.add (i * size + j)) = (f s)[j]?) z (fun i hi' => by
      obtain ⟨cs', hc, ht'⟩ := hi i (by omega)
      rw [hC] at hc
      obtain ⟨s, rfl, hs⟩ := helem _ _ _ ht'
      obtain ⟨_, _, hcell⟩ := World.cells?_some hc
      refine ⟨s, hs, fun j hj => ?_⟩
      rw [← hcell j hj, Go.Deep.add_add])
    refine ⟨some a, m, (List.range len0).map g, by simp, by simpa using hl, hm, (fun h => by cases h), (fun hne => ?_), ?_, .inr ⟨_, _, hx.1, by simp, by simp; omega⟩⟩
    · have hpos : 0 < len0 := by
        rcases Nat.eq_zero_or_pos len0 with h0 | h0
        · subst h0; simp at hne
        · exact h0
      obtain ⟨b, off, spot⟩ := a
      have h00 := (hg 0 hpos).2 0 hsz
      have hspot : spot = none := by
        have hlen := hf (g 0)
        rw [List.getElem?_eq_getElem (by omega)] at h00
        simpa [Addr.add] using World.cell?_spot h00
      subst hspot
      refine ⟨b, off, rfl, fun j u hu => ?_⟩
      obtain ⟨i, r, s, h1, h2, h3, h4⟩ := flat_get f hf _ j u hu
      have hil : i < len0 := by
        have := (List.getElem?_eq_some_iff.1 h1).1
        simpa using this
      simp [hil] at h1
      subst h1
      rw [← Go.WideShapes.add_plain, h3, (hg i hil).2 r h2]
      exact h4
    · intro s hs
      simp at hs
      obtain ⟨i, hil, rfl⟩ := hs
      exact (hg i hil).1

def stCell (s : Int × Int) : List Value := [.int .i64 s.1, .int .i64 s.2]
theorem stCells_flat (l : List (Int × Int)) : l.flatMap stCell = stCells l := by
  induction l with
  | nil => rfl
  | cons s r ih => simp [stCells, stCell, ih]

/-- A slice of stamps. -/
theorem open_stamps {r : Reach} {b0 : Nat} {t e ti : TypeId} {f0 f1 : Field} {v : Value} {d : DataW H} {p : List MemPlace}
    (ht : P.underlying t = some (.slice e)) (hs : P.underlying e = some (.struct #[f0, f1])) (hone : Deep.oneCellFields P #[f0, f1] = true) (hC : P.cellsOf e = 2) (hi0 : f0.type = ti) (hi1 : f1.type = ti) (hi : P.underlying ti = some (.int .i64))
    (hv : Value.okWide P w r b0 t v) (h : DataW.Trod enc P w 0 (fun _ => true) true t v d p) :
    ∃ (A : Option Addr) (cap : Nat) (l : List (Int × Int)), v = .slice A l.length cap ∧ l.length ≤ cap ∧ cap ≤ maxLen ∧ (A = none → l.length = 0 ∧ cap = 0) ∧ Lies w A (stCells l) ∧
      (∀ s ∈ l, -9223372036854775808 ≤ s.1 ∧ s.1 ≤ 9223372036854775807 ∧ -9223372036854775808 ≤ s.2 ∧ s.2 ≤ 9223372036854775807) ∧
      ((d = .nil ∧ l.length = 0 ∧ cap = 0) ∨ ∃ elems spare, d = .slice elems spare ∧ elems.length = l.length ∧ elems.length + spare.length = cap) := by
  have := open_list (0, 0) stCell (fun s => -9223372036854775808 ≤ s.1 ∧ s.1 ≤ 9223372036854775807 ∧ -9223372036854775808 ≤ s.2 ∧ s.2 ≤ 9223372036854775807) (size := 2) (fun _ => rfl) ht hC (by decide)
    (fun fuel cs x hx => by
      obtain ⟨c, n, rfl, _, h1, h2, h3, h4⟩ := stamp_cells hs hone hC hi0 hi1 hi hx
      exact ⟨(c, n), rfl, h1, h2, h3, h4⟩) hv h
  obtain ⟨A, cap, l, h1, h2, h3, h4, h5, h6, h7⟩ := this
  rw [stCells_flat] at h5
  exact ⟨A, cap, l, h1, h2, h3, h4, h5, h6, h7⟩

/-- A slice of whole numbers. -/
theorem open_nums {r : Reach} {b0 : Nat} {t e : TypeId} {v : Value} {d : DataW H} {p : List MemPlace}
    (ht : P.underlying t = some (.slice e)) (hi : P.underlying e = some (.int .i64)) (hC : P.cellsOf e = 1)
    (hv : Value.okWide P w r b0 t v) (h : DataW.Trod enc P w 0 (fun _ => true) true t v d p) :
    ∃ (A : Option Addr) (cap : Nat) (l : List Int), v = .slice A l.length cap ∧ l.length ≤ cap ∧ cap ≤ maxLen ∧ (A = none → l.length = 0 ∧ cap = 0) ∧ Lies w A (l.map (Value.int .i64)) ∧
      ((d = .nil ∧ l.length = 0 ∧ cap = 0) ∨ ∃ elems spare, d = .slice elems spare ∧ elems.length = l.length ∧ elems.length + spare.length = cap) := by
  have := open_list (0 : Int) (fun n => [Value.int .i64 n]) (fun _ => True) (size := 1) (fun _ => rfl) ht hC (by decide)
    (fun fuel cs x hx => by
      obtain ⟨a, e0, rfl, wa⟩ := DataW.trod_int hi hx
      exact ⟨a, e0, trivial⟩) hv h
  obtain ⟨A, cap, l, h1, h2, h3, h4, h5, h6, h7⟩ := this
  have hfl : ∀ l : List Int, l.flatMap (fun n => [Value.int .i64 n]) = l.map (Value.int .i64) := fun l => by
    induction l with
    | nil => rfl
    | cons s r ih => rw [List.flatMap_cons, ih]; rfl
  rw [hfl] at h5
  exact ⟨A, cap, l, h1, h2, h3, h4, h5, h7⟩
end

end Go.Proofs.Ytbbmngabbbehcaa
namespace Go.Proofs.Ytbbmngabbbehcaa
open Go.ChangeShapes Go.WideShapes Go.RowKit Go.Deep

section
variable {H : Type} {enc : TypeId × Value → H} {P : Program} {w : World}

/-- A slice whose elements' cells are known by 'f', at its own cell. -/
theorem open_list_at {α : Type} (z : α) (f : α → List Value) {size : Nat} (hf : ∀ a, (f a).length = size) {t e : TypeId} {fuel0 : Nat} {cs0 : List Value} {y : DataW H × List MemPlace}
    (ht : P.underlying t = some (.slice e)) (hC : P.cellsOf e = size) (hsz : 0 < size)
    (helem : ∀ (fuel : Nat) (cs : List Value) (x : DataW H × List MemPlace), DataW.trod enc P w 0 (fun _ => true) true fuel e cs = some x → ∃ a, cs = f a)
    (hfu : DataW.trod enc P w 0 (fun _ => true) true fuel0 t cs0 = some y) :
    ∃ (A : Option Addr) (cap : Nat) (l : List α), cs0 = [.slice A l.length cap] ∧ l.length ≤ cap ∧ cap ≤ maxLen ∧ (A = none → l.length = 0 ∧ cap = 0) ∧ Lies w A (l.flatMap f) ∧
      ((y.1 = .nil ∧ l.length = 0 ∧ cap = 0) ∨ ∃ elems spare, y.1 = .slice elems spare ∧ elems.length = l.length ∧ elems.length + spare.length = cap) := by
  rcases open_slice ht hfu with ⟨hcs, hx⟩ | ⟨a, len, cap, m, n, D, Pl, hcs, _, hl, hm, hmm, hx, hi⟩
  · subst hcs hx
    exact ⟨none, 0, [], rfl, Nat.le_refl _, Nat.zero_le _, fun _ => ⟨rfl, rfl⟩, Lies.nil, .inl ⟨rfl, rfl, rfl⟩⟩
  · simp at hmm
    subst hmm
    obtain ⟨g, hg⟩ := pick (n := len) (p := fun i s => ∀ j, j < size → w.cell? (a.add (i * size + j)) = (f s)[j]?) z (fun i hi' => by
      obtain ⟨cs', hc, ht'⟩ := hi i (by omega)
      rw [hC] at hc
      obtain ⟨s, rfl⟩ := helem _ _ _ ht'
      obtain ⟨_, _, hcell⟩ := World.cells?_some hc
      refine ⟨s, fun j hj => ?_⟩
      rw [← hcell j hj, Go.Deep.add_add])
    refine ⟨some a, m, (List.range len).map g, by simpa using hcs, by simpa using hl, hm, (fun h => by cases h), (fun hne => ?_), .inr ⟨_, _, by rw [hx], by simp, by simp; omega⟩⟩
    have hpos : 0 < len := by
      rcases Nat.eq_zero_or_pos len with h0 | h0
      · subst h0; simp at hne
      · exact h0
    obtain ⟨b, off, spot⟩ := a
    have h00 := hg 0 hpos 0 hsz
    have hspot : spot = none := by
      have hlen := hf (g 0)
      rw [List.getElem?_eq_getElem (by omega)] at h00
      simpa [Addr.add] using World.cell?_spot h00
    subst hspot
    refine ⟨b, off, rfl, fun j u hu => ?_⟩
    obtain ⟨i, r, s, h1, h2, h3, h4⟩ := flat_get f hf _ j u hu
    have hil : i < len := by
      have := (List.getElem?_eq_some_iff.1 h1).1
      simpa using this
    simp [hil] at h1
    subst h1
    rw [← Go.WideShapes.add_plain, h3, hg i hil r h2]
    exact h4

/-- A slice of slices of stamps. -/
theorem open_rows {r : Reach} {b0 : Nat} {tt t e ti : TypeId} {f0 f1 : Field} {v : Value} {d : DataW H} {p : List MemPlace}
    (htt : P.underlying tt = some (.slice t)) (hCt : P.cellsOf t = 1)
    (ht : P.underlying t = some (.slice e)) (hs : P.underlying e = some (.struct #[f0, f1])) (hone : Deep.oneCellFields P #[f0, f1] = true) (hC : P.cellsOf e = 2) (hi0 : f0.type = ti) (hi1 : f1.type = ti) (hi : P.underlying ti = some (.int .i64))
    (hv : Value.okWide P w r b0 tt v) (h : DataW.Trod enc P w 0 (fun _ => true) true tt v d p) :
    ∃ (A : Option Addr) (cap : Nat) (ls : List (List (Int × Int))), v = .slice A ls.length cap ∧ ls.length ≤ cap ∧ cap ≤ maxLen ∧ (A = none → ls.length = 0 ∧ cap = 0) ∧ Rows w A ls ∧
      ∀ k, k < ls.length → (ls.getD k []).length = 0 ∨ ∃ elems spare e' sp', d = .slice elems spare ∧ DataW.slice e' sp' ∈ elems ∧ e'.length = (ls.getD k []).length := by
  obtain ⟨a0, len0, cap0, rfl⟩ := okWide_slice htt hv
  obtain ⟨fuel, hfu⟩ := h
  rcases open_slice1 htt hCt hfu with ⟨hcs, hx⟩ | ⟨a, len, cap, m, n, V, D, Pl, hcs, _, hl, hm, hmm, hx, hin⟩
  · simp [Value.cells] at hcs hx
    obtain ⟨rfl, rfl, rfl⟩ := hcs
    exact ⟨none, 0, [], rfl, Nat.le_refl _, Nat.zero_le _, fun _ => ⟨rfl, rfl⟩, Rows.nil, fun k hk => by simp at hk⟩
  · simp [Value.cells] at hcs hx hmm
    obtain ⟨rfl, rfl, rfl⟩ := hcs
    subst hmm
    obtain ⟨g, hg⟩ := pick (n := len0) (p := fun i (x : Option Addr × Nat × List (Int × Int)) => w.cell? (a.add i) = some (.slice x.1 x.2.2.length x.2.1) ∧ OneL w x.1 x.2.1 x.2.2 ∧
        (x.2.2.length = 0 ∨ ∃ e' sp', D i = .slice e' sp' ∧ e'.length = x.2.2.length)) (none, 0, []) (fun i hi' => by
      obtain ⟨h1, h2⟩ := hin i (by omega)
      obtain ⟨A, c, l, e1, e2, e3, e4, e5, e6⟩ := open_list_at (0, 0) stCell (size := 2) (fun _ => rfl) ht hC (by decide) (fun fuel cs x hx => by
        obtain ⟨c, n, rfl, _⟩ := stamp_cells hs hone hC hi0 hi1 hi hx
        exact ⟨(c, n), rfl⟩) h2
      rw [stCells_flat] at e5
      injection e1 with e1
      refine ⟨(A, c, l), by rw [h1, e1], ⟨e2, e3, e4, e5⟩, ?_⟩
      rcases e6 with ⟨_, e6, _⟩ | ⟨el, sp, e6, e7, _⟩
      · exact .inl e6
      · exact .inr ⟨el, sp, e6, e7⟩)
    have hget : ∀ k, k < len0 → ((List.range len0).map fun i => (g i).2.2).getD k [] = (g k).2.2 := fun k hk => by
      rw [List.getD_eq_getElem?_getD]
      simp [hk]
    refine ⟨some a, m, (List.range len0).map fun i => (g i).2.2, by simp, by simpa using hl, hm, (fun h => by cases h), (fun hne => ?_), fun k hk => ?_⟩
    · have hpos : 0 < len0 := by
        rcases Nat.eq_zero_or_pos len0 with h0 | h0
        · subst h0; simp at hne
        · exact h0
      obtain ⟨b, off, spot⟩ := a
      have hspot : spot = none := by simpa [Addr.add] using World.cell?_spot (hg 0 hpos).1
      subst hspot
      refine ⟨b, off, rfl, fun k hk => ?_⟩
      have hk' : k < len0 := by simpa using hk
      rw [hget k hk']
      obtain ⟨h1, h2, _⟩ := hg k hk'
      rw [Go.WideShapes.add_plain] at h1
      exact ⟨(g k).1, (g k).2.1, h1, h2⟩
    · have hk' : k < len0 := by simpa using hk
      rw [hget k hk']
      obtain ⟨_, _, h3⟩ := hg k hk'
      rcases h3 with h3 | ⟨e', sp', h3, h4⟩
      · exact .inl h3
      · refine .inr ⟨_, _, e', sp', hx.1, ?_, h4⟩
        rw [← h3]
        exact List.mem_map.2 ⟨k, List.mem_range.2 hk', rfl⟩

theorem weightsAll_flat (e : TypeId) : ∀ l : List (DataW H), DataW.weightsAll P e l = l.flatMap (DataW.weights P e)
  | [] => rfl
  | d :: r => by rw [List.flatMap_cons, ← weightsAll_flat e r]; rfl
/-- How long a row inside a slice of slices can be. -/
theorem sized_in {ts : List TypeId} {ds : List (DataW H)} (h : (DataW.weightsEach P ts ds).all (· ≤ reachBytes) = true) {j : Nat} {t e q : TypeId} {elems spare e' sp' : List (DataW H)}
    (ht : ts[j]? = some t) (hd : ds[j]? = some (.slice elems spare)) (hu : P.underlying t = some (.slice e)) (hu2 : P.underlying e = some (.slice q)) (hx : DataW.slice e' sp' ∈ elems) : (e'.length + sp'.length) * P.bytesOf q ≤ reachBytes := by
  have hin : (e'.length + sp'.length) * P.bytesOf q ∈ DataW.weights P e (.slice e' sp') := by unfold DataW.weights; rw [hu2]; exact List.mem_cons_self ..
  have hout : (e'.length + sp'.length) * P.bytesOf q ∈ DataW.weights P t (.slice elems spare) := by
    unfold DataW.weights
    rw [hu]
    refine List.mem_cons_of_mem _ (List.mem_append_left _ ?_)
    rw [weightsAll_flat]
    exact List.mem_flatMap.2 ⟨_, hx, hin⟩
  simpa using List.all_eq_true.1 h _ (DataW.weights_mem_each ht hd _ hout)
end

end Go.Proofs.Ytbbmngabbbehcaa
