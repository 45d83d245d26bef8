/-
  What telltaleref11's Within answers.
  What telltaleref11's Put answers.
  A region that draws its order, within a round of a loop over a function: each operation walked as anywhere. Nothing of the program is imported.
  A region that draws its order, whose operations may make memory, and one of which may store into what another one made. Nothing of the program is imported.
-/
import Derived.Test.YtbpgofgdlikedaaG13
import Derived.Test.YtbpgofgdlikedaaG05
import Derived.Test.YtbpgofgdlikedaaG04
import Derived.OrdersIn
import Derived.RangeFuncCalls
import Derived.TacticsIn
namespace Go.Proofs.Ytbpgofgdlikedaa
open Go.RowKit Fb

theorem Sf.with_yes {l : List Wr} (s : List (Int × Int)) (h : Sf.fmd l = true) : Sf.withR l s = (Nt.keptTo l s l.length, 0) := by
  unfold Sf.withR Nt.keptTo
  rw [if_pos h, List.take_length]
theorem Sf.with_no {l : List Wr} (s : List (Int × Int)) (h : Sf.fmd l = false) : Sf.withR l s = ([], 1) := by
  unfold Sf.withR
  rw [if_neg (by rw [h]; simp)]

set_option maxRecDepth 100000 in
set_option maxHeartbeats 3200000 in
theorem fwithin_any (A B : Option Addr) (c d : Nat) (l : List Wr) (s : List (Int × Int)) (w : World) (h : OneW w A c l) (hs : OneL w B d s) :
    Calls Try.prog 17 #[.slice A l.length c, .slice B s.length d] w (AnsWE (Sf.withR l s).1 (Sf.withR l s).2 w) := by
  obtain ⟨i0, hI, hZ0, hZ1, hZ2⟩ := info_parts infoWr
  have n1 := fformed_any A c l w h
  have n2 := fun wx (hx : Below w.heap.size w wx) => set_any B d s wx (hs.later hx).len (hs.later hx).stamps
  have W1 := Lib.hid (fun hf => Sf.with_yes (l := l) s hf)
  have W0 := Lib.hid (fun hf => Sf.with_no (l := l) s hf)
  have FL := Lib.hid (fun hf => Sf.fmd_len (l := l) hf)
  have FO := Lib.hid (fun hf => Sf.fmd_obj (l := l) hf)
  have H1 := Lib.hid h
  obtain ⟨r, hr⟩ : ∃ r, Sf.withR l s = r := ⟨_, rfl⟩
  obtain ⟨q, hq⟩ : ∃ q, Sf.fmd l = q := ⟨_, rfl⟩
  rw [hr] at W1 W0 ⊢
  rw [hq] at n1 W1 W0 FL FO
  obtain ⟨inX, hinX⟩ : ∃ f, Sp.inL s = f := ⟨_, rfl⟩
  rw [hinX] at n2
  have HIX := Lib.hid hinX
  have N1 := Lib.hid n1
  have N2 := Lib.hid n2
  clear n1 n2 hr hq h hs hinX
  cases q with
  | false =>
    have hR := W0.out rfl
    subst hR
    go_enter Try.func17, Try.ntmps17
    go_wp2_with fail
    refine N1.out.mono ?_
    rintro e w1 ⟨rfl, b1⟩
    go_wp2
    go_ret2
    exact ⟨none, 0, rfl, OneW.nil, b1⟩
  | true =>
    have hR := W1.out rfl
    subst hR
    have FO1 := Lib.hid (FO.out rfl)
    have hl256 := FL.out rfl
    clear W1 W0 FL FO
    go_enter Try.func17, Try.ntmps17
    go_wp2_with fail
    refine N1.out.mono ?_
    rintro e w1 ⟨rfl, b1⟩
    go_wp2_with fail
    refine (N2.out _ b1).mono ?_
    rintro e w2 ⟨rfl, b2⟩
    have bb2 := below_on b1 b2
    have hT0 := Blk.new w2 52 (Sp.arr fun _ => false)
    rw [← marks_zero] at hT0
    have hT1 := hT0.row (Sp.arr inX)
    have bt := below_setRow (below_new (Below.refl w2.heap.size w2) (.cells Try.zeroCells52 52)) (Nat.le_refl _) (Sp.arr inX)
    have bbw := below_on bb2 bt
    clear N1 N2 b1 b2
    go_wp2_with (refine wpList_store_row rfl 52 _ _ rfl w2.heap.size (Sp.arr inX) rfl rfl 52 Try.zeroCells52 hT0 (by rw [Sp.arr_size]; exact info256) (by rw [marks_zero, Sp.arr_size, Sp.arr_size]) (one_marks _) ?_)
    obtain ⟨w3, hw3⟩ : ∃ w3, (w2.alloc (.cells Try.zeroCells52 52)).setRow w2.heap.size (Sp.arr inX) = w3 := ⟨_, rfl⟩
    rw [hw3] at hT1 bbw ⊢
    have HS := Lib.hid hT1
    have HBW := Lib.hid bbw
    have H3 := Lib.hid (H1.out.later bbw)
    have hS3 := hT1.lt
    have hw3s := bbw.size
    clear hT0 hT1 bt bbw hw3 H1 bb2
    go_loopw [7, 8] (fun s7 s8 wr => ∃ k : Nat, k ≤ l.length ∧ s8 = .int .i64 (k : Int) ∧ wr.ownsRow w3.heap.size 27 4 s7 (Nt.keptTo l s k).length (Nt.wrCells (Nt.keptTo l s k)) ∧ Below w3.heap.size w3 wr) (fun _ s8 _ => l.length - (intOf s8).toNat)
    case atStart => exact ⟨0, Nat.zero_le _, rfl, ⟨rfl, .inl ⟨rfl, rfl⟩⟩, Below.refl _ _⟩
    case round =>
      obtain ⟨k, hk, rfl, hown, hbw⟩ := hrel
      by_cases hlt : k < l.length
      · have hne : l ≠ [] := fun e => by subst e; simp at hlt
        obtain ⟨b, off, hA, hcA⟩ := (H3.out.later hbw).at hne
        have H1' := H3
        subst hA
        obtain ⟨e0, e1, e2, e3⟩ := hcA k hlt
        have hob := FO1.out k hlt
        have hkl := Nt.kept_len l s k
        have KY := Lib.hid (fun hh => Nt.kept_yes (ws := l) (it := s) hlt hh)
        have KN := Lib.hid (fun hh => Nt.kept_no (ws := l) (it := s) hlt hh)
        have hi0 : (0 : Int) ≤ (k : Int) := by omega
        have hi1 : (k : Int) < (l.length : Int) := by omega
        have hobj : (l.getD k Nt.zeroW).2.2.1 = Nt.obj l k := rfl
        obtain ⟨x, hx⟩ : ∃ x, l.getD k Nt.zeroW = x := ⟨_, rfl⟩
        rw [hx] at e0 e1 e2 e3 hobj KY
        obtain ⟨o, ho⟩ : ∃ o : Nat, Nt.obj l k = (o : Int) := ⟨(Nt.obj l k).toNat, by omega⟩
        rw [ho] at hobj hob KY KN
        rw [HIX.out] at KY KN
        obtain ⟨x0, x1, x2, x3⟩ := x
        dsimp only at hobj
        subst hobj
        have ho256 : o < 256 := by omega
        have ho0 : (0 : Int) ≤ (o : Int) := by omega
        have ho1 : (o : Int) < 256 := by omega
        have hm := ((HS.out.later hbw).marks_cell o ho256)
        rw [show ((o : Int)).toNat = o from rfl] at KY KN
        have HOW := Lib.hid hown
        have BW := Lib.hid hbw
        clear hcA hx ho hown
        cases hin : inX o
        · rw [hin] at hm
          have HK := Lib.hid (KN.out hin)
          clear hin
          go_wp2_with fail
          go_roundw
          case rel => exact ⟨k + 1, by omega, by go_num, by rw [HK.out]; exact HOW.out, BW.out⟩
          case measure => simp [intOf]; omega
        · rw [hin] at hm
          have HK := Lib.hid (KY.out hin)
          clear hin KY KN
          have bz2 := below_new (Below.refl wr.heap.size wr) (.cells #[.int .i64 x0, .int .i64 x1, .int .i64 (o : Int), .bool x3] 27)
          have hown' := own_later HOW.out bz2
          have hy1 : Lies (wr.alloc (.cells #[.int .i64 x0, .int .i64 x1, .int .i64 (o : Int), .bool x3] 27)) (some ⟨wr.heap.size, 0, none⟩) (Nt.wrCells [(x0, x1, (o : Int), x3)]) := fun _ => ⟨wr.heap.size, 0, rfl, fun j u hu => by
            rw [Nat.zero_add]
            exact (Blk.new wr 27 #[.int .i64 x0, .int .i64 x1, .int .i64 (o : Int), .bool x3]).cell (by simpa [Nt.wrCells, Nt.wrCell] using hu)⟩
          have hbw2 := below_on BW.out bz2
          have hszw := hbw2.size
          obtain ⟨K, hKK⟩ : ∃ K, Nt.keptTo l s k = K := ⟨_, rfl⟩
          rw [hKK] at hown' hkl HK
          clear hKK HOW
          go_wp2_with (at_builtin; refine Go.Proofs.Ytbpgofgdlikedaa.wpList_append_lies _ rfl _ _ 22 rfl w3.heap.size 27 i0 (.agg #[.int .i64 0, .int .i64 0, .int .i64 0, .bool false]) 4 32 Try.underlying22 hI hZ0 hZ1 hZ2 rfl (by decide) _ K.length (Nt.wrCells K) rfl hown' (some ⟨wr.heap.size, 0, none⟩) 1 1 (fun h => by cases h) (Nt.wrCells [(x0, x1, (o : Int), x3)]) rfl rfl hy1 (Nt.wrCells_one _) ?h63 ?hbytes hszw ?_)
          case h63 => show K.length + 1 ≤ (9223372036854775807 : Nat); omega
          case hbytes => omega
          intro v' wz hownz hgz _
          have bwz : Below w3.heap.size w3 wz := hbw2.grown hgz (by omega) (fun r e => own_ge hown' r e)
          rw [← Nt.wrCells_append, show K.length + 1 = (K ++ [(x0, x1, (o : Int), x3)]).length from by simp, ← HK.out] at hownz
          have HQ := Lib.hid (And.intro hownz bwz)
          obtain ⟨gv, capv, rfl⟩ := own_len hownz (by rw [HK.out]; simp)
          clear hownz hgz hown' hy1 bwz
          go_wp2_with fail
          go_roundw
          case rel => exact ⟨k + 1, by omega, by go_num, HQ.out.1, HQ.out.2⟩
          case measure => simp [intOf]; omega
      · have hkl : k = l.length := by omega
        subst hkl
        obtain ⟨A7, k7, hvk, hO7⟩ := OneW.of_own hown
        subst hvk
        have HO := Lib.hid hO7
        clear hown hO7
        go_wp2
        go_ret2
        exact ⟨A7, k7, rfl, HO.out, below_on HBW.out hbw⟩
end Go.Proofs.Ytbpgofgdlikedaa
namespace Go.Proofs.Ytbpgofgdlikedaa
open Go.RowKit Fb

section
variable {w : World} {g : Nat} {t : TypeId} {f : Nat → Wr}
theorem Blk.wrs_put (h : Blk w g t (Sf.arr f)) (j : Nat) (hj : j < 256) (x : Wr) : Blk ((((w.setCell ⟨g, j * 4, none⟩ (.int .i64 x.1)).setCell ⟨g, j * 4 + 1, none⟩ (.int .i64 x.2.1)).setCell ⟨g, j * 4 + 2, none⟩ (.int .i64 x.2.2.1)).setCell ⟨g, j * 4 + 3, none⟩ (.bool x.2.2.2)) g t (Sf.arr fun i => if i = j then x else f i) := by
  have h2 := (((h.put (j * 4) (.int .i64 x.1)).put (j * 4 + 1) (.int .i64 x.2.1)).put (j * 4 + 2) (.int .i64 x.2.2.1)).put (j * 4 + 3) (.bool x.2.2.2)
  rw [Sf.arr_set f j x hj] at h2
  exact h2
theorem Blk.wrs_cells (h : Blk w g t (Sf.arr f)) (j : Nat) (hj : j < 256) : w.cell? ⟨g, j * 4, none⟩ = some (.int .i64 (f j).1) ∧ w.cell? ⟨g, j * 4 + 1, none⟩ = some (.int .i64 (f j).2.1) ∧ w.cell? ⟨g, j * 4 + 2, none⟩ = some (.int .i64 (f j).2.2.1) ∧ w.cell? ⟨g, j * 4 + 3, none⟩ = some (.bool (f j).2.2.2) := by
  refine ⟨h.cell ?_, h.cell ?_, h.cell ?_, h.cell ?_⟩
  · rw [Sf.arr_get f _ (by omega), show j * 4 / 4 = j by omega, show j * 4 % 4 = 0 by omega]; rfl
  · rw [Sf.arr_get f _ (by omega), show (j * 4 + 1) / 4 = j by omega, show (j * 4 + 1) % 4 = 1 by omega]; rfl
  · rw [Sf.arr_get f _ (by omega), show (j * 4 + 2) / 4 = j by omega, show (j * 4 + 2) % 4 = 2 by omega]; rfl
  · rw [Sf.arr_get f _ (by omega), show (j * 4 + 3) / 4 = j by omega, show (j * 4 + 3) % 4 = 3 by omega]; rfl
theorem Blk.wrs_same {f' : Nat → Wr} (h : Blk w g t (Sf.arr f)) (e : ∀ i, i < 256 → f i = f' i) : Blk w g t (Sf.arr f') := by rw [← Sf.arr_ext e]; exact h
end

/-- What is known of each object, in two arrays. -/
structure PutM (w : World) (g6 g7 : Nat) (f : Sf.Mp) : Prop where
  has : Blk w g6 52 (Sp.arr fun j => (f j).isSome)
  at_ : Blk w g7 48 (Sf.arr fun j => (f j).getD Nt.zeroW)
theorem PutM.later {w w' : World} {g6 g7 : Nat} {f : Sf.Mp} (h : PutM w g6 g7 f) (hb : Below w.heap.size w w') : PutM w' g6 g7 f := ⟨h.has.later hb, h.at_.later hb⟩
theorem PutM.drew {w : World} {g6 g7 : Nat} {f : Sf.Mp} (h : PutM w g6 g7 f) : PutM w.drew g6 g7 f := ⟨h.has.drew, h.at_.drew⟩
theorem PutM.set {w : World} {g6 g7 : Nat} {f : Sf.Mp} (h : PutM w g6 g7 f) (hne : g6 ≠ g7) {x : Wr} {o : Nat} (hx : x.2.2.1 = (o : Int)) (ho : o < 256) :
    PutM (((((w.setCell ⟨g6, o, none⟩ (.bool true)).setCell ⟨g7, o * 4, none⟩ (.int .i64 x.1)).setCell ⟨g7, o * 4 + 1, none⟩ (.int .i64 x.2.1)).setCell ⟨g7, o * 4 + 2, none⟩ (.int .i64 x.2.2.1)).setCell ⟨g7, o * 4 + 3, none⟩ (.bool x.2.2.2)) g6 g7 (Sf.set1 f x) := by
  have a1 := (((((h.has.marks_put o ho true).far (p := ⟨g7, o * 4, none⟩) hne (.int .i64 x.1)).far (p := ⟨g7, o * 4 + 1, none⟩) hne (.int .i64 x.2.1)).far (p := ⟨g7, o * 4 + 2, none⟩) hne (.int .i64 x.2.2.1)).far (p := ⟨g7, o * 4 + 3, none⟩) hne (.bool x.2.2.2))
  have a2 := (h.at_.far (p := ⟨g6, o, none⟩) hne.symm (.bool true)).wrs_put o ho x
  refine ⟨a1.marks_same fun i _ => ?_, a2.wrs_same fun i _ => ?_⟩
  · unfold Sf.set1
    by_cases e : i = o
    · subst e; rw [if_pos rfl, if_pos hx.symm]; rfl
    · rw [if_neg e, if_neg (by omega)]
  · unfold Sf.set1
    by_cases e : i = o
    · subst e; rw [if_pos rfl, if_pos hx.symm]; rfl
    · rw [if_neg e, if_neg (by omega)]
theorem PutM.belows {w0 w : World} {g6 g7 : Nat} (hb : Below w0.heap.size w0 w) (h6 : w0.heap.size ≤ g6) (h7 : w0.heap.size ≤ g7) (o : Nat) (x : Wr) :
    Below w0.heap.size w0 (((((w.setCell ⟨g6, o, none⟩ (.bool true)).setCell ⟨g7, o * 4, none⟩ (.int .i64 x.1)).setCell ⟨g7, o * 4 + 1, none⟩ (.int .i64 x.2.1)).setCell ⟨g7, o * 4 + 2, none⟩ (.int .i64 x.2.2.1)).setCell ⟨g7, o * 4 + 3, none⟩ (.bool x.2.2.2)) :=
  ((((hb.setCell (p := ⟨g6, o, none⟩) h6 _).setCell (p := ⟨g7, o * 4, none⟩) h7 _).setCell (p := ⟨g7, o * 4 + 1, none⟩) h7 _).setCell (p := ⟨g7, o * 4 + 2, none⟩) h7 _).setCell (p := ⟨g7, o * 4 + 3, none⟩) h7 _
namespace Sf
theorem put_new {f : Mp} {x : Wr} {o : Nat} (hx : x.2.2.1 = (o : Int)) (h : newer x (f o) = x) : put1 f x = set1 f x := by
  funext j
  unfold put1 set1
  by_cases e : (j : Int) = x.2.2.1
  · rw [if_pos e, if_pos e]
    have : j = o := by omega
    subst this
    rw [h]
  · rw [if_neg e, if_neg e]
theorem put_old {f : Mp} {x y : Wr} {o : Nat} (hx : x.2.2.1 = (o : Int)) (hy : f o = some y) (h : ¬ St.cmpS y.1 y.2.1 x.1 x.2.1 < 0) : put1 f x = f := by
  funext j
  unfold put1
  by_cases e : (j : Int) = x.2.2.1
  · rw [if_pos e]
    have : j = o := by omega
    subst this
    rw [hy]
    show some (if St.cmpS y.1 y.2.1 x.1 x.2.1 < 0 then x else y) = some y
    rw [if_neg h]
  · rw [if_neg e]
def ofTo (l : List Wr) (k : Nat) : Mp := (l.take k).foldl set1 none_
def putsTo (f : Mp) (l : List Wr) (k : Nat) : Mp := (l.take k).foldl put1 f
theorem ofTo_succ {l : List Wr} {k : Nat} (h : k < l.length) : ofTo l (k + 1) = set1 (ofTo l k) (l.getD k Nt.zeroW) := by unfold ofTo; rw [foldl_take _ _ _ _ h, getD_lt h]
theorem putsTo_succ {f : Mp} {l : List Wr} {k : Nat} (h : k < l.length) : putsTo f l (k + 1) = put1 (putsTo f l k) (l.getD k Nt.zeroW) := by unfold putsTo; rw [foldl_take _ _ _ _ h, getD_lt h]
theorem ofTo_all (l : List Wr) : ofTo l l.length = of l := by unfold ofTo of; rw [List.take_length]
theorem putsTo_all (f : Mp) (l : List Wr) : putsTo f l l.length = Sf.puts f l := by unfold putsTo Sf.puts; rw [List.take_length]
theorem putR_bad {l : List Wr} (r : List Wr) (h : fmd l = false) : putR l r = ([], 1) := by unfold putR; rw [if_neg (by rw [h]; simp)]
theorem putR_wrong {l r : List Wr} (h : fmd l = true) (k : Nat) (hk : k < r.length) (h2 : right (r.getD k Nt.zeroW) = false) : putR l r = ([], 1) := by
  unfold putR
  rw [if_pos h, if_neg]
  intro ha
  rw [getD_lt hk, all_right ha _ (List.getElem_mem hk)] at h2
  cases h2
theorem putR_fine {l r : List Wr} (h : fmd l = true) (h2 : ∀ k, k < r.length → right (r.getD k Nt.zeroW) = true) : putR l r = (outTo (Sf.puts (of l) r) 256, 0) := by
  unfold putR
  rw [if_pos h, if_pos]
  rw [List.all_eq_true]
  intro x hx
  obtain ⟨j, hj, rfl⟩ := List.mem_iff_getElem.1 hx
  have := h2 j hj
  rwa [getD_lt hj] at this
end Sf

set_option maxRecDepth 100000 in
set_option maxHeartbeats 6400000 in
theorem fput_any (A B : Option Addr) (c d : Nat) (l r : List Wr) (w : World) (h : OneW w A c l) (h2 : OneW w B d r) :
    Calls Try.prog 14 #[.slice A l.length c, .slice B r.length d] w (AnsWE (Sf.putR l r).1 (Sf.putR l r).2 w) := by
  obtain ⟨i0, hI, hZ0, hZ1, hZ2⟩ := info_parts infoWr
  have n1 := fformed_any A c l w h
  have P0 := Lib.hid (fun hf => Sf.putR_bad (l := l) r hf)
  have PW := Lib.hid (fun hf k hk hx => Sf.putR_wrong (l := l) (r := r) hf k hk hx)
  have PF := Lib.hid (fun hf hx => Sf.putR_fine (l := l) (r := r) hf hx)
  have FO := Lib.hid (fun hf => Sf.fmd_obj (l := l) hf)
  have H1 := Lib.hid h
  have H2 := Lib.hid h2
  have hll := h.len
  have hrl := h2.len
  obtain ⟨res, hres⟩ : ∃ q, Sf.putR l r = q := ⟨_, rfl⟩
  obtain ⟨q, hq⟩ : ∃ q, Sf.fmd l = q := ⟨_, rfl⟩
  rw [hres] at P0 PW PF ⊢
  rw [hq] at n1 P0 PW PF FO
  have N1 := Lib.hid n1
  clear n1 hres hq h h2
  cases q with
  | false =>
    have hR := P0.out rfl
    subst hR
    go_enter Try.func14, Try.ntmps14
    go_wp2_with fail
    refine N1.out.mono ?_
    rintro e w1 ⟨rfl, b1⟩
    go_wp2
    go_ret2
    exact ⟨none, 0, rfl, OneW.nil, b1⟩
  | true =>
    have FO1 := Lib.hid (FO.out rfl)
    have PW1 := Lib.hid (PW.out rfl)
    have PF1 := Lib.hid (PF.out rfl)
    clear P0 FO PW PF
    go_enter Try.func14, Try.ntmps14
    go_wp2_with fail
    refine N1.out.mono ?_
    rintro e w1 ⟨rfl, b1⟩
    go_wp2_with fail
    have B6 := (Blk.new w1 52 (Sp.arr fun _ => false)).alloc (.cells Try.zeroCells48 48)
    have B7 := Blk.new (w1.alloc (.cells (Sp.arr fun _ => false) 52)) 48 Try.zeroCells48
    rw [show (w1.alloc (.cells (Sp.arr fun _ => false) 52)).heap.size = w1.heap.size + 1 from by simp, wrs_zero] at B7
    rw [← marks_zero] at B6 B7
    rw [wrs_zero] at B6
    have bb := below_new (below_new b1 (.cells Try.zeroCells52 52)) (.cells Try.zeroCells48 48)
    obtain ⟨W, hW⟩ : ∃ W, (w1.alloc (.cells Try.zeroCells52 52)).alloc (.cells Try.zeroCells48 48) = W := ⟨_, rfl⟩
    rw [← wrs_zero] at B6 B7
    rw [hW] at bb B6 B7 ⊢
    rw [marks_zero] at B6
    rw [wrs_zero] at B7
    have hM : PutM W w1.heap.size (w1.heap.size + 1) Sf.none_ := ⟨B6, B7⟩
    have HM := Lib.hid hM
    have HBB := Lib.hid bb
    have hz1 := b1.size
    clear hM B6 B7 hW b1 N1 bb
    go_loopw [8] (fun s8 wr => ∃ k : Nat, k ≤ l.length ∧ s8 = .int .i64 (k : Int) ∧ PutM wr w1.heap.size (w1.heap.size + 1) (Sf.ofTo l k) ∧ Below w.heap.size w wr) (fun s8 _ => l.length - (intOf s8).toNat)
    case atStart => exact ⟨0, Nat.zero_le _, rfl, HM.out, HBB.out⟩
    case round =>
      obtain ⟨k, hk, rfl, hM, hbw⟩ := hrel
      by_cases hlt : k < l.length
      · have hne : l ≠ [] := fun e => by subst e; simp at hlt
        obtain ⟨b, off, hA, hcA⟩ := (H1.out.later hbw).at hne
        have H1' := H1
        subst hA
        obtain ⟨e0, e1, e2, e3⟩ := hcA k hlt
        have hob := FO1.out k hlt
        have hi0 : (0 : Int) ≤ (k : Int) := by omega
        have hi1 : (k : Int) < (l.length : Int) := by omega
        have hst := Sf.ofTo_succ hlt
        have hobj : (l.getD k Nt.zeroW).2.2.1 = Nt.obj l k := rfl
        obtain ⟨x, hx⟩ : ∃ x, l.getD k Nt.zeroW = x := ⟨_, rfl⟩
        rw [hx] at e0 e1 e2 e3 hobj hst
        obtain ⟨o, ho⟩ : ∃ o : Nat, Nt.obj l k = (o : Int) := ⟨(Nt.obj l k).toNat, by omega⟩
        rw [ho] at hobj hob
        have HX := Lib.hid hobj
        rw [hobj] at e2
        have ho256 : o < 256 := by omega
        have ho0 : (0 : Int) ≤ (o : Int) := by omega
        have ho1 : (o : Int) < 256 := by omega
        have hS := hM.set (by omega) hobj ho256
        have hBS := PutM.belows (g6 := w1.heap.size) (g7 := w1.heap.size + 1) hbw hz1 (by omega) o x
        rw [hobj, ← hst] at hS
        rw [hobj] at hBS
        have f6 := hM.has.free o
        have m6 := hM.has.marks_cell o ho256
        have hA7 := hM.at_.far (p := ⟨w1.heap.size, o, none⟩) (by show w1.heap.size + 1 ≠ w1.heap.size; omega) (.bool true)
        have hbb : b < w.heap.size := by
          have h0 := H1.out.2.2.2 (fun e => hne (Nt.wrCells_nil.1 e))
          obtain ⟨b', off', hA', hc'⟩ := h0
          injection hA' with hA'
          injection hA' with hA1 hA2
          obtain ⟨q1, _⟩ := Nt.wrCells_get l k hlt
          have := World.block_lt_of_cell? _ _ (hc' _ _ q1)
          simp at this
          omega
        have hbf : b ≠ w1.heap.size := by omega
        have hbf7 : b ≠ w1.heap.size + 1 := by omega
        have q0 := (World.cell?_of_block (a := ⟨b, off + k * 4, none⟩) (Below.heap_setCell wr ⟨w1.heap.size, o, none⟩ (.bool true) b hbf)).trans e0
        have q1 := (World.cell?_of_block (a := ⟨b, off + k * 4 + 1, none⟩) (Below.heap_setCell wr ⟨w1.heap.size, o, none⟩ (.bool true) b hbf)).trans e1
        have q2 := (World.cell?_of_block (a := ⟨b, off + k * 4 + 2, none⟩) (Below.heap_setCell wr ⟨w1.heap.size, o, none⟩ (.bool true) b hbf)).trans e2
        have q3 := (World.cell?_of_block (a := ⟨b, off + k * 4 + 3, none⟩) (Below.heap_setCell wr ⟨w1.heap.size, o, none⟩ (.bool true) b hbf)).trans e3
        obtain ⟨W2, hW2⟩ : ∃ W2, wr.setCell ⟨w1.heap.size, o, none⟩ (.bool true) = W2 := ⟨_, rfl⟩
        rw [hW2] at hS hBS hA7 q0 q1 q2 q3
        have HS := Lib.hid (And.intro hS hBS)
        have f70 := hA7.free (o * 4)
        have f71 := hA7.free (o * 4 + 1)
        have f72 := hA7.free (o * 4 + 2)
        have f73 := hA7.free (o * 4 + 3)
        obtain ⟨m70, m71, m72, m73⟩ := hA7.wrs_cells o ho256
        have HW2 := Lib.hid hW2
        clear hcA hx ho hM hS hBS hst hobj hbw hA7 hW2
        go_wp2_with fail
        rw [HW2.out]
        clear e0 e1 e2 e3 m6 f6
        go_region
        go_wp2_with fail
        go_roundw
        case rel => exact ⟨k + 1, by omega, by go_num, HS.out.1.drew, HS.out.2.drew⟩
        case measure => simp [intOf]; omega
      · have hkl : k = l.length := by omega
        subst hkl
        rw [Sf.ofTo_all] at hM
        obtain ⟨F, hF⟩ : ∃ F, Sf.of l = F := ⟨_, rfl⟩
        rw [hF] at hM PF1
        have HM2 := Lib.hid hM
        have HBW := Lib.hid hbw
        clear hM hbw hF
        go_wp2_with fail
        clear HM HBB
        go_loopw [9, 10] (fun s9 _ wr => ∃ k : Nat, k ≤ r.length ∧ s9 = .int .i64 (k : Int) ∧ (∀ j, j < k → Sf.right (r.getD j Nt.zeroW) = true) ∧ PutM wr w1.heap.size (w1.heap.size + 1) (Sf.putsTo F r k) ∧ Below w.heap.size w wr) (fun s9 _ _ => r.length - (intOf s9).toNat)
        case atStart => exact ⟨0, Nat.zero_le _, rfl, (fun j hj => by omega), HM2.out, HBW.out⟩
        case round =>
          clear HM2 HBW
          obtain ⟨k, hk, rfl, hall, hM, hbw⟩ := hrel
          have HALL := Lib.hid hall
          clear hall
          by_cases hlt : k < r.length
          · have hne : r ≠ [] := fun e => by subst e; simp at hlt
            obtain ⟨b, off, hA, hcA⟩ := (H2.out.later hbw).at hne
            have H2' := H2
            subst hA
            obtain ⟨e0, e1, e2, e3⟩ := hcA k hlt
            have hi0 : (0 : Int) ≤ (k : Int) := by omega
            have hi1 : (k : Int) < (r.length : Int) := by omega
            have hst := Sf.putsTo_succ (f := F) hlt
            have hpw := PW1.out k hlt
            have hbb : b < w.heap.size := by
              have h0 := H2.out.2.2.2 (fun e => hne (Nt.wrCells_nil.1 e))
              obtain ⟨b', off', hA', hc'⟩ := h0
              injection hA' with hA'
              injection hA' with hA1 hA2
              obtain ⟨q1, _⟩ := Nt.wrCells_get r k hlt
              have := World.block_lt_of_cell? _ _ (hc' _ _ q1)
              simp at this
              omega
            have hal : Sf.right (r.getD k Nt.zeroW) = true → ∀ j, j < k + 1 → Sf.right (r.getD j Nt.zeroW) = true := fun hh j hj => by
              by_cases e : j = k
              · subst e; exact hh
              · exact HALL.out j (by omega)
            obtain ⟨x, hx⟩ : ∃ x, r.getD k Nt.zeroW = x := ⟨_, rfl⟩
            have hal2 : Sf.right x = true → ∀ j, j < k + 1 → Sf.right (r.getD j Nt.zeroW) = true := fun hh => hal (by rw [hx]; exact hh)
            rw [hx] at e0 e1 e2 e3 hst hpw
            have hob := Sf.right_iff x
            have nR := fright_any x wr
            obtain ⟨rt, hrt⟩ : ∃ q, Sf.right x = q := ⟨_, rfl⟩
            rw [hrt] at nR hpw hal2 hob
            have NR := Lib.hid (show Calls Try.prog 23 #[.agg #[.int .i64 x.1, .int .i64 x.2.1, .int .i64 x.2.2.1, .bool x.2.2.2]] wr (Says (.bool rt) wr) from nR)
            have HAL := Lib.hid hal2
            have HST := Lib.hid hst
            have HMM := Lib.hid hM
            have HBW := Lib.hid hbw
            clear hcA hx nR hal hal2 hst hM hbw hrt
            cases rt with
            | false =>
              have hR := hpw rfl
              clear hob hpw PW1 PF1
              subst hR
              go_wp2_with fail
              refine NR.out.mono ?_
              rintro e w5 ⟨rfl, b5⟩
              go_wp2
              go_ret2
              exact ⟨none, 0, rfl, OneW.nil, below_on HBW.out b5⟩
            | true =>
              obtain ⟨ho0, ho255, -⟩ := hob.1 rfl
              have HT := Lib.hid (HAL.out rfl)
              obtain ⟨o, ho⟩ : ∃ o : Nat, x.2.2.1 = (o : Int) := ⟨x.2.2.1.toNat, by omega⟩
              have nR := NR.out
              rw [ho] at nR e2 ho0 ho255
              have NR2 := Lib.hid nR
              have HO := Lib.hid ho
              clear hob hpw nR ho NR
              go_wp2_with fail
              refine NR2.out.mono ?_
              rintro e w5 ⟨rfl, b5⟩
              have E0 := cell_later b5 e0
              have E1 := cell_later b5 e1
              have E2 := cell_later b5 e2
              have E3 := cell_later b5 e3
              have hM5 := HMM.out.later b5
              have hbw5 := below_on HBW.out b5
              have ho256 : o < 256 := by omega
              have ho1 : (o : Int) < 256 := by omega
              clear NR2 e0 e1 e2 e3 HMM b5
              go_wp2_with fail
              have k0 := cell_regrown E0
              have k1 := cell_regrown E1
              have k6 := cell_regrown (hM5.has.marks_cell o ho256)
              obtain ⟨m70, m71, m72, m73⟩ := hM5.at_.wrs_cells o ho256
              have k7 := cell_regrown m70
              have k8 := cell_regrown m71
              have E := Lib.hid (And.intro E0 (And.intro E1 (And.intro E2 E3)))
              have HM5 := Lib.hid hM5
              have BW5 := Lib.hid hbw5
              have hput : Sf.newer x (Sf.putsTo F r k o) = x ∨ ∃ y, Sf.putsTo F r k o = some y ∧ ¬ St.cmpS y.1 y.2.1 x.1 x.2.1 < 0 := by
                cases hf : Sf.putsTo F r k o with
                | none => exact .inl rfl
                | some y =>
                  by_cases hc : St.cmpS y.1 y.2.1 x.1 x.2.1 < 0
                  · exact .inl (if_pos hc)
                  · exact .inr ⟨y, rfl, hc⟩
              have HPUT := Lib.hid hput
              obtain ⟨fo, hfo⟩ : ∃ fo, Sf.putsTo F r k o = fo := ⟨_, rfl⟩
              rw [hfo] at k6 k7 k8
              have HFO := Lib.hid hfo
              clear E0 E1 E2 E3 hM5 hbw5 m70 m71 m72 m73 hfo hput
              cases fo with
              | none =>
                simp only [Option.isSome_none] at k6
                refine wp_region_quiet_below (by kernel_rfl) (by kernel_rfl) ?_
                repeat (first | go_big_quiet_step (fail) | quiet_step (fail))
                refine wpQuiet_nil ?_
                intro _ hw'
                obtain ⟨pp, hw''⟩ := hw'
                subst hw''
                obtain ⟨w6, hw6⟩ : ∃ w6, Sort.grow (redrawn w5 pp.d) pp.os = w6 := ⟨_, rfl⟩
                have b6 : Below w5.heap.size w5 w6 := by rw [← hw6]; exact below_regrown w5 pp.d pp.os
                rw [hw6]
                have hM6 := HM5.out.later b6
                have hbw6 := below_on BW5.out b6
                clear hw6 k0 k1 k6
                have hnew : Sf.newer x (Sf.putsTo F r k o) = x := by rw [HFO.out]; rfl
                have E0 := cell_later b6 E.out.1
                have E1 := cell_later b6 E.out.2.1
                have E2 := cell_later b6 E.out.2.2.1
                have E3 := cell_later b6 E.out.2.2.2
                have f6 := hM6.has.free o
                have m6 := hM6.has.marks_cell o ho256
                have hA7 := hM6.at_.far (p := ⟨w1.heap.size, o, none⟩) (by show w1.heap.size + 1 ≠ w1.heap.size; omega) (.bool true)
                have hbf : b ≠ w1.heap.size := by omega
                have q0 := (World.cell?_of_block (a := ⟨b, off + k * 4, none⟩) (Below.heap_setCell w6 ⟨w1.heap.size, o, none⟩ (.bool true) b hbf)).trans E0
                have q1 := (World.cell?_of_block (a := ⟨b, off + k * 4 + 1, none⟩) (Below.heap_setCell w6 ⟨w1.heap.size, o, none⟩ (.bool true) b hbf)).trans E1
                have q2 := (World.cell?_of_block (a := ⟨b, off + k * 4 + 2, none⟩) (Below.heap_setCell w6 ⟨w1.heap.size, o, none⟩ (.bool true) b hbf)).trans E2
                have q3 := (World.cell?_of_block (a := ⟨b, off + k * 4 + 3, none⟩) (Below.heap_setCell w6 ⟨w1.heap.size, o, none⟩ (.bool true) b hbf)).trans E3
                have hS := hM6.set (by omega) HO.out ho256
                have hBS := PutM.belows (g6 := w1.heap.size) (g7 := w1.heap.size + 1) hbw6 hz1 (by omega) o x
                rw [HO.out, ← Sf.put_new HO.out hnew, ← HST.out] at hS
                rw [HO.out] at hBS
                have HS := Lib.hid (And.intro hS hBS)
                have f70 := hA7.free (o * 4)
                have f71 := hA7.free (o * 4 + 1)
                have f72 := hA7.free (o * 4 + 2)
                have f73 := hA7.free (o * 4 + 3)
                obtain ⟨m70, m71, m72, m73⟩ := hA7.wrs_cells o ho256
                clear hM6 hbw6 hS hBS hA7 hnew E0 E1 E2 E3
                go_wp2_with fail
                go_roundw
                case rel => exact ⟨k + 1, by omega, by go_num, HT.out, HS.out.1, HS.out.2⟩
                case measure => simp [intOf]; omega
              | some y =>
                simp only [Option.isSome_some, Option.getD_some] at k6 k7 k8
                have cC : ∀ d os, Calls Try.prog 19 #[.agg #[.int .i64 y.1, .int .i64 y.2.1], .agg #[.int .i64 x.1, .int .i64 x.2.1]] (Sort.grow (redrawn w5 d) os) fun e w'' => e = .returned (.int .i64 (St.cmpS y.1 y.2.1 x.1 x.2.1)) ∧ ∃ p : Regrown, w'' = Sort.grow (redrawn w5 p.d) p.os := fun d os => Calls.regrown_of (rcompare_any _ _ _ _ _)
                have CC := Lib.hid cC
                have hbd := St.cmpS_neg y.1 y.2.1 x.1 x.2.1
                clear cC hbd
                by_cases hc : St.cmpS y.1 y.2.1 x.1 x.2.1 < 0
                · have hd : decide (St.cmpS y.1 y.2.1 x.1 x.2.1 < 0) = true := decide_eq_true hc
                  have hnew : Sf.newer x (Sf.putsTo F r k o) = x := by rw [HFO.out]; exact if_pos hc
                  clear hc HPUT
                  refine wp_region_quiet_below (by kernel_rfl) (by kernel_rfl) ?_
                  repeat (first | go_big_quiet_step (exact CC.out _ _) | quiet_step (exact CC.out _ _))
                  refine wpQuiet_nil ?_
                  intro _ hw'
                  obtain ⟨pp, hw''⟩ := hw'
                  subst hw''
                  obtain ⟨w6, hw6⟩ : ∃ w6, Sort.grow (redrawn w5 pp.d) pp.os = w6 := ⟨_, rfl⟩
                  have b6 : Below w5.heap.size w5 w6 := by rw [← hw6]; exact below_regrown w5 pp.d pp.os
                  rw [hw6]
                  have hM6 := HM5.out.later b6
                  have hbw6 := below_on BW5.out b6
                  clear hw6 k0 k1 k6
                  have E0 := cell_later b6 E.out.1
                  have E1 := cell_later b6 E.out.2.1
                  have E2 := cell_later b6 E.out.2.2.1
                  have E3 := cell_later b6 E.out.2.2.2
                  have f6 := hM6.has.free o
                  have m6 := hM6.has.marks_cell o ho256
                  have hA7 := hM6.at_.far (p := ⟨w1.heap.size, o, none⟩) (by show w1.heap.size + 1 ≠ w1.heap.size; omega) (.bool true)
                  have hbf : b ≠ w1.heap.size := by omega
                  have q0 := (World.cell?_of_block (a := ⟨b, off + k * 4, none⟩) (Below.heap_setCell w6 ⟨w1.heap.size, o, none⟩ (.bool true) b hbf)).trans E0
                  have q1 := (World.cell?_of_block (a := ⟨b, off + k * 4 + 1, none⟩) (Below.heap_setCell w6 ⟨w1.heap.size, o, none⟩ (.bool true) b hbf)).trans E1
                  have q2 := (World.cell?_of_block (a := ⟨b, off + k * 4 + 2, none⟩) (Below.heap_setCell w6 ⟨w1.heap.size, o, none⟩ (.bool true) b hbf)).trans E2
                  have q3 := (World.cell?_of_block (a := ⟨b, off + k * 4 + 3, none⟩) (Below.heap_setCell w6 ⟨w1.heap.size, o, none⟩ (.bool true) b hbf)).trans E3
                  have hS := hM6.set (by omega) HO.out ho256
                  have hBS := PutM.belows (g6 := w1.heap.size) (g7 := w1.heap.size + 1) hbw6 hz1 (by omega) o x
                  rw [HO.out, ← Sf.put_new HO.out hnew, ← HST.out] at hS
                  rw [HO.out] at hBS
                  have HS := Lib.hid (And.intro hS hBS)
                  have f70 := hA7.free (o * 4)
                  have f71 := hA7.free (o * 4 + 1)
                  have f72 := hA7.free (o * 4 + 2)
                  have f73 := hA7.free (o * 4 + 3)
                  obtain ⟨m70, m71, m72, m73⟩ := hA7.wrs_cells o ho256
                  clear hM6 hbw6 hS hBS hA7 hnew E0 E1 E2 E3
                  go_wp2_with fail
                  go_roundw
                  case rel => exact ⟨k + 1, by omega, by go_num, HT.out, HS.out.1, HS.out.2⟩
                  case measure => simp [intOf]; omega
                · have hd : decide (St.cmpS y.1 y.2.1 x.1 x.2.1 < 0) = false := decide_eq_false hc
                  have HOLD := Lib.hid (Sf.put_old HO.out HFO.out hc)
                  clear hc HPUT
                  refine wp_region_quiet_below (by kernel_rfl) (by kernel_rfl) ?_
                  repeat (first | go_big_quiet_step (exact CC.out _ _) | quiet_step (exact CC.out _ _))
                  refine wpQuiet_nil ?_
                  intro _ hw'
                  obtain ⟨pp, hw''⟩ := hw'
                  subst hw''
                  obtain ⟨w6, hw6⟩ : ∃ w6, Sort.grow (redrawn w5 pp.d) pp.os = w6 := ⟨_, rfl⟩
                  have b6 : Below w5.heap.size w5 w6 := by rw [← hw6]; exact below_regrown w5 pp.d pp.os
                  rw [hw6]
                  have hM6 := HM5.out.later b6
                  have hbw6 := below_on BW5.out b6
                  clear hw6 k0 k1 k6
                  rw [← HOLD.out, ← HST.out] at hM6
                  have HS := Lib.hid (And.intro hM6 hbw6)
                  clear hM6 hbw6
                  go_wp2_with fail
                  go_roundw
                  case rel => exact ⟨k + 1, by omega, by go_num, HT.out, HS.out.1, HS.out.2⟩
                  case measure => simp [intOf]; omega
          · have hkl : k = r.length := by omega
            subst hkl
            have hR := PF1.out HALL.out
            clear PW1 PF1 HALL
            rw [Sf.putsTo_all] at hM
            obtain ⟨G, hG⟩ : ∃ G, Sf.puts F r = G := ⟨_, rfl⟩
            rw [hG] at hM hR
            subst hR
            obtain ⟨w4, rfl⟩ : ∃ w4, w4 = wr := ⟨_, rfl⟩
            have hg7 := hM.at_.lt
            have HM4 := Lib.hid hM
            have BW4 := Lib.hid hbw
            clear hM hbw hG
            go_wp2_with fail
            go_loopw [11, 12] (fun s11 s12 wr => ∃ k : Nat, k ≤ 256 ∧ s12 = .int .i64 (k : Int) ∧ wr.ownsRow w4.heap.size 27 4 s11 (Sf.outTo G k).length (Nt.wrCells (Sf.outTo G k)) ∧ Below w4.heap.size w4 wr) (fun _ s12 _ => 256 - (intOf s12).toNat)
            case atStart => exact ⟨0, Nat.zero_le _, rfl, ⟨rfl, .inl ⟨rfl, rfl⟩⟩, Below.refl _ _⟩
            case round =>
              obtain ⟨k, hk, rfl, hown, hbw⟩ := hrel
              by_cases hlt : k < 256
              · have hM := HM4.out.later hbw
                have m6 := hM.has.marks_cell k hlt
                obtain ⟨e0, e1, e2, e3⟩ := hM.at_.wrs_cells k hlt
                have hkl := Sf.outTo_len G k
                have KY := Lib.hid (fun (x : Wr) hh => Sf.outTo_some (f := G) (k := k) (x := x) hh)
                have KN := Lib.hid (fun hh => Sf.outTo_none (f := G) (k := k) hh)
                have hi0 : (0 : Int) ≤ (k : Int) := by omega
                have hi1 : (k : Int) < 256 := by omega
                have HOW := Lib.hid hown
                have BW := Lib.hid hbw
                clear hM hown
                obtain ⟨fo, hfo⟩ : ∃ fo, G k = fo := ⟨_, rfl⟩
                rw [hfo] at m6 e0 e1 e2 e3 KY KN
                clear hfo
                cases fo with
                | none =>
                  simp only [Option.isSome_none] at m6
                  have HK := Lib.hid (KN.out rfl)
                  clear e0 e1 e2 e3 KY KN
                  go_wp2_with fail
                  go_roundw
                  case rel => exact ⟨k + 1, by omega, by go_num, by rw [HK.out]; exact HOW.out, BW.out⟩
                  case measure => simp [intOf]; omega
                | some x =>
                  obtain ⟨x0, x1, x2, x3⟩ := x
                  simp only [Option.isSome_some, Option.getD_some] at m6 e0 e1 e2 e3
                  have HK := Lib.hid (KY.out _ rfl)
                  clear KY KN
                  have bz2 := below_new (Below.refl wr.heap.size wr) (.cells #[.int .i64 x0, .int .i64 x1, .int .i64 x2, .bool x3] 27)
                  have hown' := own_later HOW.out bz2
                  have hy1 : Lies (wr.alloc (.cells #[.int .i64 x0, .int .i64 x1, .int .i64 x2, .bool x3] 27)) (some ⟨wr.heap.size, 0, none⟩) (Nt.wrCells [(x0, x1, x2, x3)]) := fun _ => ⟨wr.heap.size, 0, rfl, fun j u hu => by
                    rw [Nat.zero_add]
                    exact (Blk.new wr 27 #[.int .i64 x0, .int .i64 x1, .int .i64 x2, .bool x3]).cell (by simpa [Nt.wrCells, Nt.wrCell] using hu)⟩
                  have hbw2 := below_on BW.out bz2
                  have hszw := hbw2.size
                  obtain ⟨K, hKK⟩ : ∃ K, Sf.outTo G k = K := ⟨_, rfl⟩
                  rw [hKK] at hown' hkl HK
                  clear hKK HOW
                  go_wp2_with (at_builtin; refine Go.Proofs.Ytbpgofgdlikedaa.wpList_append_lies _ rfl _ _ 22 rfl w4.heap.size 27 i0 (.agg #[.int .i64 0, .int .i64 0, .int .i64 0, .bool false]) 4 32 Try.underlying22 hI hZ0 hZ1 hZ2 rfl (by decide) _ K.length (Nt.wrCells K) rfl hown' (some ⟨wr.heap.size, 0, none⟩) 1 1 (fun h => by cases h) (Nt.wrCells [(x0, x1, x2, x3)]) rfl rfl hy1 (Nt.wrCells_one _) ?h63 ?hbytes hszw ?_)
                  case h63 => show K.length + 1 ≤ (9223372036854775807 : Nat); omega
                  case hbytes => omega
                  intro v' wz hownz hgz _
                  have bwz : Below w4.heap.size w4 wz := hbw2.grown hgz (by omega) (fun r e => own_ge hown' r e)
                  rw [← Nt.wrCells_append, show K.length + 1 = (K ++ [(x0, x1, x2, x3)]).length from by simp, ← HK.out] at hownz
                  have HQ := Lib.hid (And.intro hownz bwz)
                  obtain ⟨gv, capv, rfl⟩ := own_len hownz (by rw [HK.out]; simp)
                  clear hownz hgz hown' hy1 bwz
                  go_wp2_with fail
                  go_roundw
                  case rel => exact ⟨k + 1, by omega, by go_num, HQ.out.1, HQ.out.2⟩
                  case measure => simp [intOf]; omega
              · have hkl : k = 256 := by omega
                subst hkl
                obtain ⟨A7, k7, hvk, hO7⟩ := OneW.of_own hown
                subst hvk
                have HO := Lib.hid hO7
                clear hown hO7
                go_wp2
                go_ret2
                exact ⟨A7, k7, rfl, HO.out, below_on BW4.out hbw⟩
end Go.Proofs.Ytbpgofgdlikedaa
namespace Go.Proofs.Ytbpgofgdlikedaa
open Go.RowKit

theorem rows_round {P : Program} {row : String} {args : Array Value} {w : World} {R : Value → World → Prop} (l n : Nat) (h : _root_.Go.Rows P row args w R) : RowsIn (Fence.wide.inRound l) n P row args w R :=
  fun c cs _ => let ⟨v, w', r, s⟩ := h c cs; ⟨v, w', r, stepsIn_wide.2 s⟩
section
variable {P : Program} {ops : Array Oper} {md : Region.Mode} {Q : Exit → Act → World → Prop} {l n : Nat}
theorem wpOp_round {i : Nat} {K : Act → World → Prop} {a : Act} {w : World} (hd : ∀ o c, ops[i]? = some o → o.op ≠ .defer c) (hq : ¬ LetsOut Q) (h : wpOp P ops Q i K a w) : wpOpIn (Fence.wide.inRound l) n P ops Q i K a w := by
  unfold wpOp at h
  unfold wpOpIn
  cases ho : ops[i]? with
  | none =>
    rw [ho] at h
    exact h
  | some o =>
    rw [ho] at h
    simp only at h ⊢
    split
    · rename_i hw
      rw [if_pos hw] at h
      have h := h.resolve_right (fun h => hq h.2)
      refine ⟨fun _ _ => trivial, ?_⟩
      rw [show (Fence.wide.inRound l).round = some l from rfl, Oper.semAt_some l _ _ (fun c => hd o c ho)]
      unfold Oper.wp at h
      generalize (execOp a.eval o).run P w = r at *
      cases r with
      | ok x w' =>
        cases x <;> simp only [Oper.upon, Oper.uponIn] at h ⊢ <;>
          first
            | exact h
            | exact ⟨fun h0 => by simp [Fence.wide, Fence.inRound] at h0, CallsIn.inRound l (callsIn_wide.2 (h.mono (fun e w'' he => by cases e <;> exact he)))⟩
            | exact ⟨fun h0 => by simp [Fence.wide, Fence.inRound] at h0, rows_round l _ h⟩
      | halt x w' => cases x <;> simp only [Oper.upon, Oper.uponIn] at h ⊢ <;> exact h
    · rename_i hw
      rw [if_neg hw] at h
      exact ⟨fun _ _ => trivial, h⟩
theorem wpAny_round (hd : ∀ (i : Nat) o c, ops[i]? = some o → o.op ≠ .defer c) (hq : ¬ LetsOut Q) (f : Nat) (listed : Array Bool) (a : Act) (w : World) (h : wpAny P md ops Q f listed a w) : wpAnyIn (Fence.wide.inRound l) n P md ops Q f listed a w := by
  induction f generalizing listed a w with
  | zero => exact h
  | succ f ih => exact ⟨h.1, fun i hi => wpOpIn_mono (fun a' w' h' => ih _ a' w' h') (wpOp_round (hd i) hq (h.2 i hi))⟩
/-- An operation that isn't wanted. -/
theorem wpOp_skip {i : Nat} {o : Oper} {K : Act → World → Prop} {a : Act} {w : World} (ho : ops[i]? = some o) (hw : Region.wanted o (yielded ops a.tmps) = false) (h : K (a.put o.dst undef) w) : wpOp P ops Q i K a w := by
  unfold wpOp
  rw [ho]
  simp only
  rw [if_neg (by rw [hw]; exact Bool.false_ne_true)]
  exact h
/-- No operation is put off. -/
def noDefer (ops : Array Oper) : Bool := ops.toList.all fun o => match o.op with | .defer _ => false | _ => true
theorem noDefer_at (h : noDefer ops = true) (i : Nat) (o : Oper) c (ho : ops[i]? = some o) : o.op ≠ .defer c := by
  intro e
  have h1 := List.all_eq_true.1 h o (Array.mem_toList_iff.2 (Array.mem_of_getElem? ho))
  rw [e] at h1
  cases h1

/-- **A region that draws its order, in a round, whose operations make memory.** -/
theorem wpIn_region_facts2 {id : Nat} {L : List Oper} {w : World} (m : Nat) (hm : P.follows .mixedOrders = true) (hB : factsB .any L.toArray m = true) (hd : noDefer L.toArray = true) (hq : ¬ LetsOut Q) (T : (Nat → Value) → Act) (v0 : Nat → Value) (Ψ : Nat → Value → World → Prop) (R : Nat → Nat → Value → Value → Prop) (Rel : World → World → Prop) (trans : ∀ {w1 w2 w3}, Rel w1 w2 → Rel w2 w3 → Rel w1 w3) (hself : ∀ w, Rel w w) (hdrew : Rel w w.drew)
    (stab : ∀ i x w w', Ψ i x w → Rel w w' → Ψ i x w')
    (step : ∀ i, i < m → ∀ v w', Rel w w' → (∀ j ∈ deps .any L.toArray i, Ψ j (v j) w') → wpOp P L.toArray Q i (fun a' w'' => ∃ x, a' = T (upd v i x) ∧ Rel w' w'' ∧ Ψ i x w'' ∧ ∀ j y, j ≠ i → Ψ j y w' → R i j x y ∧ R j i y x) (T v) w')
    (done : ∀ v w', Rel w w' → (∀ i, i < m → Ψ i (v i) w') → (∀ i j, i < m → j < m → i ≠ j → R i j (v i) (v j)) → wpList P L.toArray Q (L.drop m) (T v) w') :
    (Code.region id L.toArray true).wpIn (Fence.wide.inRound l) n P Q (T v0) w := by
  refine wpIn_region_any hm (wpAny_round (noDefer_at hd) hq _ _ _ _ ?_)
  have hn : m < L.toArray.size := by
    simp only [factsB, Bool.and_eq_true, decide_eq_true_eq] at hB
    exact hB.1.1.1.1
  have hw : ∀ w', Rel { w with drawn := w.drawn + 1 } w' → Rel w w' := fun w' h => trans hdrew h
  have h := wpAny_facts hB T Ψ R Rel trans { w with drawn := w.drawn + 1 } stab (fun i hi v w' hb hd => step i hi v w' (hw w' hb) hd) (fun v w' hb hf hr => done v w' (hw w' hb) hf hr)
    m (Array.replicate L.toArray.size false) v0 { w with drawn := w.drawn + 1 }
    ⟨by simp, fun j oj hj hl => (by rw [getD_replicate_false] at hl; cases hl), fun t ht ht' => (by rw [Array.getD_eq_getD_getElem?, Array.getElem?_replicate, if_pos ht']; rfl)⟩ (cntTo_none _ m (by omega)) (hself _) (fun i hi hl => by
      rw [Array.getD_eq_getD_getElem?, Array.getElem?_replicate, if_pos (by omega)] at hl
      cases hl) (fun i j hi hj _ hl _ => by
      rw [Array.getD_eq_getD_getElem?, Array.getElem?_replicate, if_pos (by omega)] at hl
      cases hl)
  rw [show m + (L.toArray.size - m) = L.toArray.size from by omega] at h
  exact h
/-- **A region that draws its order, in a round, whose operations make memory.** -/
theorem wpIn_region_facts {id : Nat} {L : List Oper} {w : World} (m : Nat) (hm : P.follows .mixedOrders = true) (hB : factsB .any L.toArray m = true) (hd : noDefer L.toArray = true) (hq : ¬ LetsOut Q) (T : (Nat → Value) → Act) (v0 : Nat → Value) (Ψ : Nat → Value → World → Prop) (Rel : World → World → Prop) (trans : ∀ {w1 w2 w3}, Rel w1 w2 → Rel w2 w3 → Rel w1 w3) (hself : ∀ w, Rel w w) (hdrew : Rel w w.drew)
    (stab : ∀ i x w w', Ψ i x w → Rel w w' → Ψ i x w')
    (step : ∀ i, i < m → ∀ v w', Rel w w' → (∀ j ∈ deps .any L.toArray i, Ψ j (v j) w') → wpOp P L.toArray Q i (fun a' w'' => ∃ x, a' = T (upd v i x) ∧ Rel w' w'' ∧ Ψ i x w'') (T v) w')
    (done : ∀ v w', Rel w w' → (∀ i, i < m → Ψ i (v i) w') → wpList P L.toArray Q (L.drop m) (T v) w') :
    (Code.region id L.toArray true).wpIn (Fence.wide.inRound l) n P Q (T v0) w :=
  wpIn_region_facts2 m hm hB hd hq T v0 Ψ (fun _ _ _ _ => True) Rel trans hself hdrew stab
    (fun i hi v w' hb hd => wpOp_mono (fun _ _ ⟨x, h1, h2, h3⟩ => ⟨x, h1, h2, h3, fun _ _ _ _ => ⟨trivial, trivial⟩⟩) (step i hi v w' hb hd))
    (fun v w' hb hf _ => done v w' hb hf)
end

end Go.Proofs.Ytbpgofgdlikedaa
namespace Go.Proofs.Ytbpgofgdlikedaa
open Go.RowKit

section
variable {P : Program} {ops : Array Oper} {md : Region.Mode} {Q : Exit → Act → World → Prop}

theorem wpAny_facts3 {n : Nat} (hB : factsB md ops n = true) (T : (Nat → Value) → Act) (Φ : Nat → (Nat → Value) → World → Prop) (Rel : World → World → Prop) (trans : ∀ {w1 w2 w3}, Rel w1 w2 → Rel w2 w3 → Rel w1 w3) (W0 : World)
    (loc : ∀ i k v x w, k ≠ i → k ∉ deps md ops i → Φ i v w → Φ i (upd v k x) w)
    (step : ∀ i, i < n → ∀ v w, Rel W0 w → (∀ j ∈ deps md ops i, Φ j v w) → wpOp P ops Q i (fun a' w' => ∃ x, a' = T (upd v i x) ∧ Rel w w' ∧ Φ i (upd v i x) w' ∧ ∀ j, j < n → j ≠ i → Φ j v w → Φ j v w') (T v) w)
    (done : ∀ v w, Rel W0 w → (∀ i, i < n → Φ i v w) → wpList P ops Q (ops.toList.drop n) (T v) w) :
    ∀ (f : Nat) (listed : Array Bool) (v : Nat → Value) (w : World), HeadInv md ops n listed → cntTo listed n = f → Rel W0 w → (∀ i, i < n → listed.getD i true = true → Φ i v w) → (∀ i, i < n → listed.getD i true = true → ∀ j ∈ deps md ops i, listed.getD j true = true) → wpAny P md ops Q (f + (ops.size - n)) listed (T v) w := by
  simp only [factsB, Bool.and_eq_true, decide_eq_true_eq] at hB
  obtain ⟨⟨⟨⟨hn, hs⟩, hc⟩, hd⟩, hq⟩ := hB
  intro f
  induction f with
  | zero =>
    intro listed v w inv hcnt hb hfacts _
    have hall := cntTo_zero listed n hcnt
    have he : listed = headListed ops.size n := by
      apply Array.ext
      · rw [inv.size]; simp [headListed]
      · intro i h1 h2
        have hi : i < ops.size := by rw [← inv.size]; exact h1
        have e2 : (headListed ops.size n)[i] = decide (i < n) := by simp [headListed]
        rw [e2]
        by_cases hin : i < n
        · have := hall i hin
          simp [h1] at this
          rw [this, decide_eq_true hin]
        · have := inv.tail i (by omega) hi
          simp [h1] at this
          rw [this, decide_eq_false hin]
    rw [Nat.zero_add]
    have hl : (ops.toList.drop n).length = ops.size - n := by simp
    rw [← hl]
    refine wpAny_of_seq (ops.toList.drop n) n listed _ w (fun j => by simp) ?_ (done v w hb (fun i hi => hfacts i hi (hall i hi)))
    rw [hl, he]
    exact hq
  | succ f ih =>
    intro listed v w inv hcnt hb hfacts hclosed
    obtain ⟨m, hm1, hm2, hm3⟩ := cntTo_pos listed n (by omega)
    have hmr : m ∈ Region.ready md ops listed := by
      have hms : m < ops.size := by omega
      refine mem_ready.2 ⟨hm2, ops[m], Array.getElem?_eq_getElem hms, fun e he hbind => ?_⟩
      have h1 := List.all_eq_true.1 hd m (List.mem_range.2 hms)
      have h2 : e.on ∈ deps md ops m := by
        unfold deps
        rw [Array.getElem?_eq_getElem hms]
        exact List.mem_map.2 ⟨e, List.mem_filter.2 ⟨Array.mem_toList_iff.2 he, hbind⟩, rfl⟩
      have h3 := of_decide_eq_true (List.all_eq_true.1 h1 _ h2)
      have h4 := hm3 e.on h3
      have h5 : e.on < listed.size := by rw [inv.size]; omega
      simp [h5] at h4 ⊢
      exact h4
    rw [show f + 1 + (ops.size - n) = (f + (ops.size - n)) + 1 from by omega]
    refine ⟨fun h0 => (by rw [h0] at hmr; cases hmr), fun i hi => ?_⟩
    have hin : i < n := by
      rcases Nat.lt_or_ge i n with h | h
      · exact h
      · exact absurd hi (tail_waits hs hc hn inv _ m rfl hm1 hm2 i h)
    obtain ⟨hun, oi, hoi, hafter⟩ := mem_ready.1 hi
    have hdl : ∀ j ∈ deps md ops i, listed.getD j true = true ∧ j < n := by
      intro j hj
      unfold deps at hj
      rw [hoi] at hj
      obtain ⟨e, he, rfl⟩ := List.mem_map.1 hj
      obtain ⟨he1, he2⟩ := List.mem_filter.1 he
      have h1 := hafter e (Array.mem_toList_iff.1 he1) he2
      have h2 : e.on < listed.size := by
        rcases Nat.lt_or_ge e.on listed.size with h' | h'
        · exact h'
        · simp [Array.getElem?_eq_none h'] at h1
      have h3 : listed.getD e.on true = true := by simp [h2] at h1 ⊢; exact h1
      refine ⟨h3, ?_⟩
      rcases Nat.lt_or_ge e.on n with h' | h'
      · exact h'
      · have := inv.tail e.on h' (by rw [← inv.size]; exact h2)
        rw [h3] at this
        cases this
    have keep : ∀ j, listed.getD j true = true → (listed.setIfInBounds i true).getD j true = true := fun j hj => by
      by_cases e : j = i
      · subst e; rw [hj] at hun; cases hun
      · rw [getD_set_ne true (fun h => e h.symm)]; exact hj
    refine wpOp_mono ?_ (step i hin v w hb (fun j hj => hfacts j (hdl j hj).2 (hdl j hj).1))
    rintro a' w' ⟨x, rfl, hb', hx, hst⟩
    refine ih _ (upd v i x) w' (inv.set hi hin) (by have := cntTo_set listed i hun n hin; omega) (trans hb hb') (fun j hj hl => ?_) (fun j hj hl d hdj => ?_)
    · by_cases e : j = i
      · subst e
        exact hx
      · rw [getD_set_ne true (fun h => e h.symm)] at hl
        refine loc j i v x w' (fun h => e h.symm) (fun h => ?_) (hst j hj e (hfacts j hj hl))
        have := hclosed j hj hl i h
        rw [hun] at this
        cases this
    · by_cases e : j = i
      · subst e
        exact keep d (hdl d hdj).1
      · rw [getD_set_ne true (fun h => e h.symm)] at hl
        exact keep d (hclosed j hj hl d hdj)

/-- **A region that draws its order, whose operations make memory, and one of which may store into what another one made:** what is known of an operation may speak of what those have yielded for which it waited. -/
theorem wp_region_facts3 {id : Nat} {l : List Oper} {w : World} (n : Nat) (hm : P.follows .mixedOrders = true) (hB : factsB .any l.toArray n = true) (T : (Nat → Value) → Act) (v0 : Nat → Value) (Φ : Nat → (Nat → Value) → World → Prop) (Rel : World → World → Prop) (trans : ∀ {w1 w2 w3}, Rel w1 w2 → Rel w2 w3 → Rel w1 w3) (hself : ∀ w, Rel w w) (hdrew : Rel w w.drew)
    (loc : ∀ i k v x w, k ≠ i → k ∉ deps .any l.toArray i → Φ i v w → Φ i (upd v k x) w)
    (step : ∀ i, i < n → ∀ v w', Rel w w' → (∀ j ∈ deps .any l.toArray i, Φ j v w') → wpOp P l.toArray Q i (fun a' w'' => ∃ x, a' = T (upd v i x) ∧ Rel w' w'' ∧ Φ i (upd v i x) w'' ∧ ∀ j, j < n → j ≠ i → Φ j v w' → Φ j v w'') (T v) w')
    (done : ∀ v w', Rel w w' → (∀ i, i < n → Φ i v w') → wpList P l.toArray Q (l.drop n) (T v) w') :
    (Code.region id l.toArray true).wp P Q (T v0) w := by
  refine wp_region_any hm ?_
  have hn : n < l.toArray.size := by
    simp only [factsB, Bool.and_eq_true, decide_eq_true_eq] at hB
    exact hB.1.1.1.1
  have hw : ∀ w', Rel { w with drawn := w.drawn + 1 } w' → Rel w w' := fun w' h => trans hdrew h
  have hno : ∀ i, i < n → (Array.replicate l.toArray.size false).getD i true = true → False := fun i hi hl => by
    rw [Array.getD_eq_getD_getElem?, Array.getElem?_replicate, if_pos (by omega)] at hl
    cases hl
  have h := wpAny_facts3 hB T Φ Rel trans { w with drawn := w.drawn + 1 } loc (fun i hi v w' hb hd => step i hi v w' (hw w' hb) hd) (fun v w' hb hf => done v w' (hw w' hb) hf)
    n (Array.replicate l.toArray.size false) v0 { w with drawn := w.drawn + 1 }
    ⟨by simp, fun j oj hj hl => (by rw [getD_replicate_false] at hl; cases hl), fun t ht ht' => (by rw [Array.getD_eq_getD_getElem?, Array.getElem?_replicate, if_pos ht']; rfl)⟩ (cntTo_none _ n (by omega)) (hself _) (fun i hi hl => (hno i hi hl).elim) (fun i hi hl => (hno i hi hl).elim)
  rw [show n + (l.toArray.size - n) = l.toArray.size from by omega] at h
  exact h
/-- One operation, walked as a list of one, with the way out behind a letter. -/
theorem wpOp_oneK {i : Nat} {o : Oper} {K : Act → World → Prop} {a : Act} {w : World} (ho : ops[i]? = some o) (h : ∀ K' : Act → World → Prop, (∀ a w, K a w → K' a w) → wpList P ops (Exit.then K' Q) [o] a w) : wpOp P ops Q i K a w := wpOp_one ho (h K (fun _ _ h => h))
end
end Go.Proofs.Ytbpgofgdlikedaa
