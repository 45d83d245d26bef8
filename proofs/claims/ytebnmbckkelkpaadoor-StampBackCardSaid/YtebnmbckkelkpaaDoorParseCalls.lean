/-
  What stamp.Parse answers of any text: the right stamp of that text, or the error. With it strings.Cut at '@' and strconv.Atoi.
-/
import Derived.Test.YtebnmbckkelkpaaDoorShowCalls
import Derived.Test.YtebnmbckkelkpaaDoorParseRef
import Derived.Lib.AtoiErrMem
import Derived.WalkSmall
import Derived.Lib.AtoiAllCases
namespace Go.Proofs.YtebnmbckkelkpaaDoor
open Go.RowKit

/-! strings.Cut at '@'. -/
theorem cut_some (s a b : ByteArray) (x y : List UInt8) (w : World) (hm : s.size ≤ 9223372036854775806) (h : Num.cutAt s.data.toList = some (x, y)) (ha : s.extract 0 x.length = a) (hb : s.extract (x.length + 1) s.size = b) :
    Calls Tryd.prog 14 #[.string s, .string ⟨#[64]⟩] w fun e w' => e = .returned (.tuple #[.string a, .string b, .bool true]) ∧ Below w.heap.size w w' := by
  have hi := Num.index_cut s.data.toList
  rw [h] at hi
  simp only at hi
  have hsz : x.length + 1 ≤ s.size := by
    have h1 := congrArg List.length (Num.cutAt_some h).1
    have h2 : s.data.toList.length = s.size := Array.length_toList
    simp at h1
    omega
  have HI := Lib.hid hi
  have HA := Lib.hid ha
  have HB := Lib.hid hb
  clear hi ha hb h
  have hd : decide ((0 : Int) ≤ (x.length : Int)) = true := decide_eq_true (by omega)
  have hi1 : (x.length : Int) ≤ (s.size : Int) := by omega
  have hi2 : (x.length : Int) + 1 ≤ (s.size : Int) := by omega
  go_enter Tryd.func14, Tryd.ntmps14
  go_wp2_with (first | (go_at_call 23; refine (Tryd.stringslite_Index_one s 64 _).mono ?_; rintro e w' ⟨rfl, rfl⟩; rw [HI.out]) | go_in)
  have hwr : IntKind.i64.wrap ((x.length : Int) + 1) = (x.length : Int) + 1 := by rw [IntKind.wrap_i64]; omega
  go_quiet (fail)
  go_wp2
  go_ret3
  go_wp2
  go_ret3
  exact ⟨by rw [HA.out, HB.out]; rfl, below_drewN (Below.refl _ _) _⟩

theorem cut_none (s : ByteArray) (w : World) (h : Num.cutAt s.data.toList = none) :
    Calls Tryd.prog 14 #[.string s, .string ⟨#[64]⟩] w fun e w' => e = .returned (.tuple #[.string s, .string ⟨#[]⟩, .bool false]) ∧ Below w.heap.size w w' := by
  have hi := Num.index_cut s.data.toList
  rw [h] at hi
  simp only at hi
  have HI := Lib.hid hi
  clear hi h
  go_enter Tryd.func14, Tryd.ntmps14
  go_wp2_with (first | (go_at_call 23; refine (Tryd.stringslite_Index_one s 64 _).mono ?_; rintro e w' ⟨rfl, rfl⟩; rw [HI.out]) | go_in)
  go_ret3
  go_wp2
  go_ret3
  exact ⟨rfl, Below.refl _ _⟩

/-- strconv.Atoi's two errors lie in the library's variables. -/
def Errs (w : World) : Prop := (∃ t p, w.var? Tryd.prog "strconv.ErrSyntax" = some #[.iface t p]) ∧ ∃ t p, w.var? Tryd.prog "strconv.ErrRange" = some #[.iface t p]
theorem syn_global : Tryd.prog.globalNamed "strconv.ErrSyntax" = some 1 := by kernel_rfl
theorem rng_global : Tryd.prog.globalNamed "strconv.ErrRange" = some 2 := by kernel_rfl
theorem var_later {w w' : World} {nm : String} {g : Nat} {cs : Array Value} (hg : Tryd.prog.globalNamed nm = some g) (h : w.var? Tryd.prog nm = some cs) (hb : Below w.heap.size w w') : w'.var? Tryd.prog nm = some cs := by
  unfold World.var? at h ⊢
  rw [hg] at h ⊢
  simp only [Option.bind_some] at h ⊢
  have hlt : g < w.heap.size := by
    rcases Nat.lt_or_ge g w.heap.size with h' | h'
    · exact h'
    · rw [Array.getElem?_eq_none h'] at h; simp at h
  rw [hb.block _ hlt]
  exact h
theorem Errs.later {w w' : World} (h : Errs w) (hb : Below w.heap.size w w') : Errs w' := by
  obtain ⟨⟨t, p, h1⟩, ⟨t', p', h2⟩⟩ := h
  exact ⟨⟨t, p, var_later syn_global h1 hb⟩, ⟨t', p', var_later rng_global h2 hb⟩⟩

def AtoiPost (l : List UInt8) (w : World) (e : Ending) (w' : World) : Prop :=
  ((∃ v, Lib.atoiAll l = .ok v ∧ e = .returned (.tuple #[.int .i64 v, .nilIface])) ∨ ((∀ v, Lib.atoiAll l ≠ .ok v) ∧ ∃ x t p, e = .returned (.tuple #[.int .i64 x, .iface t p]))) ∧ Below w.heap.size w w'
theorem atoi_any (s : ByteArray) (w : World) (hm : s.size ≤ 140737488355328) (he : Errs w) : Calls Tryd.prog 15 #[.string s] w (AtoiPost s.data.toList w) := by
  obtain ⟨⟨t, p, h1⟩, ⟨t', p', h2⟩⟩ := he
  cases h : Lib.atoiAll s.data.toList
  · rename_i v
    refine (Tryd.strconv_Atoi_ok s (by omega) v h w).mono ?_
    rintro e w' ⟨rfl, hw⟩
    refine ⟨.inl ⟨v, h, rfl⟩, ?_⟩
    rcases hw with rfl | ⟨t, rfl⟩
    · exact Below.refl _ _
    · exact Lib.bytesWorld_below _ _ _
  · have hc : Calls Tryd.prog 15 #[.string s] w fun e w' => ∃ N, e = .returned (.tuple #[.int .i64 0, .iface 50 (.pointer (some ⟨N, 0, none⟩))]) ∧ w.heap.size ≤ N ∧ w'.heap[N]? = some (.cells #[.string ⟨#[65, 116, 111, 105]⟩, .string s, .iface t p] 65 (0, 0)) ∧ Below w.heap.size w w' :=
      Any.strconv_Atoi_syntax_var Tryd.laysC172 s (by omega) h t p w h1
    refine hc.mono ?_
    rintro e w' ⟨N, rfl, _, _, hb⟩
    exact ⟨.inr ⟨fun v hv => (by rw [h] at hv; cases hv), _, _, _, rfl⟩, hb⟩
  · refine (Tryd.strconv_Atoi_range_var s (by omega) h t' p' w h2).mono ?_
    rintro e w' ⟨N, rfl, _, _, hb⟩
    exact ⟨.inr ⟨fun v hv => (by rw [h] at hv; cases hv), _, _, _, rfl⟩, hb⟩

set_option maxHeartbeats 1600000 in
theorem parse_nocut (s : ByteArray) (w : World) (hm : s.size ≤ 140737488355328) (he : Errs w) (h : Num.cutAt s.data.toList = none) :
    Calls Tryd.prog 8 #[.string s] w (ParsePost s.data.toList w) := by
  have HP := Lib.hid (Num.parse_none h)
  have HC := Lib.hid h
  clear h
  have hb0 := below_new (Below.refl w.heap.size w) (.cells #[.int .i64 0, .int .i64 0] 23)
  have HE := Lib.hid (he.later hb0)
  have HB := Lib.hid (Blk.new w 23 #[.int .i64 0, .int .i64 0])
  clear he
  go_enter Tryd.func8, Tryd.ntmps8
  go_wp2_with fail
  refine (cut_none _ _ HC.out).mono ?_
  rintro e w1 ⟨rfl, hb1⟩
  go_wp2_with fail
  refine (atoi_any _ _ hm (HE.out.later hb1)).mono ?_
  rintro e w2 ⟨hA, hb2⟩
  rcases hA with ⟨v, _, rfl⟩ | ⟨_, x, t, p, rfl⟩
  all_goals
    go_wp2_with fail
    refine (atoi_any _ _ (by decide) ((HE.out.later hb1).later hb2)).mono ?_
    rintro e w3 ⟨hA3, hb3⟩
    rcases hA3 with ⟨v3, hv3, _⟩ | ⟨_, x3, t3, p3, rfl⟩
    · have hv4 : Lib.atoiAll [] = .ok v3 := hv3
      simp [Lib.atoiAll] at hv4
    have hB3 := ((HB.out.later hb1).later hb2).later hb3
    have hbx := below_on (below_on (below_on hb0 hb1) hb2) hb3
    have r0 : w3.cell? ⟨w.heap.size, 0, none⟩ = some (.int .i64 0) := hB3.cell rfl
    have r1 : w3.cell? ⟨w.heap.size, 1, none⟩ = some (.int .i64 0) := hB3.cell rfl
    have rf0 := hB3.free 0
    have rf1 := hB3.free 1
    clear hB3
    go_wp2
    refine bodyPost_ret (v := .tuple #[.agg #[.int .i64 0, .int .i64 0], .int .i64 17]) (by simp [results, Tryd.results8, go_sem, r0, r1]) rfl (ParsePost.no HP.out ?_)
    exact (hbx.setCell (by simp) _).setCell (by simp) _

set_option maxHeartbeats 3200000 in
theorem parse_cutt (s : ByteArray) (x y : List UInt8) (w : World) (hm : s.size ≤ 140737488355328) (ht : Tens w) (he : Errs w) (h : Num.cutAt s.data.toList = some (x, y)) :
    Calls Tryd.prog 8 #[.string s] w (ParsePost s.data.toList w) := by
  have hl : s.data.toList.length = s.size := Array.length_toList
  have hsz : x.length + 1 ≤ s.size := by
    have h1 := congrArg List.length (Num.cutAt_some h).1
    simp at h1
    omega
  have ea : (s.extract 0 x.length).data.toList = x := by
    rw [Lib.extract_data, (Num.cutAt_some h).1]; simp
  have eb : (s.extract (x.length + 1) s.size).data.toList = y := by
    rw [Lib.extract_data, ← hl, (Num.cutAt_some h).1]; simp; exact List.take_of_length_le (by omega)
  obtain ⟨a, ha⟩ : ∃ a, s.extract 0 x.length = a := ⟨_, rfl⟩
  obtain ⟨b, hb⟩ : ∃ b, s.extract (x.length + 1) s.size = b := ⟨_, rfl⟩
  have za : a.size ≤ 140737488355328 := by rw [← ha, ByteArray.size_extract]; omega
  have zb : b.size ≤ 140737488355328 := by rw [← hb, ByteArray.size_extract]; omega
  have hcut := fun w => cut_some s a b x y w (by omega) h ha hb
  rw [ha] at ea
  rw [hb] at eb
  have HCUT := Lib.hid hcut
  have EA := Lib.hid ea
  have EB := Lib.hid eb
  have HC := Lib.hid h
  clear hcut ea eb h ha hb hl hsz
  have hb0 := below_new (Below.refl w.heap.size w) (.cells #[.int .i64 0, .int .i64 0] 23)
  have HE := Lib.hid (he.later hb0)
  have HT := Lib.hid (ht.later hb0)
  have HB := Lib.hid (Blk.new w 23 #[.int .i64 0, .int .i64 0])
  clear he ht
  go_enter Tryd.func8, Tryd.ntmps8
  go_wp2_with fail
  refine (HCUT.out _).mono ?_
  rintro e w1 ⟨rfl, hb1⟩
  go_wp2_with fail
  refine (atoi_any _ _ za (HE.out.later hb1)).mono ?_
  rintro e w2 ⟨hA, hb2⟩
  rcases hA with ⟨c, hac, rfl⟩ | ⟨hna, x2, t, p, rfl⟩
  · have HAC := Lib.hid hac
    clear hac
    go_wp2_with fail
    refine (atoi_any _ _ zb ((HE.out.later hb1).later hb2)).mono ?_
    rintro e w3 ⟨hA3, hb3⟩
    have hbx := below_on (below_on (below_on hb0 hb1) hb2) hb3
    have hB3 := ((HB.out.later hb1).later hb2).later hb3
    rcases hA3 with ⟨n, hbn, rfl⟩ | ⟨hnb, x3, t3, p3, rfl⟩
    · have HBN := Lib.hid hbn
      clear hbn
      have hcb := (Lib.atoiAll_bounds HAC.out).2
      have HB4 := Lib.hid (hB3.alloc (.cells #[.int .i64 c, .int .i64 n] 23))
      have hb4 := below_new hbx (.cells #[.int .i64 c, .int .i64 n] 23)
      have HT4 := Lib.hid (((HT.out.later hb1).later hb2).later hb3)
      clear hB3
      cases hr : St.rgt c n
      · have hp : Num.parseOf s.data.toList = none := by
          cases hq : Num.parseOf s.data.toList with
          | none => rfl
          | some q =>
            obtain ⟨c', n'⟩ := q
            obtain ⟨h1, h2⟩ := Num.parse_atoi HC.out hq
            rw [← EA.out, HAC.out] at h1
            rw [← EB.out, HBN.out] at h2
            injection h1 with h1
            injection h2 with h2
            subst h1 h2
            rw [((Num.parse_iff HC.out).1 hq).1] at hr
            cases hr
        have HP := Lib.hid hp
        have HR := Lib.hid hr
        clear hp hr
        go_wp2_with fail
        refine (show_no _ _ _ HR.out).mono ?_
        rintro e w5 ⟨rfl, hb5⟩
        have hB5 := HB4.out.later hb5
        have hbz := below_on hb4 hb5
        have r0 : w5.cell? ⟨w.heap.size, 0, none⟩ = some (.int .i64 0) := hB5.cell rfl
        have r1 : w5.cell? ⟨w.heap.size, 1, none⟩ = some (.int .i64 0) := hB5.cell rfl
        have rf0 := hB5.free 0
        have rf1 := hB5.free 1
        clear hB5
        go_wp2
        refine bodyPost_ret (v := .tuple #[.agg #[.int .i64 0, .int .i64 0], .int .i64 17]) (by simp [results, Tryd.results8, go_sem, r0, r1]) rfl (ParsePost.no HP.out ?_)
        exact (hbz.setCell (by simp) _).setCell (by simp) _
      · have HR := Lib.hid hr
        clear hr
        have hsh := show_yes c n (w3.alloc (.cells #[.int .i64 c, .int .i64 n] 23)) HR.out hcb (HT4.out.later (below_new (Below.refl _ _) _))
        have HSH := Lib.hid hsh
        clear hsh
        by_cases heq : showB c n = s.data.toList
        · have hp : Num.parseOf s.data.toList = some (c, n) := Num.parse_shown HC.out HR.out hcb heq
          have HP := Lib.hid hp
          clear hp
          have hte : (showB c n == s.toList) = true := by rw [Lib.toList_data, heq]; exact beq_self_eq_true _
          clear heq
          go_wp2_with fail
          refine HSH.out.mono ?_
          rintro e w5 ⟨rfl, hb5⟩
          have hB5 := HB4.out.later hb5
          have hbz := below_on hb4 hb5
          have q0 : w5.cell? ⟨w3.heap.size, 0, none⟩ = some (.int .i64 c) := cell_later hb5 (by go_simp)
          have q1 : w5.cell? ⟨w3.heap.size, 1, none⟩ = some (.int .i64 n) := cell_later hb5 (by go_simp)
          have r0 : w5.cell? ⟨w.heap.size, 0, none⟩ = some (.int .i64 0) := hB5.cell rfl
          have r1 : w5.cell? ⟨w.heap.size, 1, none⟩ = some (.int .i64 0) := hB5.cell rfl
          have rf0 := hB5.free 0
          have rf1 := hB5.free 1
          clear hB5
          go_wp2
          refine bodyPost_ret (v := .tuple #[.agg #[.int .i64 c, .int .i64 n], .int .i64 0]) (by simp [results, Tryd.results8, go_sem, r0, r1]) rfl (ParsePost.yes HP.out ?_)
          exact (hbz.setCell (by simp) _).setCell (by simp) _
        · have hp : Num.parseOf s.data.toList = none := by
            cases hq : Num.parseOf s.data.toList with
            | none => rfl
            | some q =>
              obtain ⟨c', n'⟩ := q
              obtain ⟨h1, h2⟩ := Num.parse_atoi HC.out hq
              rw [← EA.out, HAC.out] at h1
              rw [← EB.out, HBN.out] at h2
              injection h1 with h1
              injection h2 with h2
              subst h1 h2
              exact absurd (Num.parse_text hq).2.2 heq
          have HP := Lib.hid hp
          clear hp
          have hte : (showB c n == s.toList) = false := by rw [Lib.toList_data]; exact beq_eq_false_iff_ne.2 heq
          clear heq
          go_wp2_with fail
          refine HSH.out.mono ?_
          rintro e w5 ⟨rfl, hb5⟩
          have hB5 := HB4.out.later hb5
          have hbz := below_on hb4 hb5
          have r0 : w5.cell? ⟨w.heap.size, 0, none⟩ = some (.int .i64 0) := hB5.cell rfl
          have r1 : w5.cell? ⟨w.heap.size, 1, none⟩ = some (.int .i64 0) := hB5.cell rfl
          have rf0 := hB5.free 0
          have rf1 := hB5.free 1
          clear hB5
          go_wp2
          refine bodyPost_ret (v := .tuple #[.agg #[.int .i64 0, .int .i64 0], .int .i64 17]) (by simp [results, Tryd.results8, go_sem, r0, r1]) rfl (ParsePost.no HP.out ?_)
          exact (hbz.setCell (by simp) _).setCell (by simp) _
    · have hp : Num.parseOf s.data.toList = none := by
        cases hq : Num.parseOf s.data.toList with
        | none => rfl
        | some q =>
          obtain ⟨c', n'⟩ := q
          obtain ⟨h1, h2⟩ := Num.parse_atoi HC.out hq
          rw [← EB.out] at h2
          exact absurd h2 (hnb n')
      have HP := Lib.hid hp
      clear hp hnb
      have r0 : w3.cell? ⟨w.heap.size, 0, none⟩ = some (.int .i64 0) := hB3.cell rfl
      have r1 : w3.cell? ⟨w.heap.size, 1, none⟩ = some (.int .i64 0) := hB3.cell rfl
      have rf0 := hB3.free 0
      have rf1 := hB3.free 1
      clear hB3
      go_wp2
      refine bodyPost_ret (v := .tuple #[.agg #[.int .i64 0, .int .i64 0], .int .i64 17]) (by simp [results, Tryd.results8, go_sem, r0, r1]) rfl (ParsePost.no HP.out ?_)
      exact (hbx.setCell (by simp) _).setCell (by simp) _
  · have hp : Num.parseOf s.data.toList = none := by
      cases hq : Num.parseOf s.data.toList with
      | none => rfl
      | some q =>
        obtain ⟨c', n'⟩ := q
        obtain ⟨h1, h2⟩ := Num.parse_atoi HC.out hq
        rw [← EA.out] at h1
        exact absurd h1 (hna c')
    have HP := Lib.hid hp
    clear hp hna
    go_wp2_with fail
    refine (atoi_any _ _ zb ((HE.out.later hb1).later hb2)).mono ?_
    rintro e w3 ⟨hA3, hb3⟩
    have hbx := below_on (below_on (below_on hb0 hb1) hb2) hb3
    have hB3 := ((HB.out.later hb1).later hb2).later hb3
    rcases hA3 with ⟨n, _, rfl⟩ | ⟨_, x3, t3, p3, rfl⟩
    all_goals
      have r0 : w3.cell? ⟨w.heap.size, 0, none⟩ = some (.int .i64 0) := hB3.cell rfl
      have r1 : w3.cell? ⟨w.heap.size, 1, none⟩ = some (.int .i64 0) := hB3.cell rfl
      have rf0 := hB3.free 0
      have rf1 := hB3.free 1
      clear hB3
      go_wp2
      refine bodyPost_ret (v := .tuple #[.agg #[.int .i64 0, .int .i64 0], .int .i64 17]) (by simp [results, Tryd.results8, go_sem, r0, r1]) rfl (ParsePost.no HP.out ?_)
      exact (hbx.setCell (by simp) _).setCell (by simp) _

/-- stamp.Parse, of any text. -/
theorem parse_any (s : ByteArray) (w : World) (hm : s.size ≤ 140737488355328) (ht : Tens w) (he : Errs w) : Calls Tryd.prog 8 #[.string s] w (ParsePost s.data.toList w) := by
  cases h : Num.cutAt s.data.toList with
  | none => exact parse_nocut s w hm he h
  | some p => exact parse_cutt s p.1 p.2 w hm ht he h

end Go.Proofs.YtebnmbckkelkpaaDoor
