/-
  NoteMerged walked from note's contracts.
  For any two notes and list of stamps, the law NoteMerged returns true and leaves its arguments as they were. No condition.
-/
import Derived.Test.YtoaclofobfaflaaG17
import Derived.Test.YtoaclofobfaflaaG18
import Derived.Test.YtoaclofobfaflaaG04
import Derived.Test.YtoaclofobfaflaaG11
import Derived.Lib.QuietBelow
import Derived.Test.YtoaclofobfaflaaRows
import Derived.Test.YtoaclofobfaflaaG25
import Derived.Test.YtoaclofobfaflaaG19
import Derived.OpenShut
import Derived.WalkKit
import Derived.ProofKit
import Derived.SizedLaws
namespace Go.Proofs.Ytoaclofobfaflaa
open Go.RowKit

theorem wp_thenK {P : Program} {code : Code} {K K' : Act → World → Prop} {Q : Exit → Act → World → Prop} {a : Act} {w : World} (h : code.wp P (Exit.then K' Q) a w) (hk : ∀ a w, K' a w → K a w) : code.wp P (Exit.then K Q) a w :=
  wp_mono h fun e a w hq => by cases e <;> first | exact hk _ _ hq | exact hq

set_option maxRecDepth 100000 in
set_option maxHeartbeats 12800000 in
theorem lawNMerged_any (SP : MergeSpec) (S E B V S' E' B' V' K : Option Addr) (cs ce cb cv cs' ce' cb' cv' ck : Nat) (a b : Note) (l : List (Int × Int)) (w : World) (h1 : NoteAt w S E B V cs ce cb cv a) (h2 : NoteAt w S' E' B' V' cs' ce' cb' cv' b) (h3 : OneL w K ck l) :
    Calls Try.prog 9 #[.agg (noteCells S E B V cs ce cb cv a), .agg (noteCells S' E' B' V' cs' ce' cb' cv' b), .slice K l.length ck] w (Says (.bool true) w) := by
  have N0 := Lib.hid (fun wx => nalive_any SP.toNoteSpec wx)
  obtain ⟨W0, hW0⟩ : ∃ W0, (w.alloc (.cells (noteCells S E B V cs ce cb cv a) 26)).alloc (.cells (noteCells S' E' B' V' cs' ce' cb' cv' b) 26) = W0 := ⟨_, rfl⟩
  have b0 : Below w.heap.size w W0 := by rw [← hW0]; exact below_new (below_new (Below.refl w.heap.size w) _) _
  have hB0 : Blk W0 w.heap.size 26 (noteCells S E B V cs ce cb cv a) := by rw [← hW0]; exact (Blk.new w _ _).alloc _
  have hB1 : Blk W0 (w.heap.size + 1) 26 (noteCells S' E' B' V' cs' ce' cb' cv' b) := by
    rw [← hW0, show w.heap.size + 1 = (w.alloc (.cells (noteCells S E B V cs ce cb cv a) 26)).heap.size from by simp]
    exact Blk.new _ _ _
  obtain ⟨c0, c1, c2, c3⟩ := note_cells hB0
  obtain ⟨c4, c5, c6, c7⟩ := note_cells hB1
  have HN := Lib.hid (h1.later b0)
  have HM := Lib.hid (h2.later b0)
  have HK := Lib.hid (h3.later b0)
  have HW0 := Lib.hid hW0
  have g1 := fun wx (hx : NoteAt wx S E B V cs ce cb cv a) (hy : NoteAt wx S' E' B' V' cs' ce' cb' cv' b) => SP.merge S E B V S' E' B' V' cs ce cb cv cs' ce' cb' cv' a b wx hx hy
  have fA := fun wx (hx : NoteAt wx S E B V cs ce cb cv a) => SP.formed S E B V cs ce cb cv a wx hx
  have fB := fun wx (hx : NoteAt wx S' E' B' V' cs' ce' cb' cv' b) => SP.formed S' E' B' V' cs' ce' cb' cv' b wx hx
  clear h1 h2 h3 hB0 hB1 hW0
  by_cases hab : Nt.fmd a = true ∧ Nt.fmd b = true
  case neg =>
    have hno : Nt.merge a b = (noNote, 1) := by unfold Nt.merge; rw [if_neg hab]
    rw [hno] at g1
    have G1 := Lib.hid (fun wx (hx : NoteAt wx S E B V cs ce cb cv a) (hy : NoteAt wx S' E' B' V' cs' ce' cb' cv' b) => (show Calls Try.prog 27 #[.agg #[.slice S a.s.length cs, .slice E a.e.length ce, .slice B a.b.length cb, .slice V a.ws.length cv], .agg #[.slice S' b.s.length cs', .slice E' b.e.length ce', .slice B' b.b.length cb', .slice V' b.ws.length cv']] wx (AnsNE noNote 1 wx) from g1 wx hx hy))
    obtain ⟨xa, hxa⟩ : ∃ x, Nt.fmd a = x := ⟨_, rfl⟩
    obtain ⟨xb, hxb⟩ : ∃ x, Nt.fmd b = x := ⟨_, rfl⟩
    rw [hxa] at fA hab
    rw [hxb] at fB hab
    have FA := Lib.hid (fun wx (hx : NoteAt wx S E B V cs ce cb cv a) => (show Calls Try.prog 12 #[.agg #[.slice S a.s.length cs, .slice E a.e.length ce, .slice B a.b.length cb, .slice V a.ws.length cv]] wx (Says (.bool xa) wx) from fA wx hx))
    have FB := Lib.hid (fun wx (hx : NoteAt wx S' E' B' V' cs' ce' cb' cv' b) => (show Calls Try.prog 12 #[.agg #[.slice S' b.s.length cs', .slice E' b.e.length ce', .slice B' b.b.length cb', .slice V' b.ws.length cv']] wx (Says (.bool xb) wx) from fB wx hx))
    clear g1 fA fB hno hxa hxb
    go_enter Try.func9, Try.ntmps9
    go_wp2_with fail
    rw [HW0.out]
    refine (N0.out _).mono ?_
    rintro e w1 ⟨rfl, b1⟩
    have d0 := cell_later b1 c0
    have d1 := cell_later b1 c1
    have d2 := cell_later b1 c2
    have d3 := cell_later b1 c3
    have d4 := cell_later b1 c4
    have d5 := cell_later b1 c5
    have d6 := cell_later b1 c6
    have d7 := cell_later b1 c7
    clear N0
    go_wp2_with fail
    refine (G1.out _ (HN.out.later b1) (HM.out.later b1)).mono ?_
    rintro e w2 ⟨F1, F2, F3, F4, i1, i2, i3, i4, rfl, hX, b2⟩
    rw [show noteCells F1 F2 F3 F4 i1 i2 i3 i4 noNote = #[.slice F1 0 i1, .slice F2 0 i2, .slice F3 0 i3, .slice F4 0 i4] from rfl]
    have bA := below_new (below_on b1 b2) (.cells #[.slice F1 0 i1, .slice F2 0 i2, .slice F3 0 i3, .slice F4 0 i4] 26)
    have e0 := cell_later bA c0
    have e1 := cell_later bA c1
    have e2 := cell_later bA c2
    have e3 := cell_later bA c3
    have e4 := cell_later bA c4
    have e5 := cell_later bA c5
    have e6 := cell_later bA c6
    have e7 := cell_later bA c7
    clear d0 d1 d2 d3 d4 d5 d6 d7 G1 hX
    go_wp2_with fail
    refine (FA.out _ (HN.out.later bA)).mono ?_
    rintro e w3 ⟨rfl, b3⟩
    have bB := below_on bA b3
    cases xa with
    | false =>
      go_wp2
      go_ret
      exact ⟨rfl, below_on b0 bB⟩
    | true =>
      obtain rfl : xb = false := by cases xb <;> simp_all
      have f4 := cell_later bB c4
      have f5 := cell_later bB c5
      have f6 := cell_later bB c6
      have f7 := cell_later bB c7
      go_wp2_with fail
      refine (FB.out _ (HM.out.later bB)).mono ?_
      rintro e w4 ⟨rfl, b4⟩
      go_wp2
      go_ret
      exact ⟨rfl, below_on b0 (below_on bB b4)⟩
  case pos =>
    obtain ⟨ha, hb⟩ := hab
    have hfit := Nt.merge_fits ha hb l
    have hna := Nt.merge_news_a ha hb
    have hnb := Nt.merge_news_b ha hb
    have hba := Nt.merge_blur_a ha hb
    have hbb := Nt.merge_blur_b ha hb
    have htd := Nt.merged_told ha hb
    have hyes : Nt.merge a b = ((Nt.merge a b).1, 0) := by rw [Nt.merge_yes ha hb]
    obtain ⟨X, hX⟩ : ∃ X, (Nt.merge a b).1 = X := ⟨_, rfl⟩
    rw [hX] at hfit hna hnb hba hbb htd hyes
    rw [hyes] at g1
    have G1 := Lib.hid (fun wx (hx : NoteAt wx S E B V cs ce cb cv a) (hy : NoteAt wx S' E' B' V' cs' ce' cb' cv' b) => (show Calls Try.prog 27 #[.agg #[.slice S a.s.length cs, .slice E a.e.length ce, .slice B a.b.length cb, .slice V a.ws.length cv], .agg #[.slice S' b.s.length cs', .slice E' b.e.length ce', .slice B' b.b.length cb', .slice V' b.ws.length cv']] wx (AnsNE X 0 wx) from g1 wx hx hy))
    have qa := fun wx (hx : NoteAt wx S E B V cs ce cb cv a) (hy : OneL wx K ck l) => SP.fits S E B V K cs ce cb cv ck a l wx hx hy
    have qb := fun T ct wx (hx : NoteAt wx S' E' B' V' cs' ce' cb' cv' b) (hy : OneL wx T ct (Ve.joinL [l, a.e])) => SP.fits S' E' B' V' T cs' ce' cb' cv' ct b (Ve.joinL [l, a.e]) wx hx hy
    have qx := fun F1 F2 F3 F4 i1 i2 i3 i4 wx (hx : NoteAt wx F1 F2 F3 F4 i1 i2 i3 i4 X) (hy : OneL wx K ck l) => SP.fits F1 F2 F3 F4 K i1 i2 i3 i4 ck X l wx hx hy
    have na := fun T ct wx (hx : NoteAt wx S E B V cs ce cb cv a) (hy : OneL wx T ct X.e) => SP.news S E B V T cs ce cb cv ct a X.e wx hx hy
    have nb := fun T ct wx (hx : NoteAt wx S' E' B' V' cs' ce' cb' cv' b) (hy : OneL wx T ct X.e) => SP.news S' E' B' V' T cs' ce' cb' cv' ct b X.e wx hx hy
    rw [hna] at na
    rw [hnb] at nb
    obtain ⟨ya, hya⟩ : ∃ x, Ve.cov (Ve.cnt l) (Ve.cnt a.s) = x := ⟨_, rfl⟩
    obtain ⟨yb, hyb⟩ : ∃ x, Ve.cov (Ve.cnt (Ve.joinL [l, a.e])) (Ve.cnt b.s) = x := ⟨_, rfl⟩
    obtain ⟨yx, hyx⟩ : ∃ x, Ve.cov (Ve.cnt l) (Ve.cnt X.s) = x := ⟨_, rfl⟩
    rw [hya] at qa hfit
    rw [hyb] at qb hfit
    rw [hyx] at qx hfit
    have QA := Lib.hid (fun wx (hx : NoteAt wx S E B V cs ce cb cv a) (hy : OneL wx K ck l) => (show Calls Try.prog 14 #[.agg #[.slice S a.s.length cs, .slice E a.e.length ce, .slice B a.b.length cb, .slice V a.ws.length cv], .slice K l.length ck] wx (Says (.bool ya) wx) from qa wx hx hy))
    have QB := Lib.hid (fun T ct wx (hx : NoteAt wx S' E' B' V' cs' ce' cb' cv' b) (hy : OneL wx T ct (Ve.joinL [l, a.e])) => (show Calls Try.prog 14 #[.agg #[.slice S' b.s.length cs', .slice E' b.e.length ce', .slice B' b.b.length cb', .slice V' b.ws.length cv'], .slice T (Ve.joinL [l, a.e]).length ct] wx (Says (.bool yb) wx) from qb T ct wx hx hy))
    have QX := Lib.hid (fun F1 F2 F3 F4 i1 i2 i3 i4 wx (hx : NoteAt wx F1 F2 F3 F4 i1 i2 i3 i4 X) (hy : OneL wx K ck l) => (show Calls Try.prog 14 #[.agg #[.slice F1 X.s.length i1, .slice F2 X.e.length i2, .slice F3 X.b.length i3, .slice F4 X.ws.length i4], .slice K l.length ck] wx (Says (.bool yx) wx) from qx F1 F2 F3 F4 i1 i2 i3 i4 wx hx hy))
    have NA := Lib.hid (fun T ct wx (hx : NoteAt wx S E B V cs ce cb cv a) (hy : OneL wx T ct X.e) => (show Calls Try.prog 16 #[.agg #[.slice S a.s.length cs, .slice E a.e.length ce, .slice B a.b.length cb, .slice V a.ws.length cv], .slice T X.e.length ct] wx (Says (.bool false) wx) from na T ct wx hx hy))
    have NB := Lib.hid (fun T ct wx (hx : NoteAt wx S' E' B' V' cs' ce' cb' cv' b) (hy : OneL wx T ct X.e) => (show Calls Try.prog 16 #[.agg #[.slice S' b.s.length cs', .slice E' b.e.length ce', .slice B' b.b.length cb', .slice V' b.ws.length cv'], .slice T X.e.length ct] wx (Says (.bool false) wx) from nb T ct wx hx hy))
    have HFIT := Lib.hid hfit
    have HBA := Lib.hid hba
    have HBB := Lib.hid hbb
    have HTD := Lib.hid htd
    clear g1 fA fB hyes hX qa qb qx na nb hya hyb hyx hfit hna hnb hba hbb htd ha hb
    go_enter Try.func9, Try.ntmps9
    go_wp2_with fail
    rw [HW0.out]
    refine (N0.out _).mono ?_
    rintro e w1 ⟨rfl, b1⟩
    have d0 := cell_later b1 c0
    have d1 := cell_later b1 c1
    have d2 := cell_later b1 c2
    have d3 := cell_later b1 c3
    have d4 := cell_later b1 c4
    have d5 := cell_later b1 c5
    have d6 := cell_later b1 c6
    have d7 := cell_later b1 c7
    clear N0
    go_wp2_with fail
    refine (G1.out _ (HN.out.later b1) (HM.out.later b1)).mono ?_
    rintro e w2 ⟨F1, F2, F3, F4, i1, i2, i3, i4, rfl, hX, b2⟩
    rw [show noteCells F1 F2 F3 F4 i1 i2 i3 i4 X = #[.slice F1 X.s.length i1, .slice F2 X.e.length i2, .slice F3 X.b.length i3, .slice F4 X.ws.length i4] from rfl]
    have bA := below_new (below_on b1 b2) (.cells #[.slice F1 X.s.length i1, .slice F2 X.e.length i2, .slice F3 X.b.length i3, .slice F4 X.ws.length i4] 26)
    have hXB := Blk.new w2 26 #[.slice F1 X.s.length i1, .slice F2 X.e.length i2, .slice F3 X.b.length i3, .slice F4 X.ws.length i4]
    have hX1 := hX.later (below_new (Below.refl _ _) (.cells #[.slice F1 X.s.length i1, .slice F2 X.e.length i2, .slice F3 X.b.length i3, .slice F4 X.ws.length i4] 26))
    clear d0 d1 d2 d3 d4 d5 d6 d7 G1 hX
    go_wp2_with fail
    obtain ⟨W3, hW3⟩ : ∃ W3, w2.alloc (.cells #[.slice F1 X.s.length i1, .slice F2 X.e.length i2, .slice F3 X.b.length i3, .slice F4 X.ws.length i4] 26) = W3 := ⟨_, rfl⟩
    rw [hW3] at bA hXB hX1 ⊢
    obtain ⟨gx, hgx⟩ : ∃ gx, w2.heap.size = gx := ⟨_, rfl⟩
    rw [hgx] at hXB ⊢
    obtain ⟨⟨x0, x1, x2, x3⟩, _⟩ := nt_cells hXB
    have e0 := cell_later bA c0
    have e1 := cell_later bA c1
    have e2 := cell_later bA c2
    have e3 := cell_later bA c3
    have e4 := cell_later bA c4
    have e5 := cell_later bA c5
    have e6 := cell_later bA c6
    have e7 := cell_later bA c7
    have HN3 := Lib.hid (HN.out.later bA)
    have HM3 := Lib.hid (HM.out.later bA)
    have HK3 := Lib.hid (HK.out.later bA)
    have HX3 := Lib.hid hX1
    have BB0 := Lib.hid (below_on b0 bA)
    clear hW3 c0 c1 c2 c3 c4 c5 c6 c7 HN HM HK hX1 hXB b1 b2 bA
    have M2 := Lib.hid (fun wx (hb : Below W3.heap.size W3 wx) => (rtwo_any K E ck ce l a.e wx (HK3.out.later hb) (HN3.out.later hb).he).mono fun _ _ hg => hg.one)
    refine wp_thenK (K' := fun aa w4 => ∃ v, Below W3.heap.size W3 w4 ∧ aa = (fun vv : Nat → Value => ({ tmps := #[.agg (noteCells S E B V cs ce cb cv a), .agg (noteCells S' E' B' V' cs' ce' cb' cv' b), .slice K l.length ck, .pointer (some ⟨w.heap.size, 0, none⟩), .pointer (some ⟨w.heap.size + 1, 0, none⟩), undef, .bool false, .pointer (some ⟨gx, 0, none⟩), .int .i64 0, undef, undef, undef, undef, undef, undef, undef, undef, undef, undef, .bool true, .bool false, .tuple #[.agg #[.slice F1 X.s.length i1, .slice F2 X.e.length i2, .slice F3 X.b.length i3, .slice F4 X.ws.length i4], .int .i64 0], .agg #[.slice S a.s.length cs, .slice E a.e.length ce, .slice B a.b.length cb, .slice V a.ws.length cv], .agg #[.slice S' b.s.length cs', .slice E' b.e.length ce', .slice B' b.b.length cb', .slice V' b.ws.length cv'], .tuple #[.agg #[.slice F1 X.s.length i1, .slice F2 X.e.length i2, .slice F3 X.b.length i3, .slice F4 X.ws.length i4], .int .i64 0], .agg #[.slice F1 X.s.length i1, .slice F2 X.e.length i2, .slice F3 X.b.length i3, .slice F4 X.ws.length i4], .int .i64 0, .int .i64 0, .bool false, undef, undef, undef, undef, undef, undef, undef, undef, vv 0, vv 1, vv 2, vv 3, vv 4, vv 5, vv 6, vv 7, vv 8, vv 9, vv 10, vv 11, vv 12, vv 13, vv 14, vv 15, .bool false, undef, undef, undef, undef, undef, undef, undef, undef, undef, undef, undef, undef, undef, undef, undef, undef, undef, undef, undef, undef, undef, undef, undef, undef, undef, undef, undef, undef, undef, undef, undef, undef, undef, undef, undef, undef, undef, undef, undef, undef, undef, undef, undef, undef, undef, undef, undef, undef, undef, undef, undef, undef, undef, undef, undef, undef, undef, undef, undef, undef, undef, undef, undef, undef, undef, undef, undef, undef, undef, undef, undef, undef, undef, undef, undef, undef, undef, undef, undef, undef, undef, undef, undef, undef, undef, undef, undef, undef, undef, undef, undef, undef, undef, undef, undef, undef, undef, undef, undef, undef, undef, undef, undef, undef, undef, undef, undef, undef, undef, undef, undef, undef, undef, undef, undef, undef, undef, undef, undef, undef, undef, undef, undef], defers := [] } : Act)) v) ?six ?rest
    case six =>
      cases ya with
      | false =>
        refine wp_region_facts 16 (by kernel_rfl) (by kernel_rfl)
          (fun v => { tmps := #[.agg (noteCells S E B V cs ce cb cv a), .agg (noteCells S' E' B' V' cs' ce' cb' cv' b), .slice K l.length ck, .pointer (some ⟨w.heap.size, 0, none⟩), .pointer (some ⟨w.heap.size + 1, 0, none⟩), undef, .bool false, .pointer (some ⟨gx, 0, none⟩), .int .i64 0, undef, undef, undef, undef, undef, undef, undef, undef, undef, undef, .bool true, .bool false, .tuple #[.agg #[.slice F1 X.s.length i1, .slice F2 X.e.length i2, .slice F3 X.b.length i3, .slice F4 X.ws.length i4], .int .i64 0], .agg #[.slice S a.s.length cs, .slice E a.e.length ce, .slice B a.b.length cb, .slice V a.ws.length cv], .agg #[.slice S' b.s.length cs', .slice E' b.e.length ce', .slice B' b.b.length cb', .slice V' b.ws.length cv'], .tuple #[.agg #[.slice F1 X.s.length i1, .slice F2 X.e.length i2, .slice F3 X.b.length i3, .slice F4 X.ws.length i4], .int .i64 0], .agg #[.slice F1 X.s.length i1, .slice F2 X.e.length i2, .slice F3 X.b.length i3, .slice F4 X.ws.length i4], .int .i64 0, .int .i64 0, .bool false, undef, undef, undef, undef, undef, undef, undef, undef, v 0, v 1, v 2, v 3, v 4, v 5, v 6, v 7, v 8, v 9, v 10, v 11, v 12, v 13, v 14, v 15, undef, undef, undef, undef, undef, undef, undef, undef, undef, undef, undef, undef, undef, undef, undef, undef, undef, undef, undef, undef, undef, undef, undef, undef, undef, undef, undef, undef, undef, undef, undef, undef, undef, undef, undef, undef, undef, undef, undef, undef, undef, undef, undef, undef, undef, undef, undef, undef, undef, undef, undef, undef, undef, undef, undef, undef, undef, undef, undef, undef, undef, undef, undef, undef, undef, undef, undef, undef, undef, undef, undef, undef, undef, undef, undef, undef, undef, undef, undef, undef, undef, undef, undef, undef, undef, undef, undef, undef, undef, undef, undef, undef, undef, undef, undef, undef, undef, undef, undef, undef, undef, undef, undef, undef, undef, undef, undef, undef, undef, undef, undef, undef, undef, undef, undef, undef, undef, undef, undef, undef, undef, undef, undef, undef], defers := [] }) (fun _ => undef)
          (fun i x wx => match i with
            | 0 => x = .agg #[.slice S a.s.length cs, .slice E a.e.length ce, .slice B a.b.length cb, .slice V a.ws.length cv]
            | 1 => x = .slice K l.length ck
            | 2 => x = .bool false
            | 3 => x = .bool false
            | 4 => True
            | 5 => True
            | 6 => True
            | 7 => True
            | 8 => True
            | 9 => True
            | 10 => x = .bool false
            | 11 => x = .bool false
            | 12 => True
            | 13 => True
            | 14 => True
            | 15 => True
            | _ => True)
          (fun w1 w2 => Below w1.heap.size w1 w2) (fun h1 h2 => below_on h1 h2) (fun _ => Below.refl _ _) (Below.drew (Below.refl _ _)) ?stab ?step ?done
        case stab =>
          rintro i x w1 w2 h hb
          match i, h with
          | 0, h => exact h
          | 1, h => exact h
          | 2, h => exact h
          | 3, h => exact h
          | 4, h => trivial
          | 5, h => trivial
          | 6, h => trivial
          | 7, h => trivial
          | 8, h => trivial
          | 9, h => trivial
          | 10, h => exact h
          | 11, h => exact h
          | 12, h => trivial
          | 13, h => trivial
          | 14, h => trivial
          | 15, h => trivial
          | i + 16, _ => trivial
        case step =>
          intro i hi v w' hb hd
          match i, hi with
          | 0, _ =>
            refine wpOp_one rfl ?_
            clear hd
            have q0 := cell_later hb e0
            have q1 := cell_later hb e1
            have q2 := cell_later hb e2
            have q3 := cell_later hb e3
            go_wp2
            first | exact ⟨_, (by simp [upd]; done), Below.refl _ _, rfl⟩ | exact ⟨(by simp [upd]; done), Below.refl _ _⟩
          | 1, _ =>
            refine wpOp_one rfl ?_
            clear hd
            go_wp2
            first | exact ⟨_, (by simp [upd]; done), Below.refl _ _, rfl⟩ | exact ⟨(by simp [upd]; done), Below.refl _ _⟩
          | 2, _ =>
            have h0 : v 0 = _ := hd 0 (List.elem_iff.1 (by kernel_rfl))
            have h1 : v 1 = _ := hd 1 (List.elem_iff.1 (by kernel_rfl))
            refine wpOp_one rfl ?_
            clear hd
            rw [h0, h1]
            go_wp2_with fail
            refine (QA.out _ (HN3.out.later hb) (HK3.out.later hb)).mono ?_
            rintro e w'' ⟨rfl, b⟩
            go_wp2
            first | exact ⟨_, (by simp [upd, h0, h1]; done), b, rfl⟩ | exact ⟨(by simp [upd, h0, h1]; done), b⟩
          | 3, _ =>
            have h2 : v 2 = _ := hd 2 (List.elem_iff.1 (by kernel_rfl))
            refine wpOp_one rfl ?_
            clear hd
            rw [h2]
            go_wp2
            first | exact ⟨_, (by simp [upd, h2]; done), Below.refl _ _, rfl⟩ | exact ⟨(by simp [upd, h2]; done), Below.refl _ _⟩
          | 4, _ =>
            have h3 : v 3 = _ := hd 3 (List.elem_iff.1 (by kernel_rfl))
            refine wpOp_one rfl ?_
            clear hd
            rw [h3]
            go_wp2
            first | exact ⟨undef, (by simp [upd, h3]; done), Below.refl _ _, trivial⟩ | exact ⟨⟨undef, (by simp [upd, h3]; done)⟩, Below.refl _ _⟩
          | 5, _ =>
            have h3 : v 3 = _ := hd 3 (List.elem_iff.1 (by kernel_rfl))
            refine wpOp_one rfl ?_
            clear hd
            rw [h3]
            go_wp2
            first | exact ⟨undef, (by simp [upd, h3]; done), Below.refl _ _, trivial⟩ | exact ⟨⟨undef, (by simp [upd, h3]; done)⟩, Below.refl _ _⟩
          | 6, _ =>
            have h3 : v 3 = _ := hd 3 (List.elem_iff.1 (by kernel_rfl))
            refine wpOp_one rfl ?_
            clear hd
            rw [h3]
            go_wp2
            first | exact ⟨undef, (by simp [upd, h3]; done), Below.refl _ _, trivial⟩ | exact ⟨⟨undef, (by simp [upd, h3]; done)⟩, Below.refl _ _⟩
          | 7, _ =>
            have h3 : v 3 = _ := hd 3 (List.elem_iff.1 (by kernel_rfl))
            refine wpOp_one rfl ?_
            clear hd
            rw [h3]
            go_wp2
            first | exact ⟨undef, (by simp [upd, h3]; done), Below.refl _ _, trivial⟩ | exact ⟨⟨undef, (by simp [upd, h3]; done)⟩, Below.refl _ _⟩
          | 8, _ =>
            have h3 : v 3 = _ := hd 3 (List.elem_iff.1 (by kernel_rfl))
            refine wpOp_one rfl ?_
            clear hd
            rw [h3]
            go_wp2
            first | exact ⟨undef, (by simp [upd, h3]; done), Below.refl _ _, trivial⟩ | exact ⟨⟨undef, (by simp [upd, h3]; done)⟩, Below.refl _ _⟩
          | 9, _ =>
            have h3 : v 3 = _ := hd 3 (List.elem_iff.1 (by kernel_rfl))
            refine wpOp_one rfl ?_
            clear hd
            rw [h3]
            go_wp2
            first | exact ⟨undef, (by simp [upd, h3]; done), Below.refl _ _, trivial⟩ | exact ⟨⟨undef, (by simp [upd, h3]; done)⟩, Below.refl _ _⟩
          | 10, _ =>
            have h3 : v 3 = _ := hd 3 (List.elem_iff.1 (by kernel_rfl))
            refine wpOp_one rfl ?_
            clear hd
            rw [h3]
            go_wp2
            first | exact ⟨_, (by simp [upd, h3]; done), Below.refl _ _, rfl⟩ | exact ⟨(by simp [upd, h3]; done), Below.refl _ _⟩
          | 11, _ =>
            have h10 : v 10 = _ := hd 10 (List.elem_iff.1 (by kernel_rfl))
            refine wpOp_one rfl ?_
            clear hd
            rw [h10]
            go_wp2
            first | exact ⟨_, (by simp [upd, h10]; done), Below.refl _ _, rfl⟩ | exact ⟨(by simp [upd, h10]; done), Below.refl _ _⟩
          | 12, _ =>
            have h11 : v 11 = _ := hd 11 (List.elem_iff.1 (by kernel_rfl))
            refine wpOp_one rfl ?_
            clear hd
            rw [h11]
            go_wp2
            first | exact ⟨undef, (by simp [upd, h11]; done), Below.refl _ _, trivial⟩ | exact ⟨⟨undef, (by simp [upd, h11]; done)⟩, Below.refl _ _⟩
          | 13, _ =>
            have h11 : v 11 = _ := hd 11 (List.elem_iff.1 (by kernel_rfl))
            refine wpOp_one rfl ?_
            clear hd
            rw [h11]
            go_wp2
            first | exact ⟨undef, (by simp [upd, h11]; done), Below.refl _ _, trivial⟩ | exact ⟨⟨undef, (by simp [upd, h11]; done)⟩, Below.refl _ _⟩
          | 14, _ =>
            have h11 : v 11 = _ := hd 11 (List.elem_iff.1 (by kernel_rfl))
            refine wpOp_one rfl ?_
            clear hd
            rw [h11]
            go_wp2
            first | exact ⟨undef, (by simp [upd, h11]; done), Below.refl _ _, trivial⟩ | exact ⟨⟨undef, (by simp [upd, h11]; done)⟩, Below.refl _ _⟩
          | 15, _ =>
            have h11 : v 11 = _ := hd 11 (List.elem_iff.1 (by kernel_rfl))
            refine wpOp_one rfl ?_
            clear hd
            rw [h11]
            go_wp2
            first | exact ⟨undef, (by simp [upd, h11]; done), Below.refl _ _, trivial⟩ | exact ⟨⟨undef, (by simp [upd, h11]; done)⟩, Below.refl _ _⟩
          | k + 16, hk => exact absurd hk (by omega)
        case done =>
          intro v w4 hb hf
          have h11 : v 11 = _ := hf 11 (by omega)
          clear hf
          simp only [List.drop_succ_cons, List.drop_zero]
          rw [h11]
          go_wp2
          first | exact ⟨v, hb, by simp [h11]⟩ | exact ⟨v, by simp [h11]⟩ | exact ⟨v, by simp [h11], hb⟩ | exact ⟨⟨v, by simp [h11]⟩, hb⟩ | exact ⟨hb, v, by simp [h11]⟩
      | true =>
        cases yb with
        | false =>
          refine wp_region_facts 16 (by kernel_rfl) (by kernel_rfl)
            (fun v => { tmps := #[.agg (noteCells S E B V cs ce cb cv a), .agg (noteCells S' E' B' V' cs' ce' cb' cv' b), .slice K l.length ck, .pointer (some ⟨w.heap.size, 0, none⟩), .pointer (some ⟨w.heap.size + 1, 0, none⟩), undef, .bool false, .pointer (some ⟨gx, 0, none⟩), .int .i64 0, undef, undef, undef, undef, undef, undef, undef, undef, undef, undef, .bool true, .bool false, .tuple #[.agg #[.slice F1 X.s.length i1, .slice F2 X.e.length i2, .slice F3 X.b.length i3, .slice F4 X.ws.length i4], .int .i64 0], .agg #[.slice S a.s.length cs, .slice E a.e.length ce, .slice B a.b.length cb, .slice V a.ws.length cv], .agg #[.slice S' b.s.length cs', .slice E' b.e.length ce', .slice B' b.b.length cb', .slice V' b.ws.length cv'], .tuple #[.agg #[.slice F1 X.s.length i1, .slice F2 X.e.length i2, .slice F3 X.b.length i3, .slice F4 X.ws.length i4], .int .i64 0], .agg #[.slice F1 X.s.length i1, .slice F2 X.e.length i2, .slice F3 X.b.length i3, .slice F4 X.ws.length i4], .int .i64 0, .int .i64 0, .bool false, undef, undef, undef, undef, undef, undef, undef, undef, v 0, v 1, v 2, v 3, v 4, v 5, v 6, v 7, v 8, v 9, v 10, v 11, v 12, v 13, v 14, v 15, undef, undef, undef, undef, undef, undef, undef, undef, undef, undef, undef, undef, undef, undef, undef, undef, undef, undef, undef, undef, undef, undef, undef, undef, undef, undef, undef, undef, undef, undef, undef, undef, undef, undef, undef, undef, undef, undef, undef, undef, undef, undef, undef, undef, undef, undef, undef, undef, undef, undef, undef, undef, undef, undef, undef, undef, undef, undef, undef, undef, undef, undef, undef, undef, undef, undef, undef, undef, undef, undef, undef, undef, undef, undef, undef, undef, undef, undef, undef, undef, undef, undef, undef, undef, undef, undef, undef, undef, undef, undef, undef, undef, undef, undef, undef, undef, undef, undef, undef, undef, undef, undef, undef, undef, undef, undef, undef, undef, undef, undef, undef, undef, undef, undef, undef, undef, undef, undef, undef, undef, undef, undef, undef, undef], defers := [] }) (fun _ => undef)
            (fun i x wx => match i with
              | 0 => x = .agg #[.slice S a.s.length cs, .slice E a.e.length ce, .slice B a.b.length cb, .slice V a.ws.length cv]
              | 1 => x = .slice K l.length ck
              | 2 => x = .bool true
              | 3 => x = .bool true
              | 4 => x = .agg #[.slice S' b.s.length cs', .slice E' b.e.length ce', .slice B' b.b.length cb', .slice V' b.ws.length cv']
              | 5 => x = .slice K l.length ck
              | 6 => x = .pointer (some ⟨w.heap.size, 1, none⟩)
              | 7 => x = .slice E a.e.length ce
              | 8 => ∃ A c, x = .slice A (Ve.joinL [l, a.e]).length c ∧ OneL wx A c (Ve.joinL [l, a.e])
              | 9 => x = .bool false
              | 10 => x = .bool false
              | 11 => x = .bool false
              | 12 => True
              | 13 => True
              | 14 => True
              | 15 => True
              | _ => True)
            (fun w1 w2 => Below w1.heap.size w1 w2) (fun h1 h2 => below_on h1 h2) (fun _ => Below.refl _ _) (Below.drew (Below.refl _ _)) ?stab ?step ?done
          case stab =>
            rintro i x w1 w2 h hb
            match i, h with
            | 0, h => exact h
            | 1, h => exact h
            | 2, h => exact h
            | 3, h => exact h
            | 4, h => exact h
            | 5, h => exact h
            | 6, h => exact h
            | 7, h => exact h
            | 8, h => obtain ⟨A, c, h1, h2⟩ := h; exact ⟨A, c, h1, h2.later hb⟩
            | 9, h => exact h
            | 10, h => exact h
            | 11, h => exact h
            | 12, h => trivial
            | 13, h => trivial
            | 14, h => trivial
            | 15, h => trivial
            | i + 16, _ => trivial
          case step =>
            intro i hi v w' hb hd
            match i, hi with
            | 0, _ =>
              refine wpOp_one rfl ?_
              clear hd
              have q0 := cell_later hb e0
              have q1 := cell_later hb e1
              have q2 := cell_later hb e2
              have q3 := cell_later hb e3
              go_wp2
              first | exact ⟨_, (by simp [upd]; done), Below.refl _ _, rfl⟩ | exact ⟨(by simp [upd]; done), Below.refl _ _⟩
            | 1, _ =>
              refine wpOp_one rfl ?_
              clear hd
              go_wp2
              first | exact ⟨_, (by simp [upd]; done), Below.refl _ _, rfl⟩ | exact ⟨(by simp [upd]; done), Below.refl _ _⟩
            | 2, _ =>
              have h0 : v 0 = _ := hd 0 (List.elem_iff.1 (by kernel_rfl))
              have h1 : v 1 = _ := hd 1 (List.elem_iff.1 (by kernel_rfl))
              refine wpOp_one rfl ?_
              clear hd
              rw [h0, h1]
              go_wp2_with fail
              refine (QA.out _ (HN3.out.later hb) (HK3.out.later hb)).mono ?_
              rintro e w'' ⟨rfl, b⟩
              go_wp2
              first | exact ⟨_, (by simp [upd, h0, h1]; done), b, rfl⟩ | exact ⟨(by simp [upd, h0, h1]; done), b⟩
            | 3, _ =>
              have h2 : v 2 = _ := hd 2 (List.elem_iff.1 (by kernel_rfl))
              refine wpOp_one rfl ?_
              clear hd
              rw [h2]
              go_wp2
              first | exact ⟨_, (by simp [upd, h2]; done), Below.refl _ _, rfl⟩ | exact ⟨(by simp [upd, h2]; done), Below.refl _ _⟩
            | 4, _ =>
              have h3 : v 3 = _ := hd 3 (List.elem_iff.1 (by kernel_rfl))
              refine wpOp_one rfl ?_
              clear hd
              rw [h3]
              have q0 := cell_later hb e4
              have q1 := cell_later hb e5
              have q2 := cell_later hb e6
              have q3 := cell_later hb e7
              go_wp2
              first | exact ⟨_, (by simp [upd, h3]; done), Below.refl _ _, rfl⟩ | exact ⟨(by simp [upd, h3]; done), Below.refl _ _⟩
            | 5, _ =>
              have h3 : v 3 = _ := hd 3 (List.elem_iff.1 (by kernel_rfl))
              refine wpOp_one rfl ?_
              clear hd
              rw [h3]
              go_wp2
              first | exact ⟨_, (by simp [upd, h3]; done), Below.refl _ _, rfl⟩ | exact ⟨(by simp [upd, h3]; done), Below.refl _ _⟩
            | 6, _ =>
              have h3 : v 3 = _ := hd 3 (List.elem_iff.1 (by kernel_rfl))
              refine wpOp_one rfl ?_
              clear hd
              rw [h3]
              go_wp2
              first | exact ⟨_, (by simp [upd, h3]; done), Below.refl _ _, rfl⟩ | exact ⟨(by simp [upd, h3]; done), Below.refl _ _⟩
            | 7, _ =>
              have h6 : v 6 = _ := hd 6 (List.elem_iff.1 (by kernel_rfl))
              have h3 : v 3 = _ := hd 3 (List.elem_iff.1 (by kernel_rfl))
              refine wpOp_one rfl ?_
              clear hd
              rw [h6, h3]
              have q0 := cell_later hb e1
              go_wp2
              first | exact ⟨_, (by simp [upd, h6, h3]; done), Below.refl _ _, rfl⟩ | exact ⟨(by simp [upd, h6, h3]; done), Below.refl _ _⟩
            | 8, _ =>
              have h5 : v 5 = _ := hd 5 (List.elem_iff.1 (by kernel_rfl))
              have h7 : v 7 = _ := hd 7 (List.elem_iff.1 (by kernel_rfl))
              have h3 : v 3 = _ := hd 3 (List.elem_iff.1 (by kernel_rfl))
              refine wpOp_one rfl ?_
              clear hd
              rw [h5, h7, h3]
              go_wp2_with fail
              refine (M2.out _ hb).mono ?_
              rintro e w'' hg
              obtain ⟨A, c, rfl, ho, b⟩ := hg
              go_wp2
              exact ⟨_, (by simp [upd, h5, h7, h3]; done), b, A, c, rfl, ho⟩
            | 9, _ =>
              have h4 : v 4 = _ := hd 4 (List.elem_iff.1 (by kernel_rfl))
              obtain ⟨A8, k8, h8, o8⟩ := hd 8 (List.elem_iff.1 (by kernel_rfl))
              have h3 : v 3 = _ := hd 3 (List.elem_iff.1 (by kernel_rfl))
              refine wpOp_one rfl ?_
              clear hd
              rw [h4, h8, h3]
              go_wp2_with fail
              refine (QB.out _ _ _ (HM3.out.later hb) o8).mono ?_
              rintro e w'' ⟨rfl, b⟩
              go_wp2
              first | exact ⟨_, (by simp [upd, h4, h8, h3]; done), b, rfl⟩ | exact ⟨(by simp [upd, h4, h8, h3]; done), b⟩
            | 10, _ =>
              have h3 : v 3 = _ := hd 3 (List.elem_iff.1 (by kernel_rfl))
              have h9 : v 9 = _ := hd 9 (List.elem_iff.1 (by kernel_rfl))
              refine wpOp_one rfl ?_
              clear hd
              rw [h3, h9]
              go_wp2
              first | exact ⟨_, (by simp [upd, h3, h9]; done), Below.refl _ _, rfl⟩ | exact ⟨(by simp [upd, h3, h9]; done), Below.refl _ _⟩
            | 11, _ =>
              have h10 : v 10 = _ := hd 10 (List.elem_iff.1 (by kernel_rfl))
              refine wpOp_one rfl ?_
              clear hd
              rw [h10]
              go_wp2
              first | exact ⟨_, (by simp [upd, h10]; done), Below.refl _ _, rfl⟩ | exact ⟨(by simp [upd, h10]; done), Below.refl _ _⟩
            | 12, _ =>
              have h11 : v 11 = _ := hd 11 (List.elem_iff.1 (by kernel_rfl))
              refine wpOp_one rfl ?_
              clear hd
              rw [h11]
              go_wp2
              first | exact ⟨undef, (by simp [upd, h11]; done), Below.refl _ _, trivial⟩ | exact ⟨⟨undef, (by simp [upd, h11]; done)⟩, Below.refl _ _⟩
            | 13, _ =>
              have h11 : v 11 = _ := hd 11 (List.elem_iff.1 (by kernel_rfl))
              refine wpOp_one rfl ?_
              clear hd
              rw [h11]
              go_wp2
              first | exact ⟨undef, (by simp [upd, h11]; done), Below.refl _ _, trivial⟩ | exact ⟨⟨undef, (by simp [upd, h11]; done)⟩, Below.refl _ _⟩
            | 14, _ =>
              have h11 : v 11 = _ := hd 11 (List.elem_iff.1 (by kernel_rfl))
              refine wpOp_one rfl ?_
              clear hd
              rw [h11]
              go_wp2
              first | exact ⟨undef, (by simp [upd, h11]; done), Below.refl _ _, trivial⟩ | exact ⟨⟨undef, (by simp [upd, h11]; done)⟩, Below.refl _ _⟩
            | 15, _ =>
              have h11 : v 11 = _ := hd 11 (List.elem_iff.1 (by kernel_rfl))
              refine wpOp_one rfl ?_
              clear hd
              rw [h11]
              go_wp2
              first | exact ⟨undef, (by simp [upd, h11]; done), Below.refl _ _, trivial⟩ | exact ⟨⟨undef, (by simp [upd, h11]; done)⟩, Below.refl _ _⟩
            | k + 16, hk => exact absurd hk (by omega)
          case done =>
            intro v w4 hb hf
            have h11 : v 11 = _ := hf 11 (by omega)
            clear hf
            simp only [List.drop_succ_cons, List.drop_zero]
            rw [h11]
            go_wp2
            first | exact ⟨v, hb, by simp [h11]⟩ | exact ⟨v, by simp [h11]⟩ | exact ⟨v, by simp [h11], hb⟩ | exact ⟨⟨v, by simp [h11]⟩, hb⟩ | exact ⟨hb, v, by simp [h11]⟩
        | true =>
          obtain rfl : yx = true := HFIT.out rfl rfl
          refine wp_region_facts 16 (by kernel_rfl) (by kernel_rfl)
            (fun v => { tmps := #[.agg (noteCells S E B V cs ce cb cv a), .agg (noteCells S' E' B' V' cs' ce' cb' cv' b), .slice K l.length ck, .pointer (some ⟨w.heap.size, 0, none⟩), .pointer (some ⟨w.heap.size + 1, 0, none⟩), undef, .bool false, .pointer (some ⟨gx, 0, none⟩), .int .i64 0, undef, undef, undef, undef, undef, undef, undef, undef, undef, undef, .bool true, .bool false, .tuple #[.agg #[.slice F1 X.s.length i1, .slice F2 X.e.length i2, .slice F3 X.b.length i3, .slice F4 X.ws.length i4], .int .i64 0], .agg #[.slice S a.s.length cs, .slice E a.e.length ce, .slice B a.b.length cb, .slice V a.ws.length cv], .agg #[.slice S' b.s.length cs', .slice E' b.e.length ce', .slice B' b.b.length cb', .slice V' b.ws.length cv'], .tuple #[.agg #[.slice F1 X.s.length i1, .slice F2 X.e.length i2, .slice F3 X.b.length i3, .slice F4 X.ws.length i4], .int .i64 0], .agg #[.slice F1 X.s.length i1, .slice F2 X.e.length i2, .slice F3 X.b.length i3, .slice F4 X.ws.length i4], .int .i64 0, .int .i64 0, .bool false, undef, undef, undef, undef, undef, undef, undef, undef, v 0, v 1, v 2, v 3, v 4, v 5, v 6, v 7, v 8, v 9, v 10, v 11, v 12, v 13, v 14, v 15, undef, undef, undef, undef, undef, undef, undef, undef, undef, undef, undef, undef, undef, undef, undef, undef, undef, undef, undef, undef, undef, undef, undef, undef, undef, undef, undef, undef, undef, undef, undef, undef, undef, undef, undef, undef, undef, undef, undef, undef, undef, undef, undef, undef, undef, undef, undef, undef, undef, undef, undef, undef, undef, undef, undef, undef, undef, undef, undef, undef, undef, undef, undef, undef, undef, undef, undef, undef, undef, undef, undef, undef, undef, undef, undef, undef, undef, undef, undef, undef, undef, undef, undef, undef, undef, undef, undef, undef, undef, undef, undef, undef, undef, undef, undef, undef, undef, undef, undef, undef, undef, undef, undef, undef, undef, undef, undef, undef, undef, undef, undef, undef, undef, undef, undef, undef, undef, undef, undef, undef, undef, undef, undef, undef], defers := [] }) (fun _ => undef)
            (fun i x wx => match i with
              | 0 => x = .agg #[.slice S a.s.length cs, .slice E a.e.length ce, .slice B a.b.length cb, .slice V a.ws.length cv]
              | 1 => x = .slice K l.length ck
              | 2 => x = .bool true
              | 3 => x = .bool true
              | 4 => x = .agg #[.slice S' b.s.length cs', .slice E' b.e.length ce', .slice B' b.b.length cb', .slice V' b.ws.length cv']
              | 5 => x = .slice K l.length ck
              | 6 => x = .pointer (some ⟨w.heap.size, 1, none⟩)
              | 7 => x = .slice E a.e.length ce
              | 8 => ∃ A c, x = .slice A (Ve.joinL [l, a.e]).length c ∧ OneL wx A c (Ve.joinL [l, a.e])
              | 9 => x = .bool true
              | 10 => x = .bool true
              | 11 => x = .bool true
              | 12 => x = .agg #[.slice F1 X.s.length i1, .slice F2 X.e.length i2, .slice F3 X.b.length i3, .slice F4 X.ws.length i4]
              | 13 => x = .slice K l.length ck
              | 14 => x = .bool true
              | 15 => x = .bool false
              | _ => True)
            (fun w1 w2 => Below w1.heap.size w1 w2) (fun h1 h2 => below_on h1 h2) (fun _ => Below.refl _ _) (Below.drew (Below.refl _ _)) ?stab ?step ?done
          case stab =>
            rintro i x w1 w2 h hb
            match i, h with
            | 0, h => exact h
            | 1, h => exact h
            | 2, h => exact h
            | 3, h => exact h
            | 4, h => exact h
            | 5, h => exact h
            | 6, h => exact h
            | 7, h => exact h
            | 8, h => obtain ⟨A, c, h1, h2⟩ := h; exact ⟨A, c, h1, h2.later hb⟩
            | 9, h => exact h
            | 10, h => exact h
            | 11, h => exact h
            | 12, h => exact h
            | 13, h => exact h
            | 14, h => exact h
            | 15, h => exact h
            | i + 16, _ => trivial
          case step =>
            intro i hi v w' hb hd
            match i, hi with
            | 0, _ =>
              refine wpOp_one rfl ?_
              clear hd
              have q0 := cell_later hb e0
              have q1 := cell_later hb e1
              have q2 := cell_later hb e2
              have q3 := cell_later hb e3
              go_wp2
              first | exact ⟨_, (by simp [upd]; done), Below.refl _ _, rfl⟩ | exact ⟨(by simp [upd]; done), Below.refl _ _⟩
            | 1, _ =>
              refine wpOp_one rfl ?_
              clear hd
              go_wp2
              first | exact ⟨_, (by simp [upd]; done), Below.refl _ _, rfl⟩ | exact ⟨(by simp [upd]; done), Below.refl _ _⟩
            | 2, _ =>
              have h0 : v 0 = _ := hd 0 (List.elem_iff.1 (by kernel_rfl))
              have h1 : v 1 = _ := hd 1 (List.elem_iff.1 (by kernel_rfl))
              refine wpOp_one rfl ?_
              clear hd
              rw [h0, h1]
              go_wp2_with fail
              refine (QA.out _ (HN3.out.later hb) (HK3.out.later hb)).mono ?_
              rintro e w'' ⟨rfl, b⟩
              go_wp2
              first | exact ⟨_, (by simp [upd, h0, h1]; done), b, rfl⟩ | exact ⟨(by simp [upd, h0, h1]; done), b⟩
            | 3, _ =>
              have h2 : v 2 = _ := hd 2 (List.elem_iff.1 (by kernel_rfl))
              refine wpOp_one rfl ?_
              clear hd
              rw [h2]
              go_wp2
              first | exact ⟨_, (by simp [upd, h2]; done), Below.refl _ _, rfl⟩ | exact ⟨(by simp [upd, h2]; done), Below.refl _ _⟩
            | 4, _ =>
              have h3 : v 3 = _ := hd 3 (List.elem_iff.1 (by kernel_rfl))
              refine wpOp_one rfl ?_
              clear hd
              rw [h3]
              have q0 := cell_later hb e4
              have q1 := cell_later hb e5
              have q2 := cell_later hb e6
              have q3 := cell_later hb e7
              go_wp2
              first | exact ⟨_, (by simp [upd, h3]; done), Below.refl _ _, rfl⟩ | exact ⟨(by simp [upd, h3]; done), Below.refl _ _⟩
            | 5, _ =>
              have h3 : v 3 = _ := hd 3 (List.elem_iff.1 (by kernel_rfl))
              refine wpOp_one rfl ?_
              clear hd
              rw [h3]
              go_wp2
              first | exact ⟨_, (by simp [upd, h3]; done), Below.refl _ _, rfl⟩ | exact ⟨(by simp [upd, h3]; done), Below.refl _ _⟩
            | 6, _ =>
              have h3 : v 3 = _ := hd 3 (List.elem_iff.1 (by kernel_rfl))
              refine wpOp_one rfl ?_
              clear hd
              rw [h3]
              go_wp2
              first | exact ⟨_, (by simp [upd, h3]; done), Below.refl _ _, rfl⟩ | exact ⟨(by simp [upd, h3]; done), Below.refl _ _⟩
            | 7, _ =>
              have h6 : v 6 = _ := hd 6 (List.elem_iff.1 (by kernel_rfl))
              have h3 : v 3 = _ := hd 3 (List.elem_iff.1 (by kernel_rfl))
              refine wpOp_one rfl ?_
              clear hd
              rw [h6, h3]
              have q0 := cell_later hb e1
              go_wp2
              first | exact ⟨_, (by simp [upd, h6, h3]; done), Below.refl _ _, rfl⟩ | exact ⟨(by simp [upd, h6, h3]; done), Below.refl _ _⟩
            | 8, _ =>
              have h5 : v 5 = _ := hd 5 (List.elem_iff.1 (by kernel_rfl))
              have h7 : v 7 = _ := hd 7 (List.elem_iff.1 (by kernel_rfl))
              have h3 : v 3 = _ := hd 3 (List.elem_iff.1 (by kernel_rfl))
              refine wpOp_one rfl ?_
              clear hd
              rw [h5, h7, h3]
              go_wp2_with fail
              refine (M2.out _ hb).mono ?_
              rintro e w'' hg
              obtain ⟨A, c, rfl, ho, b⟩ := hg
              go_wp2
              exact ⟨_, (by simp [upd, h5, h7, h3]; done), b, A, c, rfl, ho⟩
            | 9, _ =>
              have h4 : v 4 = _ := hd 4 (List.elem_iff.1 (by kernel_rfl))
              obtain ⟨A8, k8, h8, o8⟩ := hd 8 (List.elem_iff.1 (by kernel_rfl))
              have h3 : v 3 = _ := hd 3 (List.elem_iff.1 (by kernel_rfl))
              refine wpOp_one rfl ?_
              clear hd
              rw [h4, h8, h3]
              go_wp2_with fail
              refine (QB.out _ _ _ (HM3.out.later hb) o8).mono ?_
              rintro e w'' ⟨rfl, b⟩
              go_wp2
              first | exact ⟨_, (by simp [upd, h4, h8, h3]; done), b, rfl⟩ | exact ⟨(by simp [upd, h4, h8, h3]; done), b⟩
            | 10, _ =>
              have h3 : v 3 = _ := hd 3 (List.elem_iff.1 (by kernel_rfl))
              have h9 : v 9 = _ := hd 9 (List.elem_iff.1 (by kernel_rfl))
              refine wpOp_one rfl ?_
              clear hd
              rw [h3, h9]
              go_wp2
              first | exact ⟨_, (by simp [upd, h3, h9]; done), Below.refl _ _, rfl⟩ | exact ⟨(by simp [upd, h3, h9]; done), Below.refl _ _⟩
            | 11, _ =>
              have h10 : v 10 = _ := hd 10 (List.elem_iff.1 (by kernel_rfl))
              refine wpOp_one rfl ?_
              clear hd
              rw [h10]
              go_wp2
              first | exact ⟨_, (by simp [upd, h10]; done), Below.refl _ _, rfl⟩ | exact ⟨(by simp [upd, h10]; done), Below.refl _ _⟩
            | 12, _ =>
              have h11 : v 11 = _ := hd 11 (List.elem_iff.1 (by kernel_rfl))
              refine wpOp_one rfl ?_
              clear hd
              rw [h11]
              have q0 := cell_later hb x0
              have q1 := cell_later hb x1
              have q2 := cell_later hb x2
              have q3 := cell_later hb x3
              go_wp2
              first | exact ⟨_, (by simp [upd, h11]; done), Below.refl _ _, rfl⟩ | exact ⟨(by simp [upd, h11]; done), Below.refl _ _⟩
            | 13, _ =>
              have h11 : v 11 = _ := hd 11 (List.elem_iff.1 (by kernel_rfl))
              refine wpOp_one rfl ?_
              clear hd
              rw [h11]
              go_wp2
              first | exact ⟨_, (by simp [upd, h11]; done), Below.refl _ _, rfl⟩ | exact ⟨(by simp [upd, h11]; done), Below.refl _ _⟩
            | 14, _ =>
              have h12 : v 12 = _ := hd 12 (List.elem_iff.1 (by kernel_rfl))
              have h13 : v 13 = _ := hd 13 (List.elem_iff.1 (by kernel_rfl))
              have h11 : v 11 = _ := hd 11 (List.elem_iff.1 (by kernel_rfl))
              refine wpOp_one rfl ?_
              clear hd
              rw [h12, h13, h11]
              go_wp2_with fail
              refine (QX.out _ _ _ _ _ _ _ _ _ (HX3.out.later hb) (HK3.out.later hb)).mono ?_
              rintro e w'' ⟨rfl, b⟩
              go_wp2
              first | exact ⟨_, (by simp [upd, h12, h13, h11]; done), b, rfl⟩ | exact ⟨(by simp [upd, h12, h13, h11]; done), b⟩
            | 15, _ =>
              have h14 : v 14 = _ := hd 14 (List.elem_iff.1 (by kernel_rfl))
              have h11 : v 11 = _ := hd 11 (List.elem_iff.1 (by kernel_rfl))
              refine wpOp_one rfl ?_
              clear hd
              rw [h14, h11]
              go_wp2
              first | exact ⟨_, (by simp [upd, h14, h11]; done), Below.refl _ _, rfl⟩ | exact ⟨(by simp [upd, h14, h11]; done), Below.refl _ _⟩
            | k + 16, hk => exact absurd hk (by omega)
          case done =>
            intro v w4 hb hf
            have h11 : v 11 = _ := hf 11 (by omega)
            have h15 : v 15 = _ := hf 15 (by omega)
            clear hf
            simp only [List.drop_succ_cons, List.drop_zero]
            rw [h11, h15]
            go_wp2
            first | exact ⟨v, hb, by simp [h11, h15]⟩ | exact ⟨v, by simp [h11, h15]⟩ | exact ⟨v, by simp [h11, h15], hb⟩ | exact ⟨⟨v, by simp [h11, h15]⟩, hb⟩ | exact ⟨hb, v, by simp [h11, h15]⟩
    case rest =>
      rintro aa w4 ⟨v, hb, rfl⟩
      have y0 := cell_later hb e0
      have y1 := cell_later hb e1
      have y2 := cell_later hb e2
      have y3 := cell_later hb e3
      have y4 := cell_later hb e4
      have y5 := cell_later hb e5
      have y6 := cell_later hb e6
      have y7 := cell_later hb e7
      have z0 := cell_later hb x0
      have z1 := cell_later hb x1
      have z2 := cell_later hb x2
      have z3 := cell_later hb x3
      have HN4 := Lib.hid (HN3.out.later hb)
      have HM4 := Lib.hid (HM3.out.later hb)
      have HX4 := Lib.hid (HX3.out.later hb)
      have BB4 := Lib.hid (below_on BB0.out hb)
      clear e0 e1 e2 e3 e4 e5 e6 e7 x0 x1 x2 x3 HN3 HM3 HX3 HK3 QA QB QX HFIT M2 BB0 hb
      go_wp2_with fail
      refine (NA.out _ _ _ HN4.out HX4.out.he).mono ?_
      rintro e w5 ⟨rfl, b5⟩
      have HM5 := Lib.hid (HM4.out.later b5)
      have HX5 := Lib.hid (HX4.out.later b5)
      have t4 := cell_later b5 y4
      have t5 := cell_later b5 y5
      have t6 := cell_later b5 y6
      have t7 := cell_later b5 y7
      have t1 := cell_later b5 z1
      go_wp2_with fail
      refine (NB.out _ _ _ HM5.out HX5.out.he).mono ?_
      rintro e w6 ⟨rfl, b6⟩
      have bb6 := below_on b5 b6
      have u2 := cell_later bb6 y2
      have v2 := cell_later bb6 z2
      have CA := scovers_any F3 B i3 cb X.b a.b w6 (HX4.out.later bb6).hb (HN4.out.later bb6).hb
      rw [HBA.out] at CA
      have HCA := Lib.hid CA
      clear CA NA NB t4 t5 t6 t7 t1 HM5 HX5
      go_wp2_with fail
      refine HCA.out.mono ?_
      rintro e w7 ⟨rfl, b7⟩
      have bb7 := below_on bb6 b7
      have u6 := cell_later bb7 y6
      have v3 := cell_later bb7 z2
      have CB := scovers_any F3 B' i3 cb' X.b b.b w7 (HX4.out.later bb7).hb (HM4.out.later bb7).hb
      rw [HBB.out] at CB
      have HCB := Lib.hid CB
      clear CB HCA u2 v2
      go_wp2_with fail
      refine HCB.out.mono ?_
      rintro e w8 ⟨rfl, b8⟩
      have bb8 := below_on bb7 b8
      have q0 := cell_later bb8 y0
      have q1 := cell_later bb8 y1
      have q2 := cell_later bb8 y2
      have q3 := cell_later bb8 y3
      have q4 := cell_later bb8 y4
      have q5 := cell_later bb8 y5
      have q6 := cell_later bb8 y6
      have q7 := cell_later bb8 y7
      have q8 := cell_later bb8 z0
      have q9 := cell_later bb8 z1
      have q10 := cell_later bb8 z2
      have q11 := cell_later bb8 z3
      have HN8 := Lib.hid (HN4.out.later bb8)
      have HM8 := Lib.hid (HM4.out.later bb8)
      have HX8 := Lib.hid (HX4.out.later bb8)
      have BB8 := Lib.hid (below_on BB4.out bb8)
      clear y0 y1 y2 y3 y4 y5 y6 y7 z0 z1 z2 z3 u6 v3 HCB HN4 HM4 HX4 HBA HBB BB4 b5 b6 b7 b8 bb6 bb7 bb8
      go_wp2_with fail
      go_loopw [9] (fun s9 wr => ∃ o : Nat, o ≤ 256 ∧ s9 = .int .i64 (o : Int) ∧ Below w8.heap.size w8 wr) (fun s9 _ => 256 - (intOf s9).toNat)
      case atStart => exact ⟨0, by omega, rfl, Below.refl _ _⟩
      case round =>
        obtain ⟨o, ho, rfl, hbq⟩ := hrel
        by_cases hlt : o < 256
        · have hi0 : (0 : Int) ≤ (o : Int) := by omega
          have hi1 : (o : Int) < 256 := by omega
          have htd := HTD.out o hlt
          have tX := fun wx (hx : NoteAt wx F1 F2 F3 F4 i1 i2 i3 i4 X) => SP.told F1 F2 F3 F4 i1 i2 i3 i4 X (o : Int) wx hx
          have tA := fun wx (hx : NoteAt wx S E B V cs ce cb cv a) => SP.told S E B V cs ce cb cv a (o : Int) wx hx
          have tB := fun wx (hx : NoteAt wx S' E' B' V' cs' ce' cb' cv' b) => SP.told S' E' B' V' cs' ce' cb' cv' b (o : Int) wx hx
          clear HTD
          rcases htd with ⟨⟨v1, v2, v3, v4⟩, ⟨x1, x2, x3, x4⟩, hv, hx, hta, htb, ⟨htx, hle⟩ | ⟨htx, hlt2⟩⟩ | ⟨⟨v1, v2, v3, v4⟩, hta, ⟨htb, htx⟩ | ⟨htb, htx⟩⟩ | ⟨⟨x1, x2, x3, x4⟩, htb, ⟨hta, htx⟩ | ⟨hta, htx⟩⟩ | ⟨sa, sb, hta, htb, htx⟩
          · clear hv hx
            have hle : x1 ≤ v1 := hle
            rw [htx] at tX
            rw [hta] at tA
            rw [htb] at tB
            have TX := Lib.hid (fun wx (hx : NoteAt wx F1 F2 F3 F4 i1 i2 i3 i4 X) => (show Calls Try.prog 23 #[.agg #[.slice F1 X.s.length i1, .slice F2 X.e.length i2, .slice F3 X.b.length i3, .slice F4 X.ws.length i4], .int .i64 (o : Int)] wx (Says (.tuple #[.agg #[.int .i64 v1, .int .i64 v2, .int .i64 v3, .bool v4], .bool true, .int .i64 0]) wx) from tX wx hx))
            have TA := Lib.hid (fun wx (hx : NoteAt wx S E B V cs ce cb cv a) => (show Calls Try.prog 23 #[.agg #[.slice S a.s.length cs, .slice E a.e.length ce, .slice B a.b.length cb, .slice V a.ws.length cv], .int .i64 (o : Int)] wx (Says (.tuple #[.agg #[.int .i64 v1, .int .i64 v2, .int .i64 v3, .bool v4], .bool true, .int .i64 0]) wx) from tA wx hx))
            have TB := Lib.hid (fun wx (hx : NoteAt wx S' E' B' V' cs' ce' cb' cv' b) => (show Calls Try.prog 23 #[.agg #[.slice S' b.s.length cs', .slice E' b.e.length ce', .slice B' b.b.length cb', .slice V' b.ws.length cv'], .int .i64 (o : Int)] wx (Says (.tuple #[.agg #[.int .i64 x1, .int .i64 x2, .int .i64 x3, .bool x4], .bool true, .int .i64 0]) wx) from tB wx hx))
            clear tX tA tB hta htb htx
            have r8 := cell_later hbq q8
            have r9 := cell_later hbq q9
            have r10 := cell_later hbq q10
            have r11 := cell_later hbq q11
            go_wp2_with fail
            refine (TX.out _ (HX8.out.later hbq)).mono ?_
            rintro e w9 ⟨rfl, b9⟩
            have bA := below_new (below_on hbq b9) (.cells #[.int .i64 v1, .int .i64 v2, .int .i64 v3, .bool v4] 35)
            have hX := Blk.new w9 35 #[.int .i64 v1, .int .i64 v2, .int .i64 v3, .bool v4]
            have r0 := cell_later bA q0
            have r1 := cell_later bA q1
            have r2 := cell_later bA q2
            have r3 := cell_later bA q3
            clear TX r8 r9 r10 r11
            go_wp2_with fail
            refine (TA.out _ (HN8.out.later bA)).mono ?_
            rintro e w10 ⟨rfl, b10⟩
            have bB := below_new (below_on bA b10) (.cells #[.int .i64 v1, .int .i64 v2, .int .i64 v3, .bool v4] 35)
            have hX2 := (hX.later b10).alloc (.cells #[.int .i64 v1, .int .i64 v2, .int .i64 v3, .bool v4] 35)
            have hA := Blk.new w10 35 #[.int .i64 v1, .int .i64 v2, .int .i64 v3, .bool v4]
            have r4 := cell_later bB q4
            have r5 := cell_later bB q5
            have r6 := cell_later bB q6
            have r7 := cell_later bB q7
            clear TA r0 r1 r2 r3 hX
            go_wp2_with fail
            refine (TB.out _ (HM8.out.later bB)).mono ?_
            rintro e w11 ⟨rfl, b11⟩
            have bC := below_new (below_on bB b11) (.cells #[.int .i64 x1, .int .i64 x2, .int .i64 x3, .bool x4] 35)
            have hX3 := (hX2.later b11).alloc (.cells #[.int .i64 x1, .int .i64 x2, .int .i64 x3, .bool x4] 35)
            have hA3 := (hA.later b11).alloc (.cells #[.int .i64 x1, .int .i64 x2, .int .i64 x3, .bool x4] 35)
            have hB3 := Blk.new w11 35 #[.int .i64 x1, .int .i64 x2, .int .i64 x3, .bool x4]
            obtain ⟨⟨m0, m1, m2, m3⟩, _⟩ := nt_cells hX3
            obtain ⟨⟨m4, m5, m6, m7⟩, _⟩ := nt_cells hA3
            obtain ⟨⟨m8, m9, m10, m11⟩, _⟩ := nt_cells hB3
            clear TB r4 r5 r6 r7 hX2 hA hX3 hA3 hB3
            go_wp2_with fail
            go_roundw
            case rel => exact ⟨o + 1, by omega, by go_num, bC⟩
            case measure => simp [intOf]; omega
          · clear hv hx
            rcases (show v1 < x1 ∨ (v1 = x1 ∧ v2 < x2) from hlt2) with hc | ⟨hc1, hc⟩
            · have hne : (x1 == v1) = false := beq_eq_false_iff_ne.2 (by omega)
              have hle : v1 ≤ x1 := by omega
              rw [htx] at tX
              rw [hta] at tA
              rw [htb] at tB
              have TX := Lib.hid (fun wx (hx : NoteAt wx F1 F2 F3 F4 i1 i2 i3 i4 X) => (show Calls Try.prog 23 #[.agg #[.slice F1 X.s.length i1, .slice F2 X.e.length i2, .slice F3 X.b.length i3, .slice F4 X.ws.length i4], .int .i64 (o : Int)] wx (Says (.tuple #[.agg #[.int .i64 x1, .int .i64 x2, .int .i64 x3, .bool x4], .bool true, .int .i64 0]) wx) from tX wx hx))
              have TA := Lib.hid (fun wx (hx : NoteAt wx S E B V cs ce cb cv a) => (show Calls Try.prog 23 #[.agg #[.slice S a.s.length cs, .slice E a.e.length ce, .slice B a.b.length cb, .slice V a.ws.length cv], .int .i64 (o : Int)] wx (Says (.tuple #[.agg #[.int .i64 v1, .int .i64 v2, .int .i64 v3, .bool v4], .bool true, .int .i64 0]) wx) from tA wx hx))
              have TB := Lib.hid (fun wx (hx : NoteAt wx S' E' B' V' cs' ce' cb' cv' b) => (show Calls Try.prog 23 #[.agg #[.slice S' b.s.length cs', .slice E' b.e.length ce', .slice B' b.b.length cb', .slice V' b.ws.length cv'], .int .i64 (o : Int)] wx (Says (.tuple #[.agg #[.int .i64 x1, .int .i64 x2, .int .i64 x3, .bool x4], .bool true, .int .i64 0]) wx) from tB wx hx))
              clear tX tA tB hta htb htx
              have r8 := cell_later hbq q8
              have r9 := cell_later hbq q9
              have r10 := cell_later hbq q10
              have r11 := cell_later hbq q11
              go_wp2_with fail
              refine (TX.out _ (HX8.out.later hbq)).mono ?_
              rintro e w9 ⟨rfl, b9⟩
              have bA := below_new (below_on hbq b9) (.cells #[.int .i64 x1, .int .i64 x2, .int .i64 x3, .bool x4] 35)
              have hX := Blk.new w9 35 #[.int .i64 x1, .int .i64 x2, .int .i64 x3, .bool x4]
              have r0 := cell_later bA q0
              have r1 := cell_later bA q1
              have r2 := cell_later bA q2
              have r3 := cell_later bA q3
              clear TX r8 r9 r10 r11
              go_wp2_with fail
              refine (TA.out _ (HN8.out.later bA)).mono ?_
              rintro e w10 ⟨rfl, b10⟩
              have bB := below_new (below_on bA b10) (.cells #[.int .i64 v1, .int .i64 v2, .int .i64 v3, .bool v4] 35)
              have hX2 := (hX.later b10).alloc (.cells #[.int .i64 v1, .int .i64 v2, .int .i64 v3, .bool v4] 35)
              have hA := Blk.new w10 35 #[.int .i64 v1, .int .i64 v2, .int .i64 v3, .bool v4]
              have r4 := cell_later bB q4
              have r5 := cell_later bB q5
              have r6 := cell_later bB q6
              have r7 := cell_later bB q7
              clear TA r0 r1 r2 r3 hX
              go_wp2_with fail
              refine (TB.out _ (HM8.out.later bB)).mono ?_
              rintro e w11 ⟨rfl, b11⟩
              have bC := below_new (below_on bB b11) (.cells #[.int .i64 x1, .int .i64 x2, .int .i64 x3, .bool x4] 35)
              have hX3 := (hX2.later b11).alloc (.cells #[.int .i64 x1, .int .i64 x2, .int .i64 x3, .bool x4] 35)
              have hA3 := (hA.later b11).alloc (.cells #[.int .i64 x1, .int .i64 x2, .int .i64 x3, .bool x4] 35)
              have hB3 := Blk.new w11 35 #[.int .i64 x1, .int .i64 x2, .int .i64 x3, .bool x4]
              obtain ⟨⟨m0, m1, m2, m3⟩, _⟩ := nt_cells hX3
              obtain ⟨⟨m4, m5, m6, m7⟩, _⟩ := nt_cells hA3
              obtain ⟨⟨m8, m9, m10, m11⟩, _⟩ := nt_cells hB3
              clear TB r4 r5 r6 r7 hX2 hA hX3 hA3 hB3
              go_wp2_with fail
              go_roundw
              case rel => exact ⟨o + 1, by omega, by go_num, bC⟩
              case measure => simp [intOf]; omega
            · subst hc1
              have hne : (x2 == v2) = false := beq_eq_false_iff_ne.2 (by omega)
              rw [htx] at tX
              rw [hta] at tA
              rw [htb] at tB
              have TX := Lib.hid (fun wx (hx : NoteAt wx F1 F2 F3 F4 i1 i2 i3 i4 X) => (show Calls Try.prog 23 #[.agg #[.slice F1 X.s.length i1, .slice F2 X.e.length i2, .slice F3 X.b.length i3, .slice F4 X.ws.length i4], .int .i64 (o : Int)] wx (Says (.tuple #[.agg #[.int .i64 v1, .int .i64 x2, .int .i64 x3, .bool x4], .bool true, .int .i64 0]) wx) from tX wx hx))
              have TA := Lib.hid (fun wx (hx : NoteAt wx S E B V cs ce cb cv a) => (show Calls Try.prog 23 #[.agg #[.slice S a.s.length cs, .slice E a.e.length ce, .slice B a.b.length cb, .slice V a.ws.length cv], .int .i64 (o : Int)] wx (Says (.tuple #[.agg #[.int .i64 v1, .int .i64 v2, .int .i64 v3, .bool v4], .bool true, .int .i64 0]) wx) from tA wx hx))
              have TB := Lib.hid (fun wx (hx : NoteAt wx S' E' B' V' cs' ce' cb' cv' b) => (show Calls Try.prog 23 #[.agg #[.slice S' b.s.length cs', .slice E' b.e.length ce', .slice B' b.b.length cb', .slice V' b.ws.length cv'], .int .i64 (o : Int)] wx (Says (.tuple #[.agg #[.int .i64 v1, .int .i64 x2, .int .i64 x3, .bool x4], .bool true, .int .i64 0]) wx) from tB wx hx))
              clear tX tA tB hta htb htx
              have r8 := cell_later hbq q8
              have r9 := cell_later hbq q9
              have r10 := cell_later hbq q10
              have r11 := cell_later hbq q11
              go_wp2_with fail
              refine (TX.out _ (HX8.out.later hbq)).mono ?_
              rintro e w9 ⟨rfl, b9⟩
              have bA := below_new (below_on hbq b9) (.cells #[.int .i64 v1, .int .i64 x2, .int .i64 x3, .bool x4] 35)
              have hX := Blk.new w9 35 #[.int .i64 v1, .int .i64 x2, .int .i64 x3, .bool x4]
              have r0 := cell_later bA q0
              have r1 := cell_later bA q1
              have r2 := cell_later bA q2
              have r3 := cell_later bA q3
              clear TX r8 r9 r10 r11
              go_wp2_with fail
              refine (TA.out _ (HN8.out.later bA)).mono ?_
              rintro e w10 ⟨rfl, b10⟩
              have bB := below_new (below_on bA b10) (.cells #[.int .i64 v1, .int .i64 v2, .int .i64 v3, .bool v4] 35)
              have hX2 := (hX.later b10).alloc (.cells #[.int .i64 v1, .int .i64 v2, .int .i64 v3, .bool v4] 35)
              have hA := Blk.new w10 35 #[.int .i64 v1, .int .i64 v2, .int .i64 v3, .bool v4]
              have r4 := cell_later bB q4
              have r5 := cell_later bB q5
              have r6 := cell_later bB q6
              have r7 := cell_later bB q7
              clear TA r0 r1 r2 r3 hX
              go_wp2_with fail
              refine (TB.out _ (HM8.out.later bB)).mono ?_
              rintro e w11 ⟨rfl, b11⟩
              have bC := below_new (below_on bB b11) (.cells #[.int .i64 v1, .int .i64 x2, .int .i64 x3, .bool x4] 35)
              have hX3 := (hX2.later b11).alloc (.cells #[.int .i64 v1, .int .i64 x2, .int .i64 x3, .bool x4] 35)
              have hA3 := (hA.later b11).alloc (.cells #[.int .i64 v1, .int .i64 x2, .int .i64 x3, .bool x4] 35)
              have hB3 := Blk.new w11 35 #[.int .i64 v1, .int .i64 x2, .int .i64 x3, .bool x4]
              obtain ⟨⟨m0, m1, m2, m3⟩, _⟩ := nt_cells hX3
              obtain ⟨⟨m4, m5, m6, m7⟩, _⟩ := nt_cells hA3
              obtain ⟨⟨m8, m9, m10, m11⟩, _⟩ := nt_cells hB3
              clear TB r4 r5 r6 r7 hX2 hA hX3 hA3 hB3
              go_wp2_with fail
              go_roundw
              case rel => exact ⟨o + 1, by omega, by go_num, bC⟩
              case measure => simp [intOf]; omega
          · rw [htx] at tX
            rw [hta] at tA
            rw [htb] at tB
            have TX := Lib.hid (fun wx (hx : NoteAt wx F1 F2 F3 F4 i1 i2 i3 i4 X) => (show Calls Try.prog 23 #[.agg #[.slice F1 X.s.length i1, .slice F2 X.e.length i2, .slice F3 X.b.length i3, .slice F4 X.ws.length i4], .int .i64 (o : Int)] wx (Says (.tuple #[.agg #[.int .i64 v1, .int .i64 v2, .int .i64 v3, .bool v4], .bool true, .int .i64 0]) wx) from tX wx hx))
            have TA := Lib.hid (fun wx (hx : NoteAt wx S E B V cs ce cb cv a) => (show Calls Try.prog 23 #[.agg #[.slice S a.s.length cs, .slice E a.e.length ce, .slice B a.b.length cb, .slice V a.ws.length cv], .int .i64 (o : Int)] wx (Says (.tuple #[.agg #[.int .i64 v1, .int .i64 v2, .int .i64 v3, .bool v4], .bool true, .int .i64 0]) wx) from tA wx hx))
            have TB := Lib.hid (fun wx (hx : NoteAt wx S' E' B' V' cs' ce' cb' cv' b) => (show Calls Try.prog 23 #[.agg #[.slice S' b.s.length cs', .slice E' b.e.length ce', .slice B' b.b.length cb', .slice V' b.ws.length cv'], .int .i64 (o : Int)] wx (Says (.tuple #[.agg #[.int .i64 0, .int .i64 0, .int .i64 0, .bool false], .bool true, .int .i64 8]) wx) from tB wx hx))
            clear tX tA tB hta htb htx
            have r8 := cell_later hbq q8
            have r9 := cell_later hbq q9
            have r10 := cell_later hbq q10
            have r11 := cell_later hbq q11
            go_wp2_with fail
            refine (TX.out _ (HX8.out.later hbq)).mono ?_
            rintro e w9 ⟨rfl, b9⟩
            have bA := below_new (below_on hbq b9) (.cells #[.int .i64 v1, .int .i64 v2, .int .i64 v3, .bool v4] 35)
            have hX := Blk.new w9 35 #[.int .i64 v1, .int .i64 v2, .int .i64 v3, .bool v4]
            have r0 := cell_later bA q0
            have r1 := cell_later bA q1
            have r2 := cell_later bA q2
            have r3 := cell_later bA q3
            clear TX r8 r9 r10 r11
            go_wp2_with fail
            refine (TA.out _ (HN8.out.later bA)).mono ?_
            rintro e w10 ⟨rfl, b10⟩
            have bB := below_new (below_on bA b10) (.cells #[.int .i64 v1, .int .i64 v2, .int .i64 v3, .bool v4] 35)
            have hX2 := (hX.later b10).alloc (.cells #[.int .i64 v1, .int .i64 v2, .int .i64 v3, .bool v4] 35)
            have hA := Blk.new w10 35 #[.int .i64 v1, .int .i64 v2, .int .i64 v3, .bool v4]
            have r4 := cell_later bB q4
            have r5 := cell_later bB q5
            have r6 := cell_later bB q6
            have r7 := cell_later bB q7
            clear TA r0 r1 r2 r3 hX
            go_wp2_with fail
            refine (TB.out _ (HM8.out.later bB)).mono ?_
            rintro e w11 ⟨rfl, b11⟩
            have bC := below_new (below_on bB b11) (.cells #[.int .i64 0, .int .i64 0, .int .i64 0, .bool false] 35)
            have hX3 := (hX2.later b11).alloc (.cells #[.int .i64 0, .int .i64 0, .int .i64 0, .bool false] 35)
            have hA3 := (hA.later b11).alloc (.cells #[.int .i64 0, .int .i64 0, .int .i64 0, .bool false] 35)
            have hB3 := Blk.new w11 35 #[.int .i64 0, .int .i64 0, .int .i64 0, .bool false]
            obtain ⟨⟨m0, m1, m2, m3⟩, _⟩ := nt_cells hX3
            obtain ⟨⟨m4, m5, m6, m7⟩, _⟩ := nt_cells hA3
            obtain ⟨⟨m8, m9, m10, m11⟩, _⟩ := nt_cells hB3
            clear TB r4 r5 r6 r7 hX2 hA hX3 hA3 hB3
            go_wp2_with fail
            go_roundw
            case rel => exact ⟨o + 1, by omega, by go_num, bC⟩
            case measure => simp [intOf]; omega
          · rw [htx] at tX
            rw [hta] at tA
            rw [htb] at tB
            have TX := Lib.hid (fun wx (hx : NoteAt wx F1 F2 F3 F4 i1 i2 i3 i4 X) => (show Calls Try.prog 23 #[.agg #[.slice F1 X.s.length i1, .slice F2 X.e.length i2, .slice F3 X.b.length i3, .slice F4 X.ws.length i4], .int .i64 (o : Int)] wx (Says (.tuple #[.agg #[.int .i64 0, .int .i64 0, .int .i64 0, .bool false], .bool false, .int .i64 8]) wx) from tX wx hx))
            have TA := Lib.hid (fun wx (hx : NoteAt wx S E B V cs ce cb cv a) => (show Calls Try.prog 23 #[.agg #[.slice S a.s.length cs, .slice E a.e.length ce, .slice B a.b.length cb, .slice V a.ws.length cv], .int .i64 (o : Int)] wx (Says (.tuple #[.agg #[.int .i64 v1, .int .i64 v2, .int .i64 v3, .bool v4], .bool true, .int .i64 0]) wx) from tA wx hx))
            have TB := Lib.hid (fun wx (hx : NoteAt wx S' E' B' V' cs' ce' cb' cv' b) => (show Calls Try.prog 23 #[.agg #[.slice S' b.s.length cs', .slice E' b.e.length ce', .slice B' b.b.length cb', .slice V' b.ws.length cv'], .int .i64 (o : Int)] wx (Says (.tuple #[.agg #[.int .i64 0, .int .i64 0, .int .i64 0, .bool false], .bool false, .int .i64 8]) wx) from tB wx hx))
            clear tX tA tB hta htb htx
            have r8 := cell_later hbq q8
            have r9 := cell_later hbq q9
            have r10 := cell_later hbq q10
            have r11 := cell_later hbq q11
            go_wp2_with fail
            refine (TX.out _ (HX8.out.later hbq)).mono ?_
            rintro e w9 ⟨rfl, b9⟩
            have bA := below_new (below_on hbq b9) (.cells #[.int .i64 0, .int .i64 0, .int .i64 0, .bool false] 35)
            have hX := Blk.new w9 35 #[.int .i64 0, .int .i64 0, .int .i64 0, .bool false]
            have r0 := cell_later bA q0
            have r1 := cell_later bA q1
            have r2 := cell_later bA q2
            have r3 := cell_later bA q3
            clear TX r8 r9 r10 r11
            go_wp2_with fail
            refine (TA.out _ (HN8.out.later bA)).mono ?_
            rintro e w10 ⟨rfl, b10⟩
            have bB := below_new (below_on bA b10) (.cells #[.int .i64 v1, .int .i64 v2, .int .i64 v3, .bool v4] 35)
            have hX2 := (hX.later b10).alloc (.cells #[.int .i64 v1, .int .i64 v2, .int .i64 v3, .bool v4] 35)
            have hA := Blk.new w10 35 #[.int .i64 v1, .int .i64 v2, .int .i64 v3, .bool v4]
            have r4 := cell_later bB q4
            have r5 := cell_later bB q5
            have r6 := cell_later bB q6
            have r7 := cell_later bB q7
            clear TA r0 r1 r2 r3 hX
            go_wp2_with fail
            refine (TB.out _ (HM8.out.later bB)).mono ?_
            rintro e w11 ⟨rfl, b11⟩
            have bC := below_new (below_on bB b11) (.cells #[.int .i64 0, .int .i64 0, .int .i64 0, .bool false] 35)
            have hX3 := (hX2.later b11).alloc (.cells #[.int .i64 0, .int .i64 0, .int .i64 0, .bool false] 35)
            have hA3 := (hA.later b11).alloc (.cells #[.int .i64 0, .int .i64 0, .int .i64 0, .bool false] 35)
            have hB3 := Blk.new w11 35 #[.int .i64 0, .int .i64 0, .int .i64 0, .bool false]
            obtain ⟨⟨m0, m1, m2, m3⟩, _⟩ := nt_cells hX3
            obtain ⟨⟨m4, m5, m6, m7⟩, _⟩ := nt_cells hA3
            obtain ⟨⟨m8, m9, m10, m11⟩, _⟩ := nt_cells hB3
            clear TB r4 r5 r6 r7 hX2 hA hX3 hA3 hB3
            go_wp2_with fail
            go_roundw
            case rel => exact ⟨o + 1, by omega, by go_num, bC⟩
            case measure => simp [intOf]; omega
          · rw [htx] at tX
            rw [hta] at tA
            rw [htb] at tB
            have TX := Lib.hid (fun wx (hx : NoteAt wx F1 F2 F3 F4 i1 i2 i3 i4 X) => (show Calls Try.prog 23 #[.agg #[.slice F1 X.s.length i1, .slice F2 X.e.length i2, .slice F3 X.b.length i3, .slice F4 X.ws.length i4], .int .i64 (o : Int)] wx (Says (.tuple #[.agg #[.int .i64 x1, .int .i64 x2, .int .i64 x3, .bool x4], .bool true, .int .i64 0]) wx) from tX wx hx))
            have TA := Lib.hid (fun wx (hx : NoteAt wx S E B V cs ce cb cv a) => (show Calls Try.prog 23 #[.agg #[.slice S a.s.length cs, .slice E a.e.length ce, .slice B a.b.length cb, .slice V a.ws.length cv], .int .i64 (o : Int)] wx (Says (.tuple #[.agg #[.int .i64 0, .int .i64 0, .int .i64 0, .bool false], .bool true, .int .i64 8]) wx) from tA wx hx))
            have TB := Lib.hid (fun wx (hx : NoteAt wx S' E' B' V' cs' ce' cb' cv' b) => (show Calls Try.prog 23 #[.agg #[.slice S' b.s.length cs', .slice E' b.e.length ce', .slice B' b.b.length cb', .slice V' b.ws.length cv'], .int .i64 (o : Int)] wx (Says (.tuple #[.agg #[.int .i64 x1, .int .i64 x2, .int .i64 x3, .bool x4], .bool true, .int .i64 0]) wx) from tB wx hx))
            clear tX tA tB hta htb htx
            have r8 := cell_later hbq q8
            have r9 := cell_later hbq q9
            have r10 := cell_later hbq q10
            have r11 := cell_later hbq q11
            go_wp2_with fail
            refine (TX.out _ (HX8.out.later hbq)).mono ?_
            rintro e w9 ⟨rfl, b9⟩
            have bA := below_new (below_on hbq b9) (.cells #[.int .i64 x1, .int .i64 x2, .int .i64 x3, .bool x4] 35)
            have hX := Blk.new w9 35 #[.int .i64 x1, .int .i64 x2, .int .i64 x3, .bool x4]
            have r0 := cell_later bA q0
            have r1 := cell_later bA q1
            have r2 := cell_later bA q2
            have r3 := cell_later bA q3
            clear TX r8 r9 r10 r11
            go_wp2_with fail
            refine (TA.out _ (HN8.out.later bA)).mono ?_
            rintro e w10 ⟨rfl, b10⟩
            have bB := below_new (below_on bA b10) (.cells #[.int .i64 0, .int .i64 0, .int .i64 0, .bool false] 35)
            have hX2 := (hX.later b10).alloc (.cells #[.int .i64 0, .int .i64 0, .int .i64 0, .bool false] 35)
            have hA := Blk.new w10 35 #[.int .i64 0, .int .i64 0, .int .i64 0, .bool false]
            have r4 := cell_later bB q4
            have r5 := cell_later bB q5
            have r6 := cell_later bB q6
            have r7 := cell_later bB q7
            clear TA r0 r1 r2 r3 hX
            go_wp2_with fail
            refine (TB.out _ (HM8.out.later bB)).mono ?_
            rintro e w11 ⟨rfl, b11⟩
            have bC := below_new (below_on bB b11) (.cells #[.int .i64 x1, .int .i64 x2, .int .i64 x3, .bool x4] 35)
            have hX3 := (hX2.later b11).alloc (.cells #[.int .i64 x1, .int .i64 x2, .int .i64 x3, .bool x4] 35)
            have hA3 := (hA.later b11).alloc (.cells #[.int .i64 x1, .int .i64 x2, .int .i64 x3, .bool x4] 35)
            have hB3 := Blk.new w11 35 #[.int .i64 x1, .int .i64 x2, .int .i64 x3, .bool x4]
            obtain ⟨⟨m0, m1, m2, m3⟩, _⟩ := nt_cells hX3
            obtain ⟨⟨m4, m5, m6, m7⟩, _⟩ := nt_cells hA3
            obtain ⟨⟨m8, m9, m10, m11⟩, _⟩ := nt_cells hB3
            clear TB r4 r5 r6 r7 hX2 hA hX3 hA3 hB3
            go_wp2_with fail
            go_roundw
            case rel => exact ⟨o + 1, by omega, by go_num, bC⟩
            case measure => simp [intOf]; omega
          · rw [htx] at tX
            rw [hta] at tA
            rw [htb] at tB
            have TX := Lib.hid (fun wx (hx : NoteAt wx F1 F2 F3 F4 i1 i2 i3 i4 X) => (show Calls Try.prog 23 #[.agg #[.slice F1 X.s.length i1, .slice F2 X.e.length i2, .slice F3 X.b.length i3, .slice F4 X.ws.length i4], .int .i64 (o : Int)] wx (Says (.tuple #[.agg #[.int .i64 0, .int .i64 0, .int .i64 0, .bool false], .bool false, .int .i64 8]) wx) from tX wx hx))
            have TA := Lib.hid (fun wx (hx : NoteAt wx S E B V cs ce cb cv a) => (show Calls Try.prog 23 #[.agg #[.slice S a.s.length cs, .slice E a.e.length ce, .slice B a.b.length cb, .slice V a.ws.length cv], .int .i64 (o : Int)] wx (Says (.tuple #[.agg #[.int .i64 0, .int .i64 0, .int .i64 0, .bool false], .bool false, .int .i64 8]) wx) from tA wx hx))
            have TB := Lib.hid (fun wx (hx : NoteAt wx S' E' B' V' cs' ce' cb' cv' b) => (show Calls Try.prog 23 #[.agg #[.slice S' b.s.length cs', .slice E' b.e.length ce', .slice B' b.b.length cb', .slice V' b.ws.length cv'], .int .i64 (o : Int)] wx (Says (.tuple #[.agg #[.int .i64 x1, .int .i64 x2, .int .i64 x3, .bool x4], .bool true, .int .i64 0]) wx) from tB wx hx))
            clear tX tA tB hta htb htx
            have r8 := cell_later hbq q8
            have r9 := cell_later hbq q9
            have r10 := cell_later hbq q10
            have r11 := cell_later hbq q11
            go_wp2_with fail
            refine (TX.out _ (HX8.out.later hbq)).mono ?_
            rintro e w9 ⟨rfl, b9⟩
            have bA := below_new (below_on hbq b9) (.cells #[.int .i64 0, .int .i64 0, .int .i64 0, .bool false] 35)
            have hX := Blk.new w9 35 #[.int .i64 0, .int .i64 0, .int .i64 0, .bool false]
            have r0 := cell_later bA q0
            have r1 := cell_later bA q1
            have r2 := cell_later bA q2
            have r3 := cell_later bA q3
            clear TX r8 r9 r10 r11
            go_wp2_with fail
            refine (TA.out _ (HN8.out.later bA)).mono ?_
            rintro e w10 ⟨rfl, b10⟩
            have bB := below_new (below_on bA b10) (.cells #[.int .i64 0, .int .i64 0, .int .i64 0, .bool false] 35)
            have hX2 := (hX.later b10).alloc (.cells #[.int .i64 0, .int .i64 0, .int .i64 0, .bool false] 35)
            have hA := Blk.new w10 35 #[.int .i64 0, .int .i64 0, .int .i64 0, .bool false]
            have r4 := cell_later bB q4
            have r5 := cell_later bB q5
            have r6 := cell_later bB q6
            have r7 := cell_later bB q7
            clear TA r0 r1 r2 r3 hX
            go_wp2_with fail
            refine (TB.out _ (HM8.out.later bB)).mono ?_
            rintro e w11 ⟨rfl, b11⟩
            have bC := below_new (below_on bB b11) (.cells #[.int .i64 x1, .int .i64 x2, .int .i64 x3, .bool x4] 35)
            have hX3 := (hX2.later b11).alloc (.cells #[.int .i64 x1, .int .i64 x2, .int .i64 x3, .bool x4] 35)
            have hA3 := (hA.later b11).alloc (.cells #[.int .i64 x1, .int .i64 x2, .int .i64 x3, .bool x4] 35)
            have hB3 := Blk.new w11 35 #[.int .i64 x1, .int .i64 x2, .int .i64 x3, .bool x4]
            obtain ⟨⟨m0, m1, m2, m3⟩, _⟩ := nt_cells hX3
            obtain ⟨⟨m4, m5, m6, m7⟩, _⟩ := nt_cells hA3
            obtain ⟨⟨m8, m9, m10, m11⟩, _⟩ := nt_cells hB3
            clear TB r4 r5 r6 r7 hX2 hA hX3 hA3 hB3
            go_wp2_with fail
            go_roundw
            case rel => exact ⟨o + 1, by omega, by go_num, bC⟩
            case measure => simp [intOf]; omega
          · cases sa
            · cases sb
              · rw [htx] at tX
                rw [hta] at tA
                rw [htb] at tB
                have TX := Lib.hid (fun wx (hx : NoteAt wx F1 F2 F3 F4 i1 i2 i3 i4 X) => (show Calls Try.prog 23 #[.agg #[.slice F1 X.s.length i1, .slice F2 X.e.length i2, .slice F3 X.b.length i3, .slice F4 X.ws.length i4], .int .i64 (o : Int)] wx (Says (.tuple #[.agg #[.int .i64 0, .int .i64 0, .int .i64 0, .bool false], .bool false, .int .i64 8]) wx) from tX wx hx))
                have TA := Lib.hid (fun wx (hx : NoteAt wx S E B V cs ce cb cv a) => (show Calls Try.prog 23 #[.agg #[.slice S a.s.length cs, .slice E a.e.length ce, .slice B a.b.length cb, .slice V a.ws.length cv], .int .i64 (o : Int)] wx (Says (.tuple #[.agg #[.int .i64 0, .int .i64 0, .int .i64 0, .bool false], .bool false, .int .i64 8]) wx) from tA wx hx))
                have TB := Lib.hid (fun wx (hx : NoteAt wx S' E' B' V' cs' ce' cb' cv' b) => (show Calls Try.prog 23 #[.agg #[.slice S' b.s.length cs', .slice E' b.e.length ce', .slice B' b.b.length cb', .slice V' b.ws.length cv'], .int .i64 (o : Int)] wx (Says (.tuple #[.agg #[.int .i64 0, .int .i64 0, .int .i64 0, .bool false], .bool false, .int .i64 8]) wx) from tB wx hx))
                clear tX tA tB hta htb htx
                have r8 := cell_later hbq q8
                have r9 := cell_later hbq q9
                have r10 := cell_later hbq q10
                have r11 := cell_later hbq q11
                go_wp2_with fail
                refine (TX.out _ (HX8.out.later hbq)).mono ?_
                rintro e w9 ⟨rfl, b9⟩
                have bA := below_new (below_on hbq b9) (.cells #[.int .i64 0, .int .i64 0, .int .i64 0, .bool false] 35)
                have hX := Blk.new w9 35 #[.int .i64 0, .int .i64 0, .int .i64 0, .bool false]
                have r0 := cell_later bA q0
                have r1 := cell_later bA q1
                have r2 := cell_later bA q2
                have r3 := cell_later bA q3
                clear TX r8 r9 r10 r11
                go_wp2_with fail
                refine (TA.out _ (HN8.out.later bA)).mono ?_
                rintro e w10 ⟨rfl, b10⟩
                have bB := below_new (below_on bA b10) (.cells #[.int .i64 0, .int .i64 0, .int .i64 0, .bool false] 35)
                have hX2 := (hX.later b10).alloc (.cells #[.int .i64 0, .int .i64 0, .int .i64 0, .bool false] 35)
                have hA := Blk.new w10 35 #[.int .i64 0, .int .i64 0, .int .i64 0, .bool false]
                have r4 := cell_later bB q4
                have r5 := cell_later bB q5
                have r6 := cell_later bB q6
                have r7 := cell_later bB q7
                clear TA r0 r1 r2 r3 hX
                go_wp2_with fail
                refine (TB.out _ (HM8.out.later bB)).mono ?_
                rintro e w11 ⟨rfl, b11⟩
                have bC := below_new (below_on bB b11) (.cells #[.int .i64 0, .int .i64 0, .int .i64 0, .bool false] 35)
                have hX3 := (hX2.later b11).alloc (.cells #[.int .i64 0, .int .i64 0, .int .i64 0, .bool false] 35)
                have hA3 := (hA.later b11).alloc (.cells #[.int .i64 0, .int .i64 0, .int .i64 0, .bool false] 35)
                have hB3 := Blk.new w11 35 #[.int .i64 0, .int .i64 0, .int .i64 0, .bool false]
                obtain ⟨⟨m0, m1, m2, m3⟩, _⟩ := nt_cells hX3
                obtain ⟨⟨m4, m5, m6, m7⟩, _⟩ := nt_cells hA3
                obtain ⟨⟨m8, m9, m10, m11⟩, _⟩ := nt_cells hB3
                clear TB r4 r5 r6 r7 hX2 hA hX3 hA3 hB3
                go_wp2_with fail
                go_roundw
                case rel => exact ⟨o + 1, by omega, by go_num, bC⟩
                case measure => simp [intOf]; omega
              · rw [htx] at tX
                rw [hta] at tA
                rw [htb] at tB
                have TX := Lib.hid (fun wx (hx : NoteAt wx F1 F2 F3 F4 i1 i2 i3 i4 X) => (show Calls Try.prog 23 #[.agg #[.slice F1 X.s.length i1, .slice F2 X.e.length i2, .slice F3 X.b.length i3, .slice F4 X.ws.length i4], .int .i64 (o : Int)] wx (Says (.tuple #[.agg #[.int .i64 0, .int .i64 0, .int .i64 0, .bool false], .bool false, .int .i64 8]) wx) from tX wx hx))
                have TA := Lib.hid (fun wx (hx : NoteAt wx S E B V cs ce cb cv a) => (show Calls Try.prog 23 #[.agg #[.slice S a.s.length cs, .slice E a.e.length ce, .slice B a.b.length cb, .slice V a.ws.length cv], .int .i64 (o : Int)] wx (Says (.tuple #[.agg #[.int .i64 0, .int .i64 0, .int .i64 0, .bool false], .bool false, .int .i64 8]) wx) from tA wx hx))
                have TB := Lib.hid (fun wx (hx : NoteAt wx S' E' B' V' cs' ce' cb' cv' b) => (show Calls Try.prog 23 #[.agg #[.slice S' b.s.length cs', .slice E' b.e.length ce', .slice B' b.b.length cb', .slice V' b.ws.length cv'], .int .i64 (o : Int)] wx (Says (.tuple #[.agg #[.int .i64 0, .int .i64 0, .int .i64 0, .bool false], .bool true, .int .i64 8]) wx) from tB wx hx))
                clear tX tA tB hta htb htx
                have r8 := cell_later hbq q8
                have r9 := cell_later hbq q9
                have r10 := cell_later hbq q10
                have r11 := cell_later hbq q11
                go_wp2_with fail
                refine (TX.out _ (HX8.out.later hbq)).mono ?_
                rintro e w9 ⟨rfl, b9⟩
                have bA := below_new (below_on hbq b9) (.cells #[.int .i64 0, .int .i64 0, .int .i64 0, .bool false] 35)
                have hX := Blk.new w9 35 #[.int .i64 0, .int .i64 0, .int .i64 0, .bool false]
                have r0 := cell_later bA q0
                have r1 := cell_later bA q1
                have r2 := cell_later bA q2
                have r3 := cell_later bA q3
                clear TX r8 r9 r10 r11
                go_wp2_with fail
                refine (TA.out _ (HN8.out.later bA)).mono ?_
                rintro e w10 ⟨rfl, b10⟩
                have bB := below_new (below_on bA b10) (.cells #[.int .i64 0, .int .i64 0, .int .i64 0, .bool false] 35)
                have hX2 := (hX.later b10).alloc (.cells #[.int .i64 0, .int .i64 0, .int .i64 0, .bool false] 35)
                have hA := Blk.new w10 35 #[.int .i64 0, .int .i64 0, .int .i64 0, .bool false]
                have r4 := cell_later bB q4
                have r5 := cell_later bB q5
                have r6 := cell_later bB q6
                have r7 := cell_later bB q7
                clear TA r0 r1 r2 r3 hX
                go_wp2_with fail
                refine (TB.out _ (HM8.out.later bB)).mono ?_
                rintro e w11 ⟨rfl, b11⟩
                have bC := below_new (below_on bB b11) (.cells #[.int .i64 0, .int .i64 0, .int .i64 0, .bool false] 35)
                have hX3 := (hX2.later b11).alloc (.cells #[.int .i64 0, .int .i64 0, .int .i64 0, .bool false] 35)
                have hA3 := (hA.later b11).alloc (.cells #[.int .i64 0, .int .i64 0, .int .i64 0, .bool false] 35)
                have hB3 := Blk.new w11 35 #[.int .i64 0, .int .i64 0, .int .i64 0, .bool false]
                obtain ⟨⟨m0, m1, m2, m3⟩, _⟩ := nt_cells hX3
                obtain ⟨⟨m4, m5, m6, m7⟩, _⟩ := nt_cells hA3
                obtain ⟨⟨m8, m9, m10, m11⟩, _⟩ := nt_cells hB3
                clear TB r4 r5 r6 r7 hX2 hA hX3 hA3 hB3
                go_wp2_with fail
                go_roundw
                case rel => exact ⟨o + 1, by omega, by go_num, bC⟩
                case measure => simp [intOf]; omega
            · cases sb
              · rw [htx] at tX
                rw [hta] at tA
                rw [htb] at tB
                have TX := Lib.hid (fun wx (hx : NoteAt wx F1 F2 F3 F4 i1 i2 i3 i4 X) => (show Calls Try.prog 23 #[.agg #[.slice F1 X.s.length i1, .slice F2 X.e.length i2, .slice F3 X.b.length i3, .slice F4 X.ws.length i4], .int .i64 (o : Int)] wx (Says (.tuple #[.agg #[.int .i64 0, .int .i64 0, .int .i64 0, .bool false], .bool false, .int .i64 8]) wx) from tX wx hx))
                have TA := Lib.hid (fun wx (hx : NoteAt wx S E B V cs ce cb cv a) => (show Calls Try.prog 23 #[.agg #[.slice S a.s.length cs, .slice E a.e.length ce, .slice B a.b.length cb, .slice V a.ws.length cv], .int .i64 (o : Int)] wx (Says (.tuple #[.agg #[.int .i64 0, .int .i64 0, .int .i64 0, .bool false], .bool true, .int .i64 8]) wx) from tA wx hx))
                have TB := Lib.hid (fun wx (hx : NoteAt wx S' E' B' V' cs' ce' cb' cv' b) => (show Calls Try.prog 23 #[.agg #[.slice S' b.s.length cs', .slice E' b.e.length ce', .slice B' b.b.length cb', .slice V' b.ws.length cv'], .int .i64 (o : Int)] wx (Says (.tuple #[.agg #[.int .i64 0, .int .i64 0, .int .i64 0, .bool false], .bool false, .int .i64 8]) wx) from tB wx hx))
                clear tX tA tB hta htb htx
                have r8 := cell_later hbq q8
                have r9 := cell_later hbq q9
                have r10 := cell_later hbq q10
                have r11 := cell_later hbq q11
                go_wp2_with fail
                refine (TX.out _ (HX8.out.later hbq)).mono ?_
                rintro e w9 ⟨rfl, b9⟩
                have bA := below_new (below_on hbq b9) (.cells #[.int .i64 0, .int .i64 0, .int .i64 0, .bool false] 35)
                have hX := Blk.new w9 35 #[.int .i64 0, .int .i64 0, .int .i64 0, .bool false]
                have r0 := cell_later bA q0
                have r1 := cell_later bA q1
                have r2 := cell_later bA q2
                have r3 := cell_later bA q3
                clear TX r8 r9 r10 r11
                go_wp2_with fail
                refine (TA.out _ (HN8.out.later bA)).mono ?_
                rintro e w10 ⟨rfl, b10⟩
                have bB := below_new (below_on bA b10) (.cells #[.int .i64 0, .int .i64 0, .int .i64 0, .bool false] 35)
                have hX2 := (hX.later b10).alloc (.cells #[.int .i64 0, .int .i64 0, .int .i64 0, .bool false] 35)
                have hA := Blk.new w10 35 #[.int .i64 0, .int .i64 0, .int .i64 0, .bool false]
                have r4 := cell_later bB q4
                have r5 := cell_later bB q5
                have r6 := cell_later bB q6
                have r7 := cell_later bB q7
                clear TA r0 r1 r2 r3 hX
                go_wp2_with fail
                refine (TB.out _ (HM8.out.later bB)).mono ?_
                rintro e w11 ⟨rfl, b11⟩
                have bC := below_new (below_on bB b11) (.cells #[.int .i64 0, .int .i64 0, .int .i64 0, .bool false] 35)
                have hX3 := (hX2.later b11).alloc (.cells #[.int .i64 0, .int .i64 0, .int .i64 0, .bool false] 35)
                have hA3 := (hA.later b11).alloc (.cells #[.int .i64 0, .int .i64 0, .int .i64 0, .bool false] 35)
                have hB3 := Blk.new w11 35 #[.int .i64 0, .int .i64 0, .int .i64 0, .bool false]
                obtain ⟨⟨m0, m1, m2, m3⟩, _⟩ := nt_cells hX3
                obtain ⟨⟨m4, m5, m6, m7⟩, _⟩ := nt_cells hA3
                obtain ⟨⟨m8, m9, m10, m11⟩, _⟩ := nt_cells hB3
                clear TB r4 r5 r6 r7 hX2 hA hX3 hA3 hB3
                go_wp2_with fail
                go_roundw
                case rel => exact ⟨o + 1, by omega, by go_num, bC⟩
                case measure => simp [intOf]; omega
              · rw [htx] at tX
                rw [hta] at tA
                rw [htb] at tB
                have TX := Lib.hid (fun wx (hx : NoteAt wx F1 F2 F3 F4 i1 i2 i3 i4 X) => (show Calls Try.prog 23 #[.agg #[.slice F1 X.s.length i1, .slice F2 X.e.length i2, .slice F3 X.b.length i3, .slice F4 X.ws.length i4], .int .i64 (o : Int)] wx (Says (.tuple #[.agg #[.int .i64 0, .int .i64 0, .int .i64 0, .bool false], .bool true, .int .i64 8]) wx) from tX wx hx))
                have TA := Lib.hid (fun wx (hx : NoteAt wx S E B V cs ce cb cv a) => (show Calls Try.prog 23 #[.agg #[.slice S a.s.length cs, .slice E a.e.length ce, .slice B a.b.length cb, .slice V a.ws.length cv], .int .i64 (o : Int)] wx (Says (.tuple #[.agg #[.int .i64 0, .int .i64 0, .int .i64 0, .bool false], .bool true, .int .i64 8]) wx) from tA wx hx))
                have TB := Lib.hid (fun wx (hx : NoteAt wx S' E' B' V' cs' ce' cb' cv' b) => (show Calls Try.prog 23 #[.agg #[.slice S' b.s.length cs', .slice E' b.e.length ce', .slice B' b.b.length cb', .slice V' b.ws.length cv'], .int .i64 (o : Int)] wx (Says (.tuple #[.agg #[.int .i64 0, .int .i64 0, .int .i64 0, .bool false], .bool true, .int .i64 8]) wx) from tB wx hx))
                clear tX tA tB hta htb htx
                have r8 := cell_later hbq q8
                have r9 := cell_later hbq q9
                have r10 := cell_later hbq q10
                have r11 := cell_later hbq q11
                go_wp2_with fail
                refine (TX.out _ (HX8.out.later hbq)).mono ?_
                rintro e w9 ⟨rfl, b9⟩
                have bA := below_new (below_on hbq b9) (.cells #[.int .i64 0, .int .i64 0, .int .i64 0, .bool false] 35)
                have hX := Blk.new w9 35 #[.int .i64 0, .int .i64 0, .int .i64 0, .bool false]
                have r0 := cell_later bA q0
                have r1 := cell_later bA q1
                have r2 := cell_later bA q2
                have r3 := cell_later bA q3
                clear TX r8 r9 r10 r11
                go_wp2_with fail
                refine (TA.out _ (HN8.out.later bA)).mono ?_
                rintro e w10 ⟨rfl, b10⟩
                have bB := below_new (below_on bA b10) (.cells #[.int .i64 0, .int .i64 0, .int .i64 0, .bool false] 35)
                have hX2 := (hX.later b10).alloc (.cells #[.int .i64 0, .int .i64 0, .int .i64 0, .bool false] 35)
                have hA := Blk.new w10 35 #[.int .i64 0, .int .i64 0, .int .i64 0, .bool false]
                have r4 := cell_later bB q4
                have r5 := cell_later bB q5
                have r6 := cell_later bB q6
                have r7 := cell_later bB q7
                clear TA r0 r1 r2 r3 hX
                go_wp2_with fail
                refine (TB.out _ (HM8.out.later bB)).mono ?_
                rintro e w11 ⟨rfl, b11⟩
                have bC := below_new (below_on bB b11) (.cells #[.int .i64 0, .int .i64 0, .int .i64 0, .bool false] 35)
                have hX3 := (hX2.later b11).alloc (.cells #[.int .i64 0, .int .i64 0, .int .i64 0, .bool false] 35)
                have hA3 := (hA.later b11).alloc (.cells #[.int .i64 0, .int .i64 0, .int .i64 0, .bool false] 35)
                have hB3 := Blk.new w11 35 #[.int .i64 0, .int .i64 0, .int .i64 0, .bool false]
                obtain ⟨⟨m0, m1, m2, m3⟩, _⟩ := nt_cells hX3
                obtain ⟨⟨m4, m5, m6, m7⟩, _⟩ := nt_cells hA3
                obtain ⟨⟨m8, m9, m10, m11⟩, _⟩ := nt_cells hB3
                clear TB r4 r5 r6 r7 hX2 hA hX3 hA3 hB3
                go_wp2_with fail
                go_roundw
                case rel => exact ⟨o + 1, by omega, by go_num, bC⟩
                case measure => simp [intOf]; omega
        · obtain rfl : o = 256 := by omega
          have hfin := below_on BB8.out hbq
          go_wp2
          go_ret
          exact ⟨rfl, hfin⟩

end Go.Proofs.Ytoaclofobfaflaa
namespace Go.Proofs.Ytoaclofobfaflaa.noteMerged
open Go.ChangeShapes Go.WideShapes Go.ChangeAt Go.RowKit

theorem cellsStamp : Try.prog.cellsOf 33 = 2 := by kernel_rfl
theorem bytesStamp : Try.prog.bytesOf 33 = 16 := by kernel_rfl
theorem cellsSpan : Try.prog.cellsOf 50 = 2 := by kernel_rfl
theorem bytesSpan : Try.prog.bytesOf 50 = 16 := by kernel_rfl
theorem cellsWrite : Try.prog.cellsOf 35 = 4 := by kernel_rfl
theorem bytesWrite : Try.prog.bytesOf 35 = 32 := by kernel_rfl
theorem stampE {H : Type} {enc : TypeId × Value → H} {w : World} (fuel : Nat) (cs : List Value) (x : DataW H × List MemPlace) (h : DataW.trod enc Try.prog w 0 (fun _ => true) true fuel 33 cs = some x) : ∃ a, cs = stCell a := by
  obtain ⟨c, n, rfl, _⟩ := stamp_cells Try.underlying33 (by kernel_rfl) (by kernel_rfl) rfl rfl Try.underlying3 h
  exact ⟨(c, n), rfl⟩
theorem spanE {H : Type} {enc : TypeId × Value → H} {w : World} (fuel : Nat) (cs : List Value) (x : DataW H × List MemPlace) (h : DataW.trod enc Try.prog w 0 (fun _ => true) true fuel 50 cs = some x) : ∃ a, cs = stCell a := by
  obtain ⟨c, n, rfl, _⟩ := stamp_cells Try.underlying50 (by kernel_rfl) (by kernel_rfl) rfl rfl Try.underlying3 h
  exact ⟨(c, n), rfl⟩
theorem writeE {H : Type} {enc : TypeId × Value → H} {w : World} (fuel : Nat) (cs : List Value) (x : DataW H × List MemPlace) (h : DataW.trod enc Try.prog w 0 (fun _ => true) true fuel 35 cs = some x) : ∃ a, cs = Nt.wrCell a :=
  write_cells Try.underlying35 (by kernel_rfl) (by kernel_rfl) rfl (by kernel_rfl) rfl (by kernel_rfl) rfl Try.underlying33 (by kernel_rfl) rfl rfl Try.underlying3 Try.underlying3 Try.underlying4 h
theorem own : ownKnob Try.prog.godebug = none := by kernel_rfl
theorem laidOut : laidOutB Try.prog = true := by kernel_rfl
theorem reads : ∀ t ∈ Try.f9.params.toList, Try.prog.readableRec t = true ∧ t < Try.prog.types.size := by
  intro t ht
  rw [Try.params9] at ht
  have : t = 26 ∨ t = 26 ∨ t = 22 := by simpa using ht
  rcases this with rfl | rfl | rfl <;> exact ⟨by kernel_rfl, of_decide_eq_true (by kernel_rfl)⟩

set_option maxRecDepth 100000 in
theorem lifted (os : Os) (started : os.Started) (H : Type) (enc : TypeId × Value → H) :
    ReturnsInHanded {} Try.checked os 9 .any (Rows.noteMergedSpec.pre6 enc Try.prog Try.f9 Rows.noteMergedRow.domain false) (Rows.noteMergedSpec.post enc Try.prog Try.f9 false true false false) := by
  refine returnsInHanded_of_change (C := Try.checked) own started (by kernel_rfl) Try.func9
    (ChangeSpec.witness6 (enc := enc) (C := Try.checked) false ⟨#[], #[.agg #[.slice none 0 0, .slice none 0 0, .slice none 0 0, .slice none 0 0], .agg #[.slice none 0 0, .slice none 0 0, .slice none 0 0, .slice none 0 0], .slice none 0 0], []⟩ 8 (by kernel_rfl) (by kernel_rfl) (by kernel_rfl) (by kernel_rfl)) ?_
  intro W base args ds gs before hval0 hW _ _
  have hval : ∀ (j : Nat) t v, Try.f9.params[j]? = some t → args[j]? = some v → Value.okWide Try.prog W .any base t v := hval0
  have hW' := hW
  obtain ⟨p, q, hA0, hV, rfl, hfz, hnd⟩ := hW
  have hA : DataW.TrodAll enc Try.prog W 0 (fun _ => true) true Try.f9.params.toList args.toList ds p := hA0
  rw [Try.params9] at hA hval
  obtain ⟨v0, vs0, d0, ds0, p0, q0, hargs, rfl, rfl, h0, r0⟩ := trodAll_cons hA
  obtain ⟨v1, vs1, d1, ds1, p1, q1, rfl, rfl, rfl, h1, r1⟩ := trodAll_cons r0
  obtain ⟨v2, vs2, d2, ds2, p2, q2, rfl, rfl, rfl, h2, r2⟩ := trodAll_cons r1
  obtain ⟨rfl, rfl, rfl⟩ := trodAll_nil r2
  obtain rfl : args = #[v0, v1, v2] := by cases args; simp_all
  obtain ⟨rfl, rfl⟩ := trodVars_none hV
  obtain ⟨S0, E0, B0, V0, cs0, ce0, cb0, cv0, n0, rfl, o0, x00, x01, x02, x03, rfl, m00, m01, m02, m03⟩ := open_note Try.underlying26 (by kernel_rfl) (by kernel_rfl) Try.underlying22 Try.underlying22 Try.underlying23 Try.underlying24 (by kernel_rfl) (by kernel_rfl) (by kernel_rfl) stampE spanE writeE (hval 0 26 v0 rfl rfl) h0
  obtain ⟨S1, E1, B1, V1, cs1, ce1, cb1, cv1, n1, rfl, o1, x10, x11, x12, x13, rfl, m10, m11, m12, m13⟩ := open_note Try.underlying26 (by kernel_rfl) (by kernel_rfl) Try.underlying22 Try.underlying22 Try.underlying23 Try.underlying24 (by kernel_rfl) (by kernel_rfl) (by kernel_rfl) stampE spanE writeE (hval 1 26 v1 rfl rfl) h1
  obtain ⟨A2, cap2, l2, rfl, hc2, hm2, hn2, hl2, _, hd2⟩ := open_stamps Try.underlying22 Try.underlying33 (by kernel_rfl) cellsStamp rfl rfl Try.underlying3 (hval 2 22 v2 rfl rfl) h2
  have o2 : OneL W A2 cap2 l2 := ⟨hc2, hm2, hn2, hl2⟩
  clear hA0 hval0
  refine (lawNMerged_any mergeSpec S0 E0 B0 V0 S1 E1 B1 V1 A2 cs0 ce0 cb0 cv0 cs1 ce1 cb1 cv1 cap2 n0 n1 l2 W o0 o1 o2).mono fun e W' ⟨he, hg⟩ => ?_
  subst he
  exact ⟨_, rfl, law_post laidOut hW' rfl rfl (by kernel_rfl) Try.underlying4 reads hg⟩

theorem over : Rows.noteMergedRow.holds Try.pinned (OpenSpec.ofChange Rows.noteMergedSpec) :=
  OpenClaim.holds_of_wide 9 Try.f9 rfl rfl rfl rfl rfl rfl rfl ⟨rfl, rfl, rfl, rfl, rfl⟩ rfl rfl rfl rfl rfl (by kernel_rfl) Try.func9 (by kernel_rfl)
    (of_decide_eq_true (by kernel_rfl)) (by unfold Func.isWrapper; first | (rw [if_pos (by decide +kernel)]; kernel_rfl) | (rw [if_neg (by decide +kernel)]; exact ⟨rfl, rfl⟩))
    (fun os started H enc _ => lifted os started H enc)

/-- The statement. -/
theorem proved : Rows.NoteMergedSaid :=
  over

end Go.Proofs.Ytoaclofobfaflaa.noteMerged
