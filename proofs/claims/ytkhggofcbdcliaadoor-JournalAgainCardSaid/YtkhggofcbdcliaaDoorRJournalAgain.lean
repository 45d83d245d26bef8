/-
  The law JournalScans, walked over the contracts of journal's functions.
  A journal that was scanned, as plain mathematics: it is scanned to the same, and what is appended then stands behind.
  The law JournalAgain, walked over the contracts of journal's functions.
  For any disk and all bytes, the law JournalAgain returns true and leaves its arguments as they were. No condition. The card ties the table of frame's sum to the program's text.
-/
import Derived.Test.YtkhggofcbdcliaaDoorG21
import Derived.Test.YtkhggofcbdcliaaDoorG20
import Derived.Test.YtkhggofcbdcliaaDoorG18
import Derived.Test.YtkhggofcbdcliaaDoorRows
import Derived.Test.YtkhggofcbdcliaaDoorCards
import Derived.Test.YtkhggofcbdcliaaDoorTie
import Derived.Test.YtkhggofcbdcliaaDoorG01
import Derived.Test.YtkhggofcbdcliaaDoorG07
import Derived.Lib.LaidTab
import Derived.LaidMore
import Derived.SizedLaws
import Derived.Handed
import Derived.SevenTiedAt
import Derived.Stop.LaidErr
namespace Go.Proofs.YtkhggofcbdcliaaDoor
open Go.RowKit

set_option maxRecDepth 100000 in
set_option maxHeartbeats 6400000 in
theorem lawJournalScans_any (JS : JournalSpec) (room : Int) (A : Option Addr) (c : Nat) (L : List Fc) (w : World) (h : OneD w A c L) (hf : Fit L) (hH : Halves w) :
    Calls Tryd.prog 5 #[.agg #[.int .i64 room, .slice A L.length c]] w (Says (.bool true) w) := by
  obtain ⟨⟨rs, ⟨rm, fs, k⟩⟩, hR⟩ : ∃ r, Jn.scanR room (L.map Fc.fi) = r := ⟨_, rfl⟩
  have HR := Lib.hid hR
  clear hR
  have SP := Lib.hid JS
  clear JS
  have b := below_new (Below.refl w.heap.size w) (.cells #[.int .i64 room, .slice A L.length c] 24)
  have HV := Lib.hid (hH.later b)
  have HD := Lib.hid (h.later b)
  have Y3 := Lib.hid (Blk.new w 24 #[.int .i64 room, .slice A L.length c])
  have HFT := Lib.hid hf
  have BB0 := Lib.hid b
  clear b h hf hH
  go_enter Tryd.func5, Tryd.ntmps5
  have nn := jalive_any SP.out (w.alloc (.cells #[.int .i64 room, .slice A L.length c] 24)) HV.out
  have NN := Lib.hid nn
  clear nn
  go_wp2_with fail
  refine NN.out.mono ?_
  clear NN
  rintro e x1 ⟨rfl, b⟩
  replace HV := Lib.hid (HV.out.later b)
  replace HD := Lib.hid (HD.out.later b)
  replace Y3 := Lib.hid (Y3.out.later b)
  have BB1 := Lib.hid (below_on BB0.out b)
  clear b
  have nn := rcopyD_any room A c L _ HD.out HFT.out
  have NN := Lib.hid nn
  clear nn
  have cY30 := Y3.out.cell (i := 0) rfl
  have cY31 := Y3.out.cell (i := 1) rfl
  go_wp2_with fail
  refine NN.out.mono ?_
  clear NN
  rintro e xo ⟨v, Lo, rfl, hO, hf, b⟩
  obtain ⟨Ao, co, rfl, -⟩ := hO.one
  clear cY30 cY31
  replace HV := Lib.hid (HV.out.later b)
  replace HD := Lib.hid (HD.out.later b)
  replace Y3 := Lib.hid (Y3.out.later b)
  have Oo := Lib.hid (hO.oneD)
  have HFo := Lib.hid hf
  have BB2 := Lib.hid (below_on BB1.out b)
  clear b hO hf
  have b := below_new (Below.refl xo.heap.size xo) (.cells #[.int .i64 room, .slice Ao Lo.length co] 24)
  replace HV := Lib.hid (HV.out.later b)
  replace HD := Lib.hid (HD.out.later b)
  replace Y3 := Lib.hid (Y3.out.later b)
  replace Oo := Lib.hid (Oo.out.later b)
  have Y7 := Lib.hid (Blk.new xo 24 #[.int .i64 room, .slice Ao Lo.length co])
  have BB2a := Lib.hid (below_on BB2.out b)
  clear b
  have nn := SP.out.scan room Ao co Lo _ Oo.out HV.out
  rw [HFo.out, HR.out] at nn
  have NN := Lib.hid nn
  clear nn
  have cY70 := Y7.out.cell (i := 0) rfl
  have cY71 := Y7.out.cell (i := 1) rfl
  go_wp2_with fail
  refine NN.out.mono ?_
  clear NN
  intro e xp h
  obtain ⟨Vp, vp, Ap, cp, Lp, rfl, hV, hO, hf, b⟩ := h.open
  clear h
  clear cY70 cY71
  replace HV := Lib.hid (HV.out.later b)
  replace HD := Lib.hid (HD.out.later b)
  replace Y3 := Lib.hid (Y3.out.later b)
  replace Oo := Lib.hid (Oo.out.later b)
  replace Y7 := Lib.hid (Y7.out.later b)
  have Rp := Lib.hid (hV)
  have Op := Lib.hid (hO.oneD)
  have HFp := Lib.hid hf
  have BB3 := Lib.hid (below_on BB2a.out b)
  clear b hO hf hV
  have b := below_new (Below.refl xp.heap.size xp) (.cells #[.int .i64 rm, .slice Ap Lp.length cp] 24)
  replace HV := Lib.hid (HV.out.later b)
  replace HD := Lib.hid (HD.out.later b)
  replace Y3 := Lib.hid (Y3.out.later b)
  replace Oo := Lib.hid (Oo.out.later b)
  replace Y7 := Lib.hid (Y7.out.later b)
  replace Rp := Lib.hid (Rp.out.later b)
  replace Op := Lib.hid (Op.out.later b)
  have Y5 := Lib.hid (Blk.new xp 24 #[.int .i64 rm, .slice Ap Lp.length cp])
  have BB3a := Lib.hid (below_on BB3.out b)
  clear b
  have nn := rscan_any room A c L _ HD.out
  rw [HR.out] at nn
  have NN := Lib.hid nn
  clear nn
  have cY30 := Y3.out.cell (i := 0) rfl
  have cY31 := Y3.out.cell (i := 1) rfl
  go_wp2_with fail
  refine NN.out.mono ?_
  clear NN
  intro e xq h
  obtain ⟨Vq, vq, Aq, cq, Lq, rfl, hV, hO, hf, b⟩ := h.open
  clear h
  clear cY30 cY31
  replace HV := Lib.hid (HV.out.later b)
  replace HD := Lib.hid (HD.out.later b)
  replace Y3 := Lib.hid (Y3.out.later b)
  replace Oo := Lib.hid (Oo.out.later b)
  replace Y7 := Lib.hid (Y7.out.later b)
  replace Rp := Lib.hid (Rp.out.later b)
  replace Op := Lib.hid (Op.out.later b)
  replace Y5 := Lib.hid (Y5.out.later b)
  have Rq := Lib.hid (hV)
  have Oq := Lib.hid (hO.oneD)
  have HFq := Lib.hid hf
  have BB4 := Lib.hid (below_on BB3a.out b)
  clear b hO hf hV
  have b := below_new (Below.refl xq.heap.size xq) (.cells #[.int .i64 rm, .slice Aq Lq.length cq] 24)
  replace HV := Lib.hid (HV.out.later b)
  replace HD := Lib.hid (HD.out.later b)
  replace Y3 := Lib.hid (Y3.out.later b)
  replace Oo := Lib.hid (Oo.out.later b)
  replace Y7 := Lib.hid (Y7.out.later b)
  replace Rp := Lib.hid (Rp.out.later b)
  replace Op := Lib.hid (Op.out.later b)
  replace Y5 := Lib.hid (Y5.out.later b)
  replace Rq := Lib.hid (Rq.out.later b)
  replace Oq := Lib.hid (Oq.out.later b)
  have Y8 := Lib.hid (Blk.new xq 24 #[.int .i64 rm, .slice Aq Lq.length cq])
  have BB4a := Lib.hid (below_on BB4.out b)
  clear b
  have nn := rlists_any Vp Vq vp vq rs rs _ Rp.out Rq.out
  rw [decide_eq_true rfl] at nn
  have NN := Lib.hid nn
  clear nn
  go_wp2_with fail
  refine NN.out.mono ?_
  clear NN
  rintro e x5 ⟨rfl, b⟩
  replace HV := Lib.hid (HV.out.later b)
  replace HD := Lib.hid (HD.out.later b)
  replace Y3 := Lib.hid (Y3.out.later b)
  replace Oo := Lib.hid (Oo.out.later b)
  replace Y7 := Lib.hid (Y7.out.later b)
  replace Rp := Lib.hid (Rp.out.later b)
  replace Op := Lib.hid (Op.out.later b)
  replace Y5 := Lib.hid (Y5.out.later b)
  replace Rq := Lib.hid (Rq.out.later b)
  replace Oq := Lib.hid (Oq.out.later b)
  replace Y8 := Lib.hid (Y8.out.later b)
  have BB5 := Lib.hid (below_on BB4a.out b)
  clear b
  have nn := rsameD_any rm rm Ap Aq cp cq Lp Lq _ Op.out Oq.out
  rw [decide_eq_true (show rm = rm ∧ Lp.map Fc.fi = Lq.map Fc.fi from ⟨rfl, by rw [HFp.out, HFq.out]⟩)] at nn
  have NN := Lib.hid nn
  clear nn
  have cY50 := Y5.out.cell (i := 0) rfl
  have cY51 := Y5.out.cell (i := 1) rfl
  have cY80 := Y8.out.cell (i := 0) rfl
  have cY81 := Y8.out.cell (i := 1) rfl
  go_wp2_with fail
  refine NN.out.mono ?_
  clear NN
  rintro e x6 ⟨rfl, b⟩
  clear cY50 cY51 cY80 cY81
  replace HV := Lib.hid (HV.out.later b)
  replace HD := Lib.hid (HD.out.later b)
  replace Y3 := Lib.hid (Y3.out.later b)
  replace Oo := Lib.hid (Oo.out.later b)
  replace Y7 := Lib.hid (Y7.out.later b)
  replace Rp := Lib.hid (Rp.out.later b)
  replace Op := Lib.hid (Op.out.later b)
  replace Y5 := Lib.hid (Y5.out.later b)
  replace Rq := Lib.hid (Rq.out.later b)
  replace Oq := Lib.hid (Oq.out.later b)
  replace Y8 := Lib.hid (Y8.out.later b)
  have BB6 := Lib.hid (below_on BB5.out b)
  clear b
  have nn := rsameD_any room room Ao A co c Lo L _ Oo.out HD.out
  rw [decide_eq_true (show room = room ∧ Lo.map Fc.fi = L.map Fc.fi from ⟨rfl, HFo.out⟩)] at nn
  have NN := Lib.hid nn
  clear nn
  have cY70 := Y7.out.cell (i := 0) rfl
  have cY71 := Y7.out.cell (i := 1) rfl
  have cY30 := Y3.out.cell (i := 0) rfl
  have cY31 := Y3.out.cell (i := 1) rfl
  go_wp2_with fail
  refine NN.out.mono ?_
  clear NN
  rintro e x7 ⟨rfl, b⟩
  clear cY70 cY71 cY30 cY31
  replace HV := Lib.hid (HV.out.later b)
  replace HD := Lib.hid (HD.out.later b)
  replace Y3 := Lib.hid (Y3.out.later b)
  replace Oo := Lib.hid (Oo.out.later b)
  replace Y7 := Lib.hid (Y7.out.later b)
  replace Rp := Lib.hid (Rp.out.later b)
  replace Op := Lib.hid (Op.out.later b)
  replace Y5 := Lib.hid (Y5.out.later b)
  replace Rq := Lib.hid (Rq.out.later b)
  replace Oq := Lib.hid (Oq.out.later b)
  replace Y8 := Lib.hid (Y8.out.later b)
  have BB7 := Lib.hid (below_on BB6.out b)
  clear b
  go_wp2
  go_ret
  exact ⟨rfl, BB7.out⟩
end Go.Proofs.YtkhggofcbdcliaaDoor
namespace Go.Proofs.YtkhggofcbdcliaaDoor
open Go.RowKit

namespace Jn
/-- Frames, one behind the other. -/
def fl (ps : List (List Int)) : List Int := (ps.map Fr.frm).flatten
theorem fl_append (a b : List (List Int)) : fl (a ++ b) = fl a ++ fl b := by
  unfold fl
  rw [List.map_append, List.flatten_append]
theorem fl_one (p : List Int) : fl [p] = Fr.frm p := by
  unfold fl
  simp
theorem cut_fl {ps : List (List Int)} (h : ∀ p ∈ ps, p.length ≤ 1048576) : cut (fl ps) = ((fl ps).length, ps) := by
  have h2 : Fr.flat ps ps.length = fl ps := by unfold Fr.flat fl; rw [List.take_length]
  obtain ⟨h3, h4⟩ := Fr.cut_all h
  rw [h2] at h3 h4
  rw [← cut_eq h4, h3]
theorem it_fl {l : List Int} (hb : ∀ x ∈ l, isB x) : ∀ k, l.take (Fr.it l k).1 = fl (Fr.it l k).2 ∧ ∀ p ∈ (Fr.it l k).2, p.length ≤ 1048576
  | 0 => ⟨rfl, fun _ h => by cases h⟩
  | k + 1 => by
    obtain ⟨ih, il⟩ := it_fl hb k
    obtain ⟨a, ha⟩ : ∃ a, (Fr.it l k).1 = a := ⟨_, rfl⟩
    by_cases hs : (Fr.opn (l.drop a)).2.2 = 0
    · obtain ⟨-, o2, o3, o4, o5⟩ := Fr.opn_ok hs
      obtain ⟨m, hm⟩ : ∃ m, Fr.num4 (l.drop a) = m := ⟨_, rfl⟩
      obtain ⟨f, hf⟩ : ∃ f, (l.drop a).take (8 + m) = f := ⟨_, rfl⟩
      rw [hm] at o2 o3 o4 o5
      rw [hf] at o2 o3
      have hfl : f.length = 8 + m := by rw [← hf, List.length_take]; omega
      have hfn : Fr.num4 f = m := by rw [← hf, Fr.num4_take (by omega)]; exact hm
      have hfb : ∀ x ∈ f, isB x := fun x hx => hb x (by rw [← hf] at hx; exact List.mem_of_mem_drop (List.mem_of_mem_take hx))
      have e1 : f.take 4 = (l.drop a).take 4 := by rw [← hf, List.take_take, Nat.min_eq_left (by omega)]
      have e2 : Fr.num4 (f.drop 4) = Fr.num4 ((l.drop a).drop 4) := by
        rw [← hf, List.drop_take, Fr.num4_take (by omega)]
      have hfr : Fr.frm (f.drop 8) = f := (Fr.seal_iff hfl hfn hfb).2 (by rw [e1, e2]; exact o2)
      have hi : Fr.it l (k + 1) = (a + (8 + m), (Fr.it l k).2 ++ [f.drop 8]) := by
        show Fr.stp l (Fr.it l k) = _
        unfold Fr.stp
        rw [ha, if_pos hs, o3]
        rfl
      rw [hi]
      refine ⟨?_, fun p hp => (List.mem_append.1 hp).elim (il p) (fun h => by rw [List.mem_singleton] at h; subst h; rw [List.length_drop]; omega)⟩
      rw [ha] at ih
      dsimp only
      rw [List.take_add, ih, hf, fl_append, fl_one, hfr]
    · have hi : Fr.it l (k + 1) = Fr.it l k := by
        show Fr.stp l (Fr.it l k) = _
        unfold Fr.stp
        rw [ha, if_neg hs]
      rw [hi]
      exact ⟨ih, il⟩
theorem cut_is {l : List Int} (hb : ∀ x ∈ l, isB x) : l.take (cut l).1 = fl (cut l).2 ∧ ∀ p ∈ (cut l).2, p.length ≤ 1048576 := it_fl hb _

/-- Segments of whole frames. -/
def Whole (fs : List Fi) : Prop := ∀ f ∈ fs, ∃ ps : List (List Int), f.2.1 = fl ps ∧ ∀ p ∈ ps, p.length ≤ 1048576
def recs (fs : List Fi) : List (List Int) := (fs.map fun f => (cut f.2.1).2).flatten
def zero (f : Fi) : Fi := (f.1, f.2.1, 0)
theorem recs_append (a b : List Fi) : recs (a ++ b) = recs a ++ recs b := by
  unfold recs
  rw [List.map_append, List.flatten_append]
theorem recs_one (f : Fi) : recs [f] = (cut f.2.1).2 := by
  unfold recs
  simp
theorem recs_cons (f : Fi) (r : List Fi) : recs (f :: r) = (cut f.2.1).2 ++ recs r := rfl
theorem recs_map {g : Fi → Fi} (hg : ∀ f, (g f).2.1 = f.2.1) (fs : List Fi) : recs (fs.map g) = recs fs := by
  unfold recs
  rw [List.map_map]
  congr 1
  apply List.map_congr_left
  intro f _
  show (cut (g f).2.1).2 = _
  rw [hg]
theorem Whole.map {g : Fi → Fi} (hg : ∀ f, (g f).2.1 = f.2.1) {fs : List Fi} (h : Whole fs) : Whole (fs.map g) := fun f hf => by
  obtain ⟨f0, h0, rfl⟩ := List.mem_map.1 hf
  rw [hg]
  exact h f0 h0
theorem scan_whole : ∀ {fs : List Fi}, Whole fs → scan fs = (recs fs, fs.map zero)
  | [], _ => rfl
  | f :: r, h => by
    obtain ⟨ps, h1, h2⟩ := h f (List.mem_cons_self ..)
    have hc : (cut f.2.1).1 = f.2.1.length := by rw [h1, cut_fl h2]
    rw [scan_cons, if_neg (by omega), scan_whole (fun g hg => h g (List.mem_cons_of_mem _ hg)), recs_cons]
    unfold kept
    rw [hc, List.take_length]
    rfl
theorem scan_is : ∀ {fs : List Fi}, (∀ f ∈ fs, ∀ x ∈ f.2.1, isB x) → Whole (scan fs).2 ∧ recs (scan fs).2 = (scan fs).1
  | [], _ => ⟨(fun _ h => by cases h), rfl⟩
  | f :: r, h => by
    obtain ⟨i1, i2⟩ := scan_is (fs := r) (fun g hg => h g (List.mem_cons_of_mem _ hg))
    obtain ⟨c1, c2⟩ := cut_is (h f (List.mem_cons_self ..))
    have hk : cut (kept f).2.1 = ((fl (cut f.2.1).2).length, (cut f.2.1).2) := by
      show cut (f.2.1.take (cut f.2.1).1) = _
      rw [c1]
      exact cut_fl c2
    have hw : ∃ ps : List (List Int), (kept f).2.1 = fl ps ∧ ∀ p ∈ ps, p.length ≤ 1048576 := ⟨(cut f.2.1).2, c1, c2⟩
    rw [scan_cons]
    split
    · refine ⟨fun g hg => ?_, ?_⟩
      · rw [List.mem_singleton] at hg
        subst hg
        exact hw
      · rw [recs_one, hk]
    · refine ⟨fun g hg => ?_, ?_⟩
      · rcases List.mem_cons.1 hg with rfl | hg
        · exact hw
        · exact i1 g hg
      · rw [recs_cons, hk, i2]
/-- Scanned again: the same records, the same disk. -/
theorem scan_again {room : Int} {fs : List Fi} (h : Dk.fmd room fs = true) (hb : ∀ f ∈ fs, ∀ x ∈ f.2.1, isB x) : Dk.fmd room ((scan fs).2.map Dk.syn1) = true ∧ Whole ((scan fs).2.map Dk.syn1) ∧ recs ((scan fs).2.map Dk.syn1) = (scan fs).1 ∧
    scanR room ((scan fs).2.map Dk.syn1) = ((scan fs).1, (room, (scan fs).2.map Dk.syn1, 0)) := by
  obtain ⟨h1, h2⟩ := scan_is hb
  have hw := Whole.map (g := Dk.syn1) (fun _ => rfl) h1
  have hr : recs ((scan fs).2.map Dk.syn1) = (scan fs).1 := by rw [recs_map (g := Dk.syn1) (fun _ => rfl), h2]
  have hf : Dk.fmd room ((scan fs).2.map Dk.syn1) = true := Dk.less_fmd (List.length_map ..) (fun i f f' e1 e2 => by
    rw [List.getElem?_map, e1] at e2
    simp at e2
    subst e2
    exact ⟨rfl, Nat.le_refl _, by show (0 : Int) ≤ (f.2.1.length : Int); omega, Int.le_refl _⟩) (scan_fmd h)
  refine ⟨hf, hw, hr, ?_⟩
  unfold scanR
  rw [if_pos hf, scan_whole hw, hr, List.map_map, List.map_map]
  congr 3
theorem app_fmd {room n : Int} {fs : List Fi} {b : List Int} (h : Dk.fmd room fs = true) (hn : Dk.win n 1048576 = true) (hb : (b.length : Int) ≤ room - Dk.used fs) : Dk.fmd room ((Dk.ins fs n).map (Dk.app1 n b)) = true := by
  have hF := Dk.fmd_facts h
  have hw := Dk.win_yes hn
  obtain ⟨i1, i2, i3, i4, i5⟩ := Dk.ins_facts n hF
  refine Dk.fmd_mk2 hF.r0 hF.r1 ?_ (fun f hf => ?_) ?_
  · have := Dk.used_app (n := n) (b := b) _ i2
    omega
  · obtain ⟨g, hg, rfl⟩ := List.mem_map.1 hf
    obtain ⟨a1, a2⟩ := Dk.app1_sure n b g
    rw [Dk.app1_num, a1]
    rcases i3 g hg with h1 | ⟨rfl, _⟩
    · have := hF.num g h1
      exact ⟨this.1, this.2.1, this.2.2.1, by omega⟩
    · exact ⟨hw.1, hw.2, Int.le_refl _, by show (0 : Int) ≤ _; omega⟩
  · refine List.pairwise_map.2 (i2.imp fun {a c} hac => ?_)
    rw [Dk.app1_num, Dk.app1_num]
    exact hac
theorem ins_last {fs : List Fi} {n : Int} (h : ∀ f ∈ fs, f.1 < n) : Dk.ins fs n = fs ++ [(n, [], 0)] := by
  have hn : Dk.fnd n fs = none := List.find?_eq_none.2 (fun f hf => by have := h f hf; simp; omega)
  unfold Dk.ins
  rw [hn]
  dsimp only
  rw [List.filter_eq_self.2 (fun f hf => decide_eq_true (h f hf)), List.filter_eq_nil_iff.2 (fun f hf => by have := h f hf; simp; omega)]
theorem ins_in {fs : List Fi} {f : Fi} (hf : f ∈ fs) : Dk.ins fs f.1 = fs := by
  unfold Dk.ins
  cases hn : Dk.fnd f.1 fs with
  | some g => rfl
  | none =>
    have := List.find?_eq_none.1 hn f hf
    simp at this
theorem app1_new (n : Int) (b : List Int) : (Dk.app1 n b (n, [], 0)).2.1 = b := by
  unfold Dk.app1
  rw [if_pos rfl]
  exact List.nil_append b
theorem last_split {α : Type} {l : List α} {y : α} (h : l.getLast? = some y) : l.dropLast ++ [y] = l := by
  have hne : l ≠ [] := fun e => by subst e; cases h
  have h1 := List.getLast?_eq_some_getLast hne
  rw [h1] at h
  have h2 := Option.some.inj h
  rw [← h2]
  exact List.dropLast_concat_getLast hne
/-- What an append comes to, of segments of whole frames. -/
theorem app_ways {room : Int} {x : List Fi} (hf : Dk.fmd room x = true) (hw : Whole x) (p : List Int) :
    ((appJR room x p).2.2 = 15 ∨ (appJR room x p).2.2 = 7 ∨ ((appJR room x p).2.2 = 1 ∧ 1048576 < p.length)) ∨ ∃ zs, appJR room x p = (room, zs, 0) ∧ Whole zs ∧ recs zs = recs x ++ [p] ∧ Dk.fmd room zs = true := by
  by_cases hp : p.length ≤ 1048576
  · have hF := Dk.fmd_facts hf
    have hpp : ∀ q ∈ [p], q.length ≤ 1048576 := fun q hq => by rw [List.mem_singleton] at hq; subst hq; exact hp
    have hcp : cut (Fr.frm p) = ((Fr.frm p).length, [p]) := by rw [← fl_one]; exact cut_fl hpp
    -- into a new segment
    have hst : ((startR room x p).2.2 = 15 ∨ (startR room x p).2.2 = 7) ∨ ∃ zs, startR room x p = (room, zs, 0) ∧ Whole zs ∧ recs zs = recs x ++ [p] ∧ Dk.fmd room zs = true := by
      unfold startR
      rw [if_pos ⟨hf, hp⟩]
      by_cases h15 : lastR room x = 1048576
      · rw [if_pos h15]
        exact .inl (.inl rfl)
      · rw [if_neg h15]
        have hl := last_le (room := room) (fs := x)
        obtain ⟨n, hn⟩ : ∃ n, (if lastR room x < 0 then 0 else lastR room x) + 1 = n := ⟨_, rfl⟩
        rw [hn]
        have hn1 : 1 ≤ n ∧ n ≤ 1048576 := by rw [← hn]; split <;> omega
        have hwin : Dk.win n 1048576 = true := decide_eq_true (by omega)
        have hfs : Dk.fmd room (x.map Dk.syn1) = true := Dk.less_fmd (List.length_map ..) (fun i f f' e1 e2 => by
          rw [List.getElem?_map, e1] at e2
          simp at e2
          subst e2
          exact ⟨rfl, Nat.le_refl _, by show (0 : Int) ≤ (f.2.1.length : Int); omega, Int.le_refl _⟩) hf
        have hlt : ∀ f ∈ x.map Dk.syn1, f.1 < n := fun f hf2 => by
          obtain ⟨g, hg, rfl⟩ := List.mem_map.1 hf2
          have hne : x ≠ [] := fun e => by rw [e] at hg; cases hg
          obtain ⟨y, hy, hy2⟩ := getLast_at hne
          have hly : lastR room x = y.1 := by unfold lastR; rw [if_pos hf, hy2]
          have hgy : g.1 ≤ y.1 := by
            obtain ⟨i, hi⟩ := List.getElem?_of_mem hg
            have hil := (List.getElem?_eq_some_iff.1 hi).1
            by_cases e : i = x.length - 1
            · rw [e, hy] at hi
              cases hi
              exact Int.le_refl _
            · obtain ⟨h1, h2⟩ := List.getElem?_eq_some_iff.1 hi
              obtain ⟨h3, h4⟩ := List.getElem?_eq_some_iff.1 hy
              have := List.pairwise_iff_getElem.1 hF.up i (x.length - 1) h1 h3 (by omega)
              rw [h2, h4] at this
              omega
          have h0 := (hF.num y (List.mem_of_getLast? hy2)).1
          show g.1 < n
          rw [← hn, hly]
          split <;> omega
        unfold Dk.appR
        rw [if_pos ⟨hfs, hwin⟩]
        by_cases hsp : ((Fr.frm p).length : Int) > room - Dk.used (x.map Dk.syn1)
        · rw [if_pos hsp]
          exact .inl (.inr rfl)
        · rw [if_neg hsp]
          refine .inr ⟨_, rfl, ?_, ?_, app_fmd hfs hwin (by omega)⟩
          all_goals rw [ins_last hlt, List.map_append, Dk.app1_other _ (fun f hf2 => by have := hlt f hf2; omega)]
          · intro f hf2
            rcases List.mem_append.1 hf2 with h1 | h1
            · exact Whole.map (g := Dk.syn1) (fun _ => rfl) hw f h1
            · rw [List.map_cons, List.map_nil, List.mem_singleton] at h1
              subst h1
              exact ⟨[p], by rw [app1_new, fl_one], hpp⟩
          · rw [recs_append, recs_map (g := Dk.syn1) (fun _ => rfl)]
            rw [List.map_cons, List.map_nil, recs_one, app1_new, hcp]
    unfold appJR
    rw [if_pos ⟨hf, hp⟩]
    by_cases hfr : fresh x p = true
    · rw [if_pos hfr]
      rcases hst with (h1 | h1) | h1
      · exact .inl (.inl h1)
      · exact .inl (.inr (.inl h1))
      · exact .inr h1
    · rw [if_neg hfr]
      have hne : x ≠ [] := fun e => hfr (by subst e; rfl)
      obtain ⟨y, hy, hy2⟩ := getLast_at hne
      have hly : lastR room x = y.1 := by unfold lastR; rw [if_pos hf, hy2]
      have hym := List.mem_of_getLast? hy2
      have hyn := hF.num y hym
      have hwin : Dk.win y.1 1048576 = true := decide_eq_true ⟨hyn.1, hyn.2.1⟩
      have hx : x.dropLast ++ [y] = x := last_split hy2
      have hlow : ∀ f ∈ x.dropLast, f.1 ≠ y.1 := fun f hf2 => by
        have hu := hF.up
        rw [← hx] at hu
        have := (List.pairwise_append.1 hu).2.2 f hf2 y (List.mem_singleton.2 rfl)
        omega
      rw [hly]
      unfold Dk.appR
      rw [if_pos ⟨hf, hwin⟩]
      by_cases hsp : ((Fr.frm p).length : Int) > room - Dk.used x
      · rw [if_pos hsp]
        exact .inl (.inr (.inl rfl))
      · rw [if_neg hsp]
        have hz : (Dk.ins x y.1).map (Dk.app1 y.1 (Fr.frm p)) = x.dropLast ++ [(y.1, y.2.1 ++ Fr.frm p, y.2.2)] := by
          rw [ins_in hym]
          conv => lhs; rw [← hx, List.map_append, Dk.app1_other _ hlow]
          show x.dropLast ++ [Dk.app1 y.1 (Fr.frm p) y] = _
          unfold Dk.app1
          rw [if_pos rfl]
        obtain ⟨ps, h1, h2⟩ := hw y hym
        have hq : ∀ q ∈ ps ++ [p], q.length ≤ 1048576 := fun q hq => (List.mem_append.1 hq).elim (h2 q) (hpp q)
        have hb : y.2.1 ++ Fr.frm p = fl (ps ++ [p]) := by rw [fl_append, fl_one, h1]
        refine .inr ⟨_, rfl, ?_, ?_, app_fmd hf hwin (by omega)⟩
        all_goals rw [hz]
        · intro f hf2
          rcases List.mem_append.1 hf2 with h3 | h3
          · exact hw f (List.dropLast_subset x h3)
          · rw [List.mem_singleton] at h3
            subst h3
            exact ⟨ps ++ [p], hb, hq⟩
        · conv => rhs; rw [← hx]
          rw [recs_append, recs_append, recs_one, recs_one, h1, cut_fl h2]
          show _ ++ (cut (fl ps ++ Fr.frm p)).2 = _
          rw [← fl_one, ← fl_append, cut_fl hq, List.append_assoc]
  · refine .inl (.inr (.inr ⟨?_, by omega⟩))
    unfold appJR
    rw [if_neg (fun h => hp h.2)]
/-- A journal of whole frames is scanned to its records. -/
theorem scanR_whole {room : Int} {zs : List Fi} (hf : Dk.fmd room zs = true) (hw : Whole zs) : ∃ fs, scanR room zs = (recs zs, (room, fs, 0)) := by
  unfold scanR
  rw [if_pos hf, scan_whole hw]
  exact ⟨_, rfl⟩
end Jn
end Go.Proofs.YtkhggofcbdcliaaDoor
namespace Go.Proofs.YtkhggofcbdcliaaDoor
open Go.RowKit

/-- A cell, and what it holds. -/
structure CellIs (w : World) (a : Addr) (u : Value) : Prop where
  c : w.cell? a = some u
theorem CellIs.later {w w' : World} {a : Addr} {u : Value} (h : CellIs w a u) (hb : Below w.heap.size w w') : CellIs w' a u := ⟨cell_later hb h.c⟩

set_option maxRecDepth 100000 in
set_option maxHeartbeats 6400000 in
theorem lawJournalAgain_any (JS : JournalSpec) (room : Int) (A B : Option Addr) (c cb : Nat) (L : List Fc) (p : List Int) (w : World) (h : OneD w A c L) (hp : OneB w B cb p) (hH : Halves w) :
    Calls Tryd.prog 7 #[.agg #[.int .i64 room, .slice A L.length c], .slice B p.length cb] w (Says (.bool true) w) := by
  have hpl := hp.len
  have hby : ∀ f ∈ L.map Fc.fi, ∀ x ∈ f.2.1, isB x := fun f hf => by
    obtain ⟨g, hg, rfl⟩ := List.mem_map.1 hf
    exact (h.each g hg).byte
  have b0 := below_new (Below.refl w.heap.size w) (.cells #[.int .i64 room, .slice A L.length c] 24)
  have HP := Lib.hid (hp.later b0)
  clear b0 hp
  have SP := Lib.hid JS
  clear JS
  have b := below_new (Below.refl w.heap.size w) (.cells #[.int .i64 room, .slice A L.length c] 24)
  have HV := Lib.hid (hH.later b)
  have HD := Lib.hid (h.later b)
  have Y3 := Lib.hid (Blk.new w 24 #[.int .i64 room, .slice A L.length c])
  have BB0 := Lib.hid b
  clear b h hH
  cases hq : Dk.fmd room (L.map Fc.fi) with
  | false =>
    have HR := Lib.hid (show Jn.scanR room (L.map Fc.fi) = ([], (0, [], 1)) from by unfold Jn.scanR; rw [if_neg (by rw [hq]; exact Bool.false_ne_true)])
    have HQ := Lib.hid hq
    clear hq hby
    go_enter Tryd.func7, Tryd.ntmps7
    have nn := jalive_any SP.out (w.alloc (.cells #[.int .i64 room, .slice A L.length c] 24)) HV.out
    have NN := Lib.hid nn
    clear nn
    go_wp2_with fail
    refine NN.out.mono ?_
    clear NN
    rintro e x1 ⟨rfl, b⟩
    replace HP := Lib.hid (HP.out.later b)
    replace HV := Lib.hid (HV.out.later b)
    replace HD := Lib.hid (HD.out.later b)
    replace Y3 := Lib.hid (Y3.out.later b)
    have BB1 := Lib.hid (below_on BB0.out b)
    clear b
    have nn := SP.out.scan room A c L _ HD.out HV.out
    rw [HR.out] at nn
    have NN := Lib.hid nn
    clear nn
    have cY30 := Y3.out.cell (i := 0) rfl
    have cY31 := Y3.out.cell (i := 1) rfl
    go_wp2_with fail
    refine NN.out.mono ?_
    clear NN
    intro e xp h
    obtain ⟨Vp, vp, Ap, cp, Lp, rfl, hV, hO, hf, b⟩ := h.open
    clear h
    clear cY30 cY31
    replace HP := Lib.hid (HP.out.later b)
    replace HV := Lib.hid (HV.out.later b)
    replace HD := Lib.hid (HD.out.later b)
    replace Y3 := Lib.hid (Y3.out.later b)
    have Rp := Lib.hid (hV)
    have Op := Lib.hid (hO.oneD)
    have HFp := Lib.hid hf
    have BB2 := Lib.hid (below_on BB1.out b)
    clear b hO hf hV
    have b := below_new (Below.refl xp.heap.size xp) (.cells #[.int .i64 0, .slice Ap Lp.length cp] 24)
    replace HP := Lib.hid (HP.out.later b)
    replace HV := Lib.hid (HV.out.later b)
    replace HD := Lib.hid (HD.out.later b)
    replace Y3 := Lib.hid (Y3.out.later b)
    replace Rp := Lib.hid (Rp.out.later b)
    replace Op := Lib.hid (Op.out.later b)
    have Y6 := Lib.hid (Blk.new xp 24 #[.int .i64 0, .slice Ap Lp.length cp])
    have BB2a := Lib.hid (below_on BB2.out b)
    clear b
    have nn := dformed_any room A c L _ HD.out
    rw [HQ.out] at nn
    have NN := Lib.hid nn
    clear nn
    have cY30 := Y3.out.cell (i := 0) rfl
    have cY31 := Y3.out.cell (i := 1) rfl
    go_wp2_with fail
    refine NN.out.mono ?_
    clear NN
    rintro e x3 ⟨rfl, b⟩
    clear cY30 cY31
    replace HP := Lib.hid (HP.out.later b)
    replace HV := Lib.hid (HV.out.later b)
    replace HD := Lib.hid (HD.out.later b)
    replace Y3 := Lib.hid (Y3.out.later b)
    replace Rp := Lib.hid (Rp.out.later b)
    replace Op := Lib.hid (Op.out.later b)
    replace Y6 := Lib.hid (Y6.out.later b)
    have BB3 := Lib.hid (below_on BB2a.out b)
    clear b
    go_wp2
    go_ret
    exact ⟨rfl, BB3.out⟩
  | true =>
    obtain ⟨s1, s2, s3, s4⟩ := Jn.scan_again hq hby
    have hR0 : Jn.scanR room (L.map Fc.fi) = ((Jn.scan (L.map Fc.fi)).1, (room, (Jn.scan (L.map Fc.fi)).2.map Dk.syn1, 0)) := by unfold Jn.scanR; rw [if_pos hq]
    obtain ⟨rs, hrs⟩ : ∃ rs, (Jn.scan (L.map Fc.fi)).1 = rs := ⟨_, rfl⟩
    obtain ⟨xs, hxs⟩ : ∃ xs, (Jn.scan (L.map Fc.fi)).2.map Dk.syn1 = xs := ⟨_, rfl⟩
    rw [hrs, hxs] at hR0 s4
    rw [hxs] at s1 s2 s3
    rw [hrs] at s3
    have HR := Lib.hid hR0
    have HR2 := Lib.hid s4
    have HRC := Lib.hid s3
    have hways := Jn.app_ways s1 s2 p
    clear hq hby hR0 hrs hxs s1 s2 s3 s4
    obtain ⟨⟨rm, zs, k⟩, hA⟩ : ∃ r, Jn.appJR room xs p = r := ⟨_, rfl⟩
    rw [hA] at hways
    have HA := Lib.hid hA
    clear hA
    rcases hways with hk | ⟨zs2, hz, hz1, hz2, hz3⟩
    · simp only at hk
      rcases hk with hk | hk | ⟨hk, hlong⟩
      · subst hk
        go_enter Tryd.func7, Tryd.ntmps7
        have nn := jalive_any SP.out (w.alloc (.cells #[.int .i64 room, .slice A L.length c] 24)) HV.out
        have NN := Lib.hid nn
        clear nn
        go_wp2_with fail
        refine NN.out.mono ?_
        clear NN
        rintro e x1 ⟨rfl, b⟩
        replace HP := Lib.hid (HP.out.later b)
        replace HV := Lib.hid (HV.out.later b)
        replace HD := Lib.hid (HD.out.later b)
        replace Y3 := Lib.hid (Y3.out.later b)
        have BB1 := Lib.hid (below_on BB0.out b)
        clear b
        have nn := SP.out.scan room A c L _ HD.out HV.out
        rw [HR.out] at nn
        have NN := Lib.hid nn
        clear nn
        have cY30 := Y3.out.cell (i := 0) rfl
        have cY31 := Y3.out.cell (i := 1) rfl
        go_wp2_with fail
        refine NN.out.mono ?_
        clear NN
        intro e xp h
        obtain ⟨Vp, vp, Ap, cp, Lp, rfl, hV, hO, hf, b⟩ := h.open
        clear h
        clear cY30 cY31
        replace HP := Lib.hid (HP.out.later b)
        replace HV := Lib.hid (HV.out.later b)
        replace HD := Lib.hid (HD.out.later b)
        replace Y3 := Lib.hid (Y3.out.later b)
        have Rp := Lib.hid (hV)
        have Op := Lib.hid (hO.oneD)
        have HFp := Lib.hid hf
        have BB2 := Lib.hid (below_on BB1.out b)
        clear b hO hf hV
        have b := below_new (Below.refl xp.heap.size xp) (.cells #[.int .i64 room, .slice Ap Lp.length cp] 24)
        replace HP := Lib.hid (HP.out.later b)
        replace HV := Lib.hid (HV.out.later b)
        replace HD := Lib.hid (HD.out.later b)
        replace Y3 := Lib.hid (Y3.out.later b)
        replace Rp := Lib.hid (Rp.out.later b)
        replace Op := Lib.hid (Op.out.later b)
        have Y6 := Lib.hid (Blk.new xp 24 #[.int .i64 room, .slice Ap Lp.length cp])
        have BB2a := Lib.hid (below_on BB2.out b)
        clear b
        have nn := SP.out.scan room Ap cp Lp _ Op.out HV.out
        rw [HFp.out, HR2.out] at nn
        have NN := Lib.hid nn
        clear nn
        have cY60 := Y6.out.cell (i := 0) rfl
        have cY61 := Y6.out.cell (i := 1) rfl
        go_wp2_with fail
        refine NN.out.mono ?_
        clear NN
        intro e xq h
        obtain ⟨Vq, vq, Aq, cq, Lq, rfl, hV, hO, hf, b⟩ := h.open
        clear h
        clear cY60 cY61
        replace HP := Lib.hid (HP.out.later b)
        replace HV := Lib.hid (HV.out.later b)
        replace HD := Lib.hid (HD.out.later b)
        replace Y3 := Lib.hid (Y3.out.later b)
        replace Rp := Lib.hid (Rp.out.later b)
        replace Op := Lib.hid (Op.out.later b)
        replace Y6 := Lib.hid (Y6.out.later b)
        have Rq := Lib.hid (hV)
        have Oq := Lib.hid (hO.oneD)
        have HFq := Lib.hid hf
        have BB3 := Lib.hid (below_on BB2a.out b)
        clear b hO hf hV
        have b := below_new (Below.refl xq.heap.size xq) (.cells #[.int .i64 room, .slice Aq Lq.length cq] 24)
        replace HP := Lib.hid (HP.out.later b)
        replace HV := Lib.hid (HV.out.later b)
        replace HD := Lib.hid (HD.out.later b)
        replace Y3 := Lib.hid (Y3.out.later b)
        replace Rp := Lib.hid (Rp.out.later b)
        replace Op := Lib.hid (Op.out.later b)
        replace Y6 := Lib.hid (Y6.out.later b)
        replace Rq := Lib.hid (Rq.out.later b)
        replace Oq := Lib.hid (Oq.out.later b)
        have Y9 := Lib.hid (Blk.new xq 24 #[.int .i64 room, .slice Aq Lq.length cq])
        have BB3a := Lib.hid (below_on BB3.out b)
        clear b
        have nn := rlists_any Vp Vq vp vq rs rs _ Rp.out Rq.out
        rw [decide_eq_true rfl] at nn
        have NN := Lib.hid nn
        clear nn
        go_wp2_with fail
        refine NN.out.mono ?_
        clear NN
        rintro e x4 ⟨rfl, b⟩
        replace HP := Lib.hid (HP.out.later b)
        replace HV := Lib.hid (HV.out.later b)
        replace HD := Lib.hid (HD.out.later b)
        replace Y3 := Lib.hid (Y3.out.later b)
        replace Rp := Lib.hid (Rp.out.later b)
        replace Op := Lib.hid (Op.out.later b)
        replace Y6 := Lib.hid (Y6.out.later b)
        replace Rq := Lib.hid (Rq.out.later b)
        replace Oq := Lib.hid (Oq.out.later b)
        replace Y9 := Lib.hid (Y9.out.later b)
        have BB4 := Lib.hid (below_on BB3a.out b)
        clear b
        have nn := rsameD_any room room Ap Aq cp cq Lp Lq _ Op.out Oq.out
        rw [decide_eq_true (show room = room ∧ Lp.map Fc.fi = Lq.map Fc.fi from ⟨rfl, by rw [HFp.out, HFq.out]⟩)] at nn
        have NN := Lib.hid nn
        clear nn
        have cY60 := Y6.out.cell (i := 0) rfl
        have cY61 := Y6.out.cell (i := 1) rfl
        have cY90 := Y9.out.cell (i := 0) rfl
        have cY91 := Y9.out.cell (i := 1) rfl
        go_wp2_with fail
        refine NN.out.mono ?_
        clear NN
        rintro e x5 ⟨rfl, b⟩
        clear cY60 cY61 cY90 cY91
        replace HP := Lib.hid (HP.out.later b)
        replace HV := Lib.hid (HV.out.later b)
        replace HD := Lib.hid (HD.out.later b)
        replace Y3 := Lib.hid (Y3.out.later b)
        replace Rp := Lib.hid (Rp.out.later b)
        replace Op := Lib.hid (Op.out.later b)
        replace Y6 := Lib.hid (Y6.out.later b)
        replace Rq := Lib.hid (Rq.out.later b)
        replace Oq := Lib.hid (Oq.out.later b)
        replace Y9 := Lib.hid (Y9.out.later b)
        have BB5 := Lib.hid (below_on BB4.out b)
        clear b
        have nn := SP.out.append room Ap B cp cb Lp p _ Op.out HP.out HV.out
        rw [HFp.out, HA.out] at nn
        have NN := Lib.hid nn
        clear nn
        have cY60 := Y6.out.cell (i := 0) rfl
        have cY61 := Y6.out.cell (i := 1) rfl
        go_wp2_with fail
        refine NN.out.mono ?_
        clear NN
        intro e xz h
        obtain ⟨Az, cz, Lz, rfl, hO, hf, b⟩ := h.open
        clear h
        clear cY60 cY61
        replace HP := Lib.hid (HP.out.later b)
        replace HV := Lib.hid (HV.out.later b)
        replace HD := Lib.hid (HD.out.later b)
        replace Y3 := Lib.hid (Y3.out.later b)
        replace Rp := Lib.hid (Rp.out.later b)
        replace Op := Lib.hid (Op.out.later b)
        replace Y6 := Lib.hid (Y6.out.later b)
        replace Rq := Lib.hid (Rq.out.later b)
        replace Oq := Lib.hid (Oq.out.later b)
        replace Y9 := Lib.hid (Y9.out.later b)
        have Oz := Lib.hid (hO.oneD)
        have HFz := Lib.hid hf
        have BB6 := Lib.hid (below_on BB5.out b)
        clear b hO hf
        have b := below_new (Below.refl xz.heap.size xz) (.cells #[.int .i64 rm, .slice Az Lz.length cz] 24)
        replace HP := Lib.hid (HP.out.later b)
        replace HV := Lib.hid (HV.out.later b)
        replace HD := Lib.hid (HD.out.later b)
        replace Y3 := Lib.hid (Y3.out.later b)
        replace Rp := Lib.hid (Rp.out.later b)
        replace Op := Lib.hid (Op.out.later b)
        replace Y6 := Lib.hid (Y6.out.later b)
        replace Rq := Lib.hid (Rq.out.later b)
        replace Oq := Lib.hid (Oq.out.later b)
        replace Y9 := Lib.hid (Y9.out.later b)
        replace Oz := Lib.hid (Oz.out.later b)
        have Y11 := Lib.hid (Blk.new xz 24 #[.int .i64 rm, .slice Az Lz.length cz])
        have BB6a := Lib.hid (below_on BB6.out b)
        clear b
        go_wp2
        go_ret
        exact ⟨rfl, BB6a.out⟩
      · subst hk
        go_enter Tryd.func7, Tryd.ntmps7
        have nn := jalive_any SP.out (w.alloc (.cells #[.int .i64 room, .slice A L.length c] 24)) HV.out
        have NN := Lib.hid nn
        clear nn
        go_wp2_with fail
        refine NN.out.mono ?_
        clear NN
        rintro e x1 ⟨rfl, b⟩
        replace HP := Lib.hid (HP.out.later b)
        replace HV := Lib.hid (HV.out.later b)
        replace HD := Lib.hid (HD.out.later b)
        replace Y3 := Lib.hid (Y3.out.later b)
        have BB1 := Lib.hid (below_on BB0.out b)
        clear b
        have nn := SP.out.scan room A c L _ HD.out HV.out
        rw [HR.out] at nn
        have NN := Lib.hid nn
        clear nn
        have cY30 := Y3.out.cell (i := 0) rfl
        have cY31 := Y3.out.cell (i := 1) rfl
        go_wp2_with fail
        refine NN.out.mono ?_
        clear NN
        intro e xp h
        obtain ⟨Vp, vp, Ap, cp, Lp, rfl, hV, hO, hf, b⟩ := h.open
        clear h
        clear cY30 cY31
        replace HP := Lib.hid (HP.out.later b)
        replace HV := Lib.hid (HV.out.later b)
        replace HD := Lib.hid (HD.out.later b)
        replace Y3 := Lib.hid (Y3.out.later b)
        have Rp := Lib.hid (hV)
        have Op := Lib.hid (hO.oneD)
        have HFp := Lib.hid hf
        have BB2 := Lib.hid (below_on BB1.out b)
        clear b hO hf hV
        have b := below_new (Below.refl xp.heap.size xp) (.cells #[.int .i64 room, .slice Ap Lp.length cp] 24)
        replace HP := Lib.hid (HP.out.later b)
        replace HV := Lib.hid (HV.out.later b)
        replace HD := Lib.hid (HD.out.later b)
        replace Y3 := Lib.hid (Y3.out.later b)
        replace Rp := Lib.hid (Rp.out.later b)
        replace Op := Lib.hid (Op.out.later b)
        have Y6 := Lib.hid (Blk.new xp 24 #[.int .i64 room, .slice Ap Lp.length cp])
        have BB2a := Lib.hid (below_on BB2.out b)
        clear b
        have nn := SP.out.scan room Ap cp Lp _ Op.out HV.out
        rw [HFp.out, HR2.out] at nn
        have NN := Lib.hid nn
        clear nn
        have cY60 := Y6.out.cell (i := 0) rfl
        have cY61 := Y6.out.cell (i := 1) rfl
        go_wp2_with fail
        refine NN.out.mono ?_
        clear NN
        intro e xq h
        obtain ⟨Vq, vq, Aq, cq, Lq, rfl, hV, hO, hf, b⟩ := h.open
        clear h
        clear cY60 cY61
        replace HP := Lib.hid (HP.out.later b)
        replace HV := Lib.hid (HV.out.later b)
        replace HD := Lib.hid (HD.out.later b)
        replace Y3 := Lib.hid (Y3.out.later b)
        replace Rp := Lib.hid (Rp.out.later b)
        replace Op := Lib.hid (Op.out.later b)
        replace Y6 := Lib.hid (Y6.out.later b)
        have Rq := Lib.hid (hV)
        have Oq := Lib.hid (hO.oneD)
        have HFq := Lib.hid hf
        have BB3 := Lib.hid (below_on BB2a.out b)
        clear b hO hf hV
        have b := below_new (Below.refl xq.heap.size xq) (.cells #[.int .i64 room, .slice Aq Lq.length cq] 24)
        replace HP := Lib.hid (HP.out.later b)
        replace HV := Lib.hid (HV.out.later b)
        replace HD := Lib.hid (HD.out.later b)
        replace Y3 := Lib.hid (Y3.out.later b)
        replace Rp := Lib.hid (Rp.out.later b)
        replace Op := Lib.hid (Op.out.later b)
        replace Y6 := Lib.hid (Y6.out.later b)
        replace Rq := Lib.hid (Rq.out.later b)
        replace Oq := Lib.hid (Oq.out.later b)
        have Y9 := Lib.hid (Blk.new xq 24 #[.int .i64 room, .slice Aq Lq.length cq])
        have BB3a := Lib.hid (below_on BB3.out b)
        clear b
        have nn := rlists_any Vp Vq vp vq rs rs _ Rp.out Rq.out
        rw [decide_eq_true rfl] at nn
        have NN := Lib.hid nn
        clear nn
        go_wp2_with fail
        refine NN.out.mono ?_
        clear NN
        rintro e x4 ⟨rfl, b⟩
        replace HP := Lib.hid (HP.out.later b)
        replace HV := Lib.hid (HV.out.later b)
        replace HD := Lib.hid (HD.out.later b)
        replace Y3 := Lib.hid (Y3.out.later b)
        replace Rp := Lib.hid (Rp.out.later b)
        replace Op := Lib.hid (Op.out.later b)
        replace Y6 := Lib.hid (Y6.out.later b)
        replace Rq := Lib.hid (Rq.out.later b)
        replace Oq := Lib.hid (Oq.out.later b)
        replace Y9 := Lib.hid (Y9.out.later b)
        have BB4 := Lib.hid (below_on BB3a.out b)
        clear b
        have nn := rsameD_any room room Ap Aq cp cq Lp Lq _ Op.out Oq.out
        rw [decide_eq_true (show room = room ∧ Lp.map Fc.fi = Lq.map Fc.fi from ⟨rfl, by rw [HFp.out, HFq.out]⟩)] at nn
        have NN := Lib.hid nn
        clear nn
        have cY60 := Y6.out.cell (i := 0) rfl
        have cY61 := Y6.out.cell (i := 1) rfl
        have cY90 := Y9.out.cell (i := 0) rfl
        have cY91 := Y9.out.cell (i := 1) rfl
        go_wp2_with fail
        refine NN.out.mono ?_
        clear NN
        rintro e x5 ⟨rfl, b⟩
        clear cY60 cY61 cY90 cY91
        replace HP := Lib.hid (HP.out.later b)
        replace HV := Lib.hid (HV.out.later b)
        replace HD := Lib.hid (HD.out.later b)
        replace Y3 := Lib.hid (Y3.out.later b)
        replace Rp := Lib.hid (Rp.out.later b)
        replace Op := Lib.hid (Op.out.later b)
        replace Y6 := Lib.hid (Y6.out.later b)
        replace Rq := Lib.hid (Rq.out.later b)
        replace Oq := Lib.hid (Oq.out.later b)
        replace Y9 := Lib.hid (Y9.out.later b)
        have BB5 := Lib.hid (below_on BB4.out b)
        clear b
        have nn := SP.out.append room Ap B cp cb Lp p _ Op.out HP.out HV.out
        rw [HFp.out, HA.out] at nn
        have NN := Lib.hid nn
        clear nn
        have cY60 := Y6.out.cell (i := 0) rfl
        have cY61 := Y6.out.cell (i := 1) rfl
        go_wp2_with fail
        refine NN.out.mono ?_
        clear NN
        intro e xz h
        obtain ⟨Az, cz, Lz, rfl, hO, hf, b⟩ := h.open
        clear h
        clear cY60 cY61
        replace HP := Lib.hid (HP.out.later b)
        replace HV := Lib.hid (HV.out.later b)
        replace HD := Lib.hid (HD.out.later b)
        replace Y3 := Lib.hid (Y3.out.later b)
        replace Rp := Lib.hid (Rp.out.later b)
        replace Op := Lib.hid (Op.out.later b)
        replace Y6 := Lib.hid (Y6.out.later b)
        replace Rq := Lib.hid (Rq.out.later b)
        replace Oq := Lib.hid (Oq.out.later b)
        replace Y9 := Lib.hid (Y9.out.later b)
        have Oz := Lib.hid (hO.oneD)
        have HFz := Lib.hid hf
        have BB6 := Lib.hid (below_on BB5.out b)
        clear b hO hf
        have b := below_new (Below.refl xz.heap.size xz) (.cells #[.int .i64 rm, .slice Az Lz.length cz] 24)
        replace HP := Lib.hid (HP.out.later b)
        replace HV := Lib.hid (HV.out.later b)
        replace HD := Lib.hid (HD.out.later b)
        replace Y3 := Lib.hid (Y3.out.later b)
        replace Rp := Lib.hid (Rp.out.later b)
        replace Op := Lib.hid (Op.out.later b)
        replace Y6 := Lib.hid (Y6.out.later b)
        replace Rq := Lib.hid (Rq.out.later b)
        replace Oq := Lib.hid (Oq.out.later b)
        replace Y9 := Lib.hid (Y9.out.later b)
        replace Oz := Lib.hid (Oz.out.later b)
        have Y11 := Lib.hid (Blk.new xz 24 #[.int .i64 rm, .slice Az Lz.length cz])
        have BB6a := Lib.hid (below_on BB6.out b)
        clear b
        go_wp2
        go_ret
        exact ⟨rfl, BB6a.out⟩
      · subst hk
        have dl : decide ((1048576 : Int) < (p.length : Int)) = true := decide_eq_true (by omega)
        go_enter Tryd.func7, Tryd.ntmps7
        have nn := jalive_any SP.out (w.alloc (.cells #[.int .i64 room, .slice A L.length c] 24)) HV.out
        have NN := Lib.hid nn
        clear nn
        go_wp2_with fail
        refine NN.out.mono ?_
        clear NN
        rintro e x1 ⟨rfl, b⟩
        replace HP := Lib.hid (HP.out.later b)
        replace HV := Lib.hid (HV.out.later b)
        replace HD := Lib.hid (HD.out.later b)
        replace Y3 := Lib.hid (Y3.out.later b)
        have BB1 := Lib.hid (below_on BB0.out b)
        clear b
        have nn := SP.out.scan room A c L _ HD.out HV.out
        rw [HR.out] at nn
        have NN := Lib.hid nn
        clear nn
        have cY30 := Y3.out.cell (i := 0) rfl
        have cY31 := Y3.out.cell (i := 1) rfl
        go_wp2_with fail
        refine NN.out.mono ?_
        clear NN
        intro e xp h
        obtain ⟨Vp, vp, Ap, cp, Lp, rfl, hV, hO, hf, b⟩ := h.open
        clear h
        clear cY30 cY31
        replace HP := Lib.hid (HP.out.later b)
        replace HV := Lib.hid (HV.out.later b)
        replace HD := Lib.hid (HD.out.later b)
        replace Y3 := Lib.hid (Y3.out.later b)
        have Rp := Lib.hid (hV)
        have Op := Lib.hid (hO.oneD)
        have HFp := Lib.hid hf
        have BB2 := Lib.hid (below_on BB1.out b)
        clear b hO hf hV
        have b := below_new (Below.refl xp.heap.size xp) (.cells #[.int .i64 room, .slice Ap Lp.length cp] 24)
        replace HP := Lib.hid (HP.out.later b)
        replace HV := Lib.hid (HV.out.later b)
        replace HD := Lib.hid (HD.out.later b)
        replace Y3 := Lib.hid (Y3.out.later b)
        replace Rp := Lib.hid (Rp.out.later b)
        replace Op := Lib.hid (Op.out.later b)
        have Y6 := Lib.hid (Blk.new xp 24 #[.int .i64 room, .slice Ap Lp.length cp])
        have BB2a := Lib.hid (below_on BB2.out b)
        clear b
        have nn := SP.out.scan room Ap cp Lp _ Op.out HV.out
        rw [HFp.out, HR2.out] at nn
        have NN := Lib.hid nn
        clear nn
        have cY60 := Y6.out.cell (i := 0) rfl
        have cY61 := Y6.out.cell (i := 1) rfl
        go_wp2_with fail
        refine NN.out.mono ?_
        clear NN
        intro e xq h
        obtain ⟨Vq, vq, Aq, cq, Lq, rfl, hV, hO, hf, b⟩ := h.open
        clear h
        clear cY60 cY61
        replace HP := Lib.hid (HP.out.later b)
        replace HV := Lib.hid (HV.out.later b)
        replace HD := Lib.hid (HD.out.later b)
        replace Y3 := Lib.hid (Y3.out.later b)
        replace Rp := Lib.hid (Rp.out.later b)
        replace Op := Lib.hid (Op.out.later b)
        replace Y6 := Lib.hid (Y6.out.later b)
        have Rq := Lib.hid (hV)
        have Oq := Lib.hid (hO.oneD)
        have HFq := Lib.hid hf
        have BB3 := Lib.hid (below_on BB2a.out b)
        clear b hO hf hV
        have b := below_new (Below.refl xq.heap.size xq) (.cells #[.int .i64 room, .slice Aq Lq.length cq] 24)
        replace HP := Lib.hid (HP.out.later b)
        replace HV := Lib.hid (HV.out.later b)
        replace HD := Lib.hid (HD.out.later b)
        replace Y3 := Lib.hid (Y3.out.later b)
        replace Rp := Lib.hid (Rp.out.later b)
        replace Op := Lib.hid (Op.out.later b)
        replace Y6 := Lib.hid (Y6.out.later b)
        replace Rq := Lib.hid (Rq.out.later b)
        replace Oq := Lib.hid (Oq.out.later b)
        have Y9 := Lib.hid (Blk.new xq 24 #[.int .i64 room, .slice Aq Lq.length cq])
        have BB3a := Lib.hid (below_on BB3.out b)
        clear b
        have nn := rlists_any Vp Vq vp vq rs rs _ Rp.out Rq.out
        rw [decide_eq_true rfl] at nn
        have NN := Lib.hid nn
        clear nn
        go_wp2_with fail
        refine NN.out.mono ?_
        clear NN
        rintro e x4 ⟨rfl, b⟩
        replace HP := Lib.hid (HP.out.later b)
        replace HV := Lib.hid (HV.out.later b)
        replace HD := Lib.hid (HD.out.later b)
        replace Y3 := Lib.hid (Y3.out.later b)
        replace Rp := Lib.hid (Rp.out.later b)
        replace Op := Lib.hid (Op.out.later b)
        replace Y6 := Lib.hid (Y6.out.later b)
        replace Rq := Lib.hid (Rq.out.later b)
        replace Oq := Lib.hid (Oq.out.later b)
        replace Y9 := Lib.hid (Y9.out.later b)
        have BB4 := Lib.hid (below_on BB3a.out b)
        clear b
        have nn := rsameD_any room room Ap Aq cp cq Lp Lq _ Op.out Oq.out
        rw [decide_eq_true (show room = room ∧ Lp.map Fc.fi = Lq.map Fc.fi from ⟨rfl, by rw [HFp.out, HFq.out]⟩)] at nn
        have NN := Lib.hid nn
        clear nn
        have cY60 := Y6.out.cell (i := 0) rfl
        have cY61 := Y6.out.cell (i := 1) rfl
        have cY90 := Y9.out.cell (i := 0) rfl
        have cY91 := Y9.out.cell (i := 1) rfl
        go_wp2_with fail
        refine NN.out.mono ?_
        clear NN
        rintro e x5 ⟨rfl, b⟩
        clear cY60 cY61 cY90 cY91
        replace HP := Lib.hid (HP.out.later b)
        replace HV := Lib.hid (HV.out.later b)
        replace HD := Lib.hid (HD.out.later b)
        replace Y3 := Lib.hid (Y3.out.later b)
        replace Rp := Lib.hid (Rp.out.later b)
        replace Op := Lib.hid (Op.out.later b)
        replace Y6 := Lib.hid (Y6.out.later b)
        replace Rq := Lib.hid (Rq.out.later b)
        replace Oq := Lib.hid (Oq.out.later b)
        replace Y9 := Lib.hid (Y9.out.later b)
        have BB5 := Lib.hid (below_on BB4.out b)
        clear b
        have nn := SP.out.append room Ap B cp cb Lp p _ Op.out HP.out HV.out
        rw [HFp.out, HA.out] at nn
        have NN := Lib.hid nn
        clear nn
        have cY60 := Y6.out.cell (i := 0) rfl
        have cY61 := Y6.out.cell (i := 1) rfl
        go_wp2_with fail
        refine NN.out.mono ?_
        clear NN
        intro e xz h
        obtain ⟨Az, cz, Lz, rfl, hO, hf, b⟩ := h.open
        clear h
        clear cY60 cY61
        replace HP := Lib.hid (HP.out.later b)
        replace HV := Lib.hid (HV.out.later b)
        replace HD := Lib.hid (HD.out.later b)
        replace Y3 := Lib.hid (Y3.out.later b)
        replace Rp := Lib.hid (Rp.out.later b)
        replace Op := Lib.hid (Op.out.later b)
        replace Y6 := Lib.hid (Y6.out.later b)
        replace Rq := Lib.hid (Rq.out.later b)
        replace Oq := Lib.hid (Oq.out.later b)
        replace Y9 := Lib.hid (Y9.out.later b)
        have Oz := Lib.hid (hO.oneD)
        have HFz := Lib.hid hf
        have BB6 := Lib.hid (below_on BB5.out b)
        clear b hO hf
        have b := below_new (Below.refl xz.heap.size xz) (.cells #[.int .i64 rm, .slice Az Lz.length cz] 24)
        replace HP := Lib.hid (HP.out.later b)
        replace HV := Lib.hid (HV.out.later b)
        replace HD := Lib.hid (HD.out.later b)
        replace Y3 := Lib.hid (Y3.out.later b)
        replace Rp := Lib.hid (Rp.out.later b)
        replace Op := Lib.hid (Op.out.later b)
        replace Y6 := Lib.hid (Y6.out.later b)
        replace Rq := Lib.hid (Rq.out.later b)
        replace Oq := Lib.hid (Oq.out.later b)
        replace Y9 := Lib.hid (Y9.out.later b)
        replace Oz := Lib.hid (Oz.out.later b)
        have Y11 := Lib.hid (Blk.new xz 24 #[.int .i64 rm, .slice Az Lz.length cz])
        have BB6a := Lib.hid (below_on BB6.out b)
        clear b
        go_wp2
        go_ret
        exact ⟨rfl, BB6a.out⟩
    · injection hz with e1 hz
      injection hz with e2 e3
      have e1 := e1.symm
      subst e1 e2 e3
      obtain ⟨fs4, hs4⟩ := Jn.scanR_whole hz3 hz1
      obtain ⟨rn, hrn⟩ : ∃ rn, rs ++ [p] = rn := ⟨_, rfl⟩
      have hlen : rn.length = rs.length + 1 := by rw [← hrn, List.length_append]; rfl
      have htk : rn.take rs.length = rs := by rw [← hrn, List.take_left]
      have hgt : rn.getD rs.length [] = p := by rw [← hrn, List.getD_eq_getElem?_getD, List.getElem?_concat_length]; rfl
      rw [hz2, HRC.out, hrn] at hs4
      have HR4 := Lib.hid hs4
      have HLE := Lib.hid hlen; have HTK := Lib.hid htk; have HGT := Lib.hid hgt
      clear hz1 hz2 hz3 hs4 hrn htk hgt
      clear hlen
      go_enter Tryd.func7, Tryd.ntmps7
      have nn := jalive_any SP.out (w.alloc (.cells #[.int .i64 room, .slice A L.length c] 24)) HV.out
      have NN := Lib.hid nn
      clear nn
      go_wp2_with fail
      refine NN.out.mono ?_
      clear NN
      rintro e x1 ⟨rfl, b⟩
      replace HP := Lib.hid (HP.out.later b)
      replace HV := Lib.hid (HV.out.later b)
      replace HD := Lib.hid (HD.out.later b)
      replace Y3 := Lib.hid (Y3.out.later b)
      have BB1 := Lib.hid (below_on BB0.out b)
      clear b
      have nn := SP.out.scan room A c L _ HD.out HV.out
      rw [HR.out] at nn
      have NN := Lib.hid nn
      clear nn
      have cY30 := Y3.out.cell (i := 0) rfl
      have cY31 := Y3.out.cell (i := 1) rfl
      go_wp2_with fail
      refine NN.out.mono ?_
      clear NN
      intro e xp h
      obtain ⟨Vp, vp, Ap, cp, Lp, rfl, hV, hO, hf, b⟩ := h.open
      clear h
      clear cY30 cY31
      replace HP := Lib.hid (HP.out.later b)
      replace HV := Lib.hid (HV.out.later b)
      replace HD := Lib.hid (HD.out.later b)
      replace Y3 := Lib.hid (Y3.out.later b)
      have Rp := Lib.hid (hV)
      have Op := Lib.hid (hO.oneD)
      have HFp := Lib.hid hf
      have BB2 := Lib.hid (below_on BB1.out b)
      clear b hO hf hV
      have b := below_new (Below.refl xp.heap.size xp) (.cells #[.int .i64 room, .slice Ap Lp.length cp] 24)
      replace HP := Lib.hid (HP.out.later b)
      replace HV := Lib.hid (HV.out.later b)
      replace HD := Lib.hid (HD.out.later b)
      replace Y3 := Lib.hid (Y3.out.later b)
      replace Rp := Lib.hid (Rp.out.later b)
      replace Op := Lib.hid (Op.out.later b)
      have Y6 := Lib.hid (Blk.new xp 24 #[.int .i64 room, .slice Ap Lp.length cp])
      have BB2a := Lib.hid (below_on BB2.out b)
      clear b
      have nn := SP.out.scan room Ap cp Lp _ Op.out HV.out
      rw [HFp.out, HR2.out] at nn
      have NN := Lib.hid nn
      clear nn
      have cY60 := Y6.out.cell (i := 0) rfl
      have cY61 := Y6.out.cell (i := 1) rfl
      go_wp2_with fail
      refine NN.out.mono ?_
      clear NN
      intro e xq h
      obtain ⟨Vq, vq, Aq, cq, Lq, rfl, hV, hO, hf, b⟩ := h.open
      clear h
      clear cY60 cY61
      replace HP := Lib.hid (HP.out.later b)
      replace HV := Lib.hid (HV.out.later b)
      replace HD := Lib.hid (HD.out.later b)
      replace Y3 := Lib.hid (Y3.out.later b)
      replace Rp := Lib.hid (Rp.out.later b)
      replace Op := Lib.hid (Op.out.later b)
      replace Y6 := Lib.hid (Y6.out.later b)
      have Rq := Lib.hid (hV)
      have Oq := Lib.hid (hO.oneD)
      have HFq := Lib.hid hf
      have BB3 := Lib.hid (below_on BB2a.out b)
      clear b hO hf hV
      have b := below_new (Below.refl xq.heap.size xq) (.cells #[.int .i64 room, .slice Aq Lq.length cq] 24)
      replace HP := Lib.hid (HP.out.later b)
      replace HV := Lib.hid (HV.out.later b)
      replace HD := Lib.hid (HD.out.later b)
      replace Y3 := Lib.hid (Y3.out.later b)
      replace Rp := Lib.hid (Rp.out.later b)
      replace Op := Lib.hid (Op.out.later b)
      replace Y6 := Lib.hid (Y6.out.later b)
      replace Rq := Lib.hid (Rq.out.later b)
      replace Oq := Lib.hid (Oq.out.later b)
      have Y9 := Lib.hid (Blk.new xq 24 #[.int .i64 room, .slice Aq Lq.length cq])
      have BB3a := Lib.hid (below_on BB3.out b)
      clear b
      have nn := rlists_any Vp Vq vp vq rs rs _ Rp.out Rq.out
      rw [decide_eq_true rfl] at nn
      have NN := Lib.hid nn
      clear nn
      go_wp2_with fail
      refine NN.out.mono ?_
      clear NN
      rintro e x4 ⟨rfl, b⟩
      replace HP := Lib.hid (HP.out.later b)
      replace HV := Lib.hid (HV.out.later b)
      replace HD := Lib.hid (HD.out.later b)
      replace Y3 := Lib.hid (Y3.out.later b)
      replace Rp := Lib.hid (Rp.out.later b)
      replace Op := Lib.hid (Op.out.later b)
      replace Y6 := Lib.hid (Y6.out.later b)
      replace Rq := Lib.hid (Rq.out.later b)
      replace Oq := Lib.hid (Oq.out.later b)
      replace Y9 := Lib.hid (Y9.out.later b)
      have BB4 := Lib.hid (below_on BB3a.out b)
      clear b
      have nn := rsameD_any room room Ap Aq cp cq Lp Lq _ Op.out Oq.out
      rw [decide_eq_true (show room = room ∧ Lp.map Fc.fi = Lq.map Fc.fi from ⟨rfl, by rw [HFp.out, HFq.out]⟩)] at nn
      have NN := Lib.hid nn
      clear nn
      have cY60 := Y6.out.cell (i := 0) rfl
      have cY61 := Y6.out.cell (i := 1) rfl
      have cY90 := Y9.out.cell (i := 0) rfl
      have cY91 := Y9.out.cell (i := 1) rfl
      go_wp2_with fail
      refine NN.out.mono ?_
      clear NN
      rintro e x5 ⟨rfl, b⟩
      clear cY60 cY61 cY90 cY91
      replace HP := Lib.hid (HP.out.later b)
      replace HV := Lib.hid (HV.out.later b)
      replace HD := Lib.hid (HD.out.later b)
      replace Y3 := Lib.hid (Y3.out.later b)
      replace Rp := Lib.hid (Rp.out.later b)
      replace Op := Lib.hid (Op.out.later b)
      replace Y6 := Lib.hid (Y6.out.later b)
      replace Rq := Lib.hid (Rq.out.later b)
      replace Oq := Lib.hid (Oq.out.later b)
      replace Y9 := Lib.hid (Y9.out.later b)
      have BB5 := Lib.hid (below_on BB4.out b)
      clear b
      have nn := SP.out.append room Ap B cp cb Lp p _ Op.out HP.out HV.out
      rw [HFp.out, HA.out] at nn
      have NN := Lib.hid nn
      clear nn
      have cY60 := Y6.out.cell (i := 0) rfl
      have cY61 := Y6.out.cell (i := 1) rfl
      go_wp2_with fail
      refine NN.out.mono ?_
      clear NN
      intro e xz h
      obtain ⟨Az, cz, Lz, rfl, hO, hf, b⟩ := h.open
      clear h
      clear cY60 cY61
      replace HP := Lib.hid (HP.out.later b)
      replace HV := Lib.hid (HV.out.later b)
      replace HD := Lib.hid (HD.out.later b)
      replace Y3 := Lib.hid (Y3.out.later b)
      replace Rp := Lib.hid (Rp.out.later b)
      replace Op := Lib.hid (Op.out.later b)
      replace Y6 := Lib.hid (Y6.out.later b)
      replace Rq := Lib.hid (Rq.out.later b)
      replace Oq := Lib.hid (Oq.out.later b)
      replace Y9 := Lib.hid (Y9.out.later b)
      have Oz := Lib.hid (hO.oneD)
      have HFz := Lib.hid hf
      have BB6 := Lib.hid (below_on BB5.out b)
      clear b hO hf
      have b := below_new (Below.refl xz.heap.size xz) (.cells #[.int .i64 room, .slice Az Lz.length cz] 24)
      replace HP := Lib.hid (HP.out.later b)
      replace HV := Lib.hid (HV.out.later b)
      replace HD := Lib.hid (HD.out.later b)
      replace Y3 := Lib.hid (Y3.out.later b)
      replace Rp := Lib.hid (Rp.out.later b)
      replace Op := Lib.hid (Op.out.later b)
      replace Y6 := Lib.hid (Y6.out.later b)
      replace Rq := Lib.hid (Rq.out.later b)
      replace Oq := Lib.hid (Oq.out.later b)
      replace Y9 := Lib.hid (Y9.out.later b)
      replace Oz := Lib.hid (Oz.out.later b)
      have Y11 := Lib.hid (Blk.new xz 24 #[.int .i64 room, .slice Az Lz.length cz])
      have BB6a := Lib.hid (below_on BB6.out b)
      clear b
      have nn := SP.out.scan room Az cz Lz _ Oz.out HV.out
      rw [HFz.out, HR4.out] at nn
      have NN := Lib.hid nn
      clear nn
      have cY110 := Y11.out.cell (i := 0) rfl
      have cY111 := Y11.out.cell (i := 1) rfl
      go_wp2_with fail
      refine NN.out.mono ?_
      clear NN
      intro e xn h
      obtain ⟨Vn, vn, An, cn, Ln, rfl, hV, hO, hf, b⟩ := h.open
      clear h
      clear cY110 cY111
      replace HP := Lib.hid (HP.out.later b)
      replace HV := Lib.hid (HV.out.later b)
      replace HD := Lib.hid (HD.out.later b)
      replace Y3 := Lib.hid (Y3.out.later b)
      replace Rp := Lib.hid (Rp.out.later b)
      replace Op := Lib.hid (Op.out.later b)
      replace Y6 := Lib.hid (Y6.out.later b)
      replace Rq := Lib.hid (Rq.out.later b)
      replace Oq := Lib.hid (Oq.out.later b)
      replace Y9 := Lib.hid (Y9.out.later b)
      replace Oz := Lib.hid (Oz.out.later b)
      replace Y11 := Lib.hid (Y11.out.later b)
      have Rn := Lib.hid (hV)
      have On := Lib.hid (hO.oneD)
      have HFn := Lib.hid hf
      have BB7 := Lib.hid (below_on BB6a.out b)
      clear b hO hf hV
      have b := below_new (Below.refl xn.heap.size xn) (.cells #[.int .i64 room, .slice An Ln.length cn] 24)
      replace HP := Lib.hid (HP.out.later b)
      replace HV := Lib.hid (HV.out.later b)
      replace HD := Lib.hid (HD.out.later b)
      replace Y3 := Lib.hid (Y3.out.later b)
      replace Rp := Lib.hid (Rp.out.later b)
      replace Op := Lib.hid (Op.out.later b)
      replace Y6 := Lib.hid (Y6.out.later b)
      replace Rq := Lib.hid (Rq.out.later b)
      replace Oq := Lib.hid (Oq.out.later b)
      replace Y9 := Lib.hid (Y9.out.later b)
      replace Oz := Lib.hid (Oz.out.later b)
      replace Y11 := Lib.hid (Y11.out.later b)
      replace Rn := Lib.hid (Rn.out.later b)
      replace On := Lib.hid (On.out.later b)
      have Y14 := Lib.hid (Blk.new xn 24 #[.int .i64 room, .slice An Ln.length cn])
      have BB7a := Lib.hid (below_on BB7.out b)
      clear b
      obtain ⟨bv, ov, hVn, hcn⟩ := Rn.out.lies (fun e => by have := HLE.out; rw [e] at this; simp at this)
      obtain ⟨X, cx, r1, hX⟩ := hcn rs.length (by have := HLE.out; omega)
      rw [HGT.out] at r1 hX
      have XO := Lib.hid (hX)
      have CL := Lib.hid (CellIs.mk r1)
      subst hVn
      have hle := Rn.out.le
      have hcm := Rn.out.cap
      unfold maxLen at hcm
      have hll := HLE.out
      have q1 : ((rn.length : Int) == (rs.length : Int) + 1) = true := by rw [beq_iff_eq]; omega
      have q2 : decide ((rn.length : Int) = (rs.length : Int) + 1) = true := decide_eq_true (by omega)
      have i0 : (0 : Int) ≤ (rs.length : Int) := by omega
      have i1 : (rs.length : Int) < (rn.length : Int) := by omega
      have i2 : (rs.length : Int) ≤ (vn : Int) := by omega
      have i3 : rs.length ≤ vn := by omega
      have i4 : rs.length + 1 ≤ 9223372036854775807 := by omega
      clear hcn hX r1 hll
      have nn := rlists2_any (some ⟨bv, ov, none⟩) Vp vn vp rs.length rs.length (rn.take rs.length) rs _ (by rw [HTK.out]) rfl (Rn.out.head rs.length) Rp.out
      rw [decide_eq_true HTK.out] at nn
      have NN := Lib.hid nn
      clear nn
      go_wp2_with fail
      refine NN.out.mono ?_
      clear NN
      rintro e x8 ⟨rfl, b⟩
      replace HP := Lib.hid (HP.out.later b)
      replace HV := Lib.hid (HV.out.later b)
      replace HD := Lib.hid (HD.out.later b)
      replace Y3 := Lib.hid (Y3.out.later b)
      replace Rp := Lib.hid (Rp.out.later b)
      replace Op := Lib.hid (Op.out.later b)
      replace Y6 := Lib.hid (Y6.out.later b)
      replace Rq := Lib.hid (Rq.out.later b)
      replace Oq := Lib.hid (Oq.out.later b)
      replace Y9 := Lib.hid (Y9.out.later b)
      replace Oz := Lib.hid (Oz.out.later b)
      replace Y11 := Lib.hid (Y11.out.later b)
      replace Rn := Lib.hid (Rn.out.later b)
      replace On := Lib.hid (On.out.later b)
      replace Y14 := Lib.hid (Y14.out.later b)
      replace XO := Lib.hid (XO.out.later b)
      replace CL := Lib.hid (CL.out.later b)
      have BB8 := Lib.hid (below_on BB7a.out b)
      clear b
      have k1 := CL.out.c
      have nn := bsame_any X B cx cb p p _ XO.out HP.out
      rw [decide_eq_true rfl] at nn
      have NN := Lib.hid nn
      clear nn
      go_wp2_with fail
      refine NN.out.mono ?_
      clear NN
      rintro e x9 ⟨rfl, b⟩
      replace HP := Lib.hid (HP.out.later b)
      replace HV := Lib.hid (HV.out.later b)
      replace HD := Lib.hid (HD.out.later b)
      replace Y3 := Lib.hid (Y3.out.later b)
      replace Rp := Lib.hid (Rp.out.later b)
      replace Op := Lib.hid (Op.out.later b)
      replace Y6 := Lib.hid (Y6.out.later b)
      replace Rq := Lib.hid (Rq.out.later b)
      replace Oq := Lib.hid (Oq.out.later b)
      replace Y9 := Lib.hid (Y9.out.later b)
      replace Oz := Lib.hid (Oz.out.later b)
      replace Y11 := Lib.hid (Y11.out.later b)
      replace Rn := Lib.hid (Rn.out.later b)
      replace On := Lib.hid (On.out.later b)
      replace Y14 := Lib.hid (Y14.out.later b)
      replace XO := Lib.hid (XO.out.later b)
      replace CL := Lib.hid (CL.out.later b)
      have BB9 := Lib.hid (below_on BB8.out b)
      clear b
      go_wp2
      go_ret
      exact ⟨rfl, BB9.out⟩
end Go.Proofs.YtkhggofcbdcliaaDoor
namespace Go.Proofs.YtkhggofcbdcliaaDoor.journalAgain
open Go.ChangeShapes Go.WideShapes Go.ChangeAt Go.RowKit

theorem cells : Tryd.prog.cellsOf 5 = 1 := by kernel_rfl
theorem own : ownKnob Tryd.prog.godebug = none := by kernel_rfl
theorem laidOut : laidOutB Tryd.prog = true := by kernel_rfl
theorem reads : ∀ t ∈ Tryd.f7.params.toList, Tryd.prog.readableRec t = true ∧ t < Tryd.prog.types.size := by
  intro t ht
  rw [Tryd.params7] at ht
  have : t = 24 ∨ t = 25 := by simpa using ht
  rcases this with rfl | rfl <;> exact ⟨by kernel_rfl, of_decide_eq_true (by kernel_rfl)⟩

/-- The heap that the program's own initialisers leave meets the row's condition. -/
theorem door_met (os : Os) (args : Array Value) : laidMetH Tryd.prog Rows.journalAgainRow.laid ((World.doorLaid Tryd.prog 400 os).forCall (fun _ _ => 0) ⟨#[], args, []⟩).memory :=
  laidMetH_of_parts3 (fuel := 8) (laidMet_of_run' 8 (by kernel_rfl) (by kernel_rfl)) (by kernel_rfl) (by kernel_rfl)

theorem halves_global : Tryd.prog.globalNamed "telltale/frame.halves" = some 0 := by kernel_rfl
theorem halves_type : (Tryd.prog.globals[0]?).map (·.type) = some 85 := by kernel_rfl
theorem halves_data : (Rows.laid_telltale_frame_halves : DataW Unit) = Lib.tabData .u32 (Fr.tab.map fun n : Nat => (n : Int)) := by rfl
/-- What the row's condition gives the walk: the table. -/
theorem halves_of {W : World} (h : laidMetH Tryd.prog Rows.journalAgainRow.laid W) : Halves W := by
  rw [MakeChecks.laidMetH_plain _ _ _ (by kernel_rfl)] at h
  have h2 : laidMet Tryd.prog [("telltale/frame.halves", Rows.laid_telltale_frame_halves)] W := h
  rw [halves_data] at h2
  have ht := Lib.tabIs_of_head halves_global halves_type Tryd.underlying85 Tryd.underlying66 (by kernel_rfl) (by kernel_rfl) h2
  intro v hv
  have hc := ht.cell halves_global v hv
  rw [hc]
  have hall : ∀ i : Fin 16, (Fr.tab.map fun n : Nat => (n : Int)).getD i.val 0 = ((Fr.tab.getD i.val 0 : Nat) : Int) := by decide
  rw [hall ⟨v, hv⟩]

set_option maxRecDepth 100000 in
theorem lifted (os : Os) (started : os.Started) (H : Type) (enc : TypeId × Value → H) :
    ReturnsInHanded {} Tryd.checked os 7 .any (fun w args => (Rows.journalAgainSpec.pre enc Tryd.prog Tryd.f7 [] false w args ∧ laidMetH Tryd.prog Rows.journalAgainRow.laid w) ∧ sizedMet enc Tryd.prog Tryd.f7 (OpenSpec.ofChange Rows.journalAgainSpec) false w args)
      (Rows.journalAgainSpec.post enc Tryd.prog Tryd.f7 false true false false) := by
  refine returnsInHanded_of_change_and (C := Tryd.checked) (X := fun w _ => laidMetH Tryd.prog Rows.journalAgainRow.laid w) (fun _ _ _ hh h => h.of_heap hh) own started (by kernel_rfl) Tryd.func7
    (ChangeSpec.witness_shaped (enc := enc) (C := Tryd.checked) (os := os) (X := fun w _ => laidMetH Tryd.prog Rows.journalAgainRow.laid w) false (World.doorLaid Tryd.prog 400 os) #[.agg #[.int .i64 0, .slice none 0 0], .slice none 0 0] 8 rfl (World.shaped_of_RefB (by kernel_rfl) (by kernel_rfl)) (by kernel_rfl) (by kernel_rfl) (by kernel_rfl) (door_met os _)) ?_
  intro W base args ds gs before hval0 hW _ _ hL _
  have hval : ∀ (j : Nat) t v, Tryd.f7.params[j]? = some t → args[j]? = some v → Value.okWide Tryd.prog W .any base t v := hval0
  have hW' := hW
  obtain ⟨p, q, hA0, hV, rfl, hfz, hnd⟩ := hW
  have hA : DataW.TrodAll enc Tryd.prog W 0 (fun _ => true) true Tryd.f7.params.toList args.toList ds p := hA0
  rw [Tryd.params7] at hA hval
  obtain ⟨v0, vs0, d0, ds0, p0, q0, hargs, rfl, rfl, h0, r0⟩ := trodAll_cons hA
  obtain ⟨v1, vs1, d1, ds1, p1, q1, rfl, rfl, rfl, h1, r1⟩ := trodAll_cons r0
  obtain ⟨rfl, rfl, rfl⟩ := trodAll_nil r1
  obtain rfl : args = #[v0, v1] := by cases args; simp_all
  obtain ⟨rfl, rfl⟩ := trodVars_none hV
  obtain ⟨room0, A0, c0, L0, rfl, o0, e0, f0, rfl, g0⟩ := open_disk (hval 0 24 v0 rfl rfl) h0
  obtain ⟨A1, cap1, l1, rfl, o1, hd1⟩ := open_bytes Tryd.underlying25 Tryd.underlying5 cells (hval 1 25 v1 rfl rfl) h1
  clear hA0 hval0
  refine (lawJournalAgain_any journalSpec room0 A0 A1 c0 cap1 L0 l1 W o0 o1 (halves_of hL)).mono fun e W' ⟨he, hg⟩ => ?_
  subst he
  exact ⟨_, rfl, law_post laidOut hW' rfl rfl (by kernel_rfl) Tryd.underlying4 reads hg⟩

theorem over : Rows.journalAgainRow.holds Tryd.pinned (OpenSpec.ofChange Rows.journalAgainSpec) :=
  OpenClaim.holds_of_wide 7 Tryd.f7 rfl rfl rfl rfl rfl rfl rfl ⟨rfl, rfl, rfl, rfl, rfl⟩ rfl rfl rfl rfl rfl (by kernel_rfl) Tryd.func7 (by kernel_rfl)
    (of_decide_eq_true (by kernel_rfl)) (by unfold Func.isWrapper; first | (rw [if_pos (by decide +kernel)]; kernel_rfl) | (rw [if_neg (by decide +kernel)]; exact ⟨rfl, rfl⟩))
    (fun os started H enc _ => lifted os started H enc)

/-- The statement: the card. -/
theorem proved : Rows.JournalAgainCardSaid :=
  Claim7.holds_tied_plain_at .later [] Rows.journalAgainCard.laidKinds true Rows.journalAgainCard.stood.harness Rows.journalAgainCard.stood.looks
    over (fun _ h => by cases h) (by kernel_rfl) (fun _ h => by cases h) journalAgain_row_tie rfl ⟨rfl, rfl⟩ (by kernel_rfl) rfl
    (fun f fn hf hfn => by
      obtain rfl : f = 7 := Option.some.inj ((show Tryd.prog.funcNamed "telltale/telltalelaw09.JournalAgain" = some 7 by kernel_rfl).symm.trans hf) |>.symm
      obtain rfl : fn = Tryd.f7 := (Option.some.inj (Tryd.func7.symm.trans hfn)).symm
      exact ⟨by kernel_rfl, fun j t ht => by
        rw [Tryd.params7] at ht
        have hm : t ∈ [24, 25] := by simpa using Array.mem_of_getElem? ht
        have hall : ([24, 25].all fun u => !Tryd.prog.wantsStandIn u) = true := by kernel_rfl
        exact (show Tryd.prog.wantsStandIn t = false by simpa using List.all_eq_true.1 hall t hm)⟩)
    (by kernel_rfl)

end Go.Proofs.YtkhggofcbdcliaaDoor.journalAgain
