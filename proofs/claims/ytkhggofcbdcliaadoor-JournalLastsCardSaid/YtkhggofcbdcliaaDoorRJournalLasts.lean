/-
  A journal that was scanned, as plain mathematics: it is scanned to the same, and what is appended then stands behind.
  A journal behind a crash, as plain mathematics: frames one behind the other, cut anywhere, the last byte another one, are cut into the first ones of them.
  A region that draws its order, whose operations may make memory, and one of which may store into what another one made. Nothing of the program is imported.
  What written keeps in memory: the disk, the records' bytes as they were handed in; and its deeds.
  What telltalelaw09's written answers.
  The law JournalLasts, walked over the contracts of journal's functions.
  The deeds of journal's law as an argument, opened.
  For all lists of deeds, any number of 16 bits and any byte, the law JournalLasts returns true and leaves its arguments as they were. No condition. The card ties the table of frame's sum to the program's text.
-/
import Derived.Test.YtkhggofcbdcliaaDoorG20
import Derived.Test.YtkhggofcbdcliaaDoorG18
import Derived.Test.YtkhggofcbdcliaaDoorG06
import Derived.Test.YtkhggofcbdcliaaDoorG21
import Derived.Lib.QuietBelow
import Derived.Deep.DeepCutAuto
import Derived.Test.YtkhggofcbdcliaaDoorG12
import Derived.Test.YtkhggofcbdcliaaDoorG07
import Derived.Test.YtkhggofcbdcliaaDoorRows
import Derived.Test.YtkhggofcbdcliaaDoorCards
import Derived.Test.YtkhggofcbdcliaaDoorTie
import Derived.Test.YtkhggofcbdcliaaDoorG01
import Derived.Lib.LaidTab
import Derived.LaidMore
import Derived.SizedLaws
import Derived.Handed
import Derived.SevenTiedAt
import Derived.Stop.LaidErr
namespace Go.Proofs.YtkhggofcbdcliaaDoor
open Go.RowKit

namespace Jn
/-- Frames, one behind the other. -/
def fl (ps : List (List Int)) : List Int := (ps.map Fr.frm).flatten
theorem fl_append (a b : List (List Int)) : fl (a ++ b) = fl a ++ fl b := by
  unfold fl
  rw [List.map_append, List.flatten_append]
theorem fl_one (p : List Int) : fl [p] = Fr.frm p := by
  unfold fl
  simp
theorem cut_fl {ps : List (List Int)} (h : ∀ p ∈ ps, p.length ≤ 1048576) : cut (fl ps) = ((fl ps).length, ps) := by
  have h2 : Fr.flat ps ps.length = fl ps := by unfold Fr.flat fl; rw [List.take_length]
  obtain ⟨h3, h4⟩ := Fr.cut_all h
  rw [h2] at h3 h4
  rw [← cut_eq h4, h3]
theorem it_fl {l : List Int} (hb : ∀ x ∈ l, isB x) : ∀ k, l.take (Fr.it l k).1 = fl (Fr.it l k).2 ∧ ∀ p ∈ (Fr.it l k).2, p.length ≤ 1048576
  | 0 => ⟨rfl, fun _ h => by cases h⟩
  | k + 1 => by
    obtain ⟨ih, il⟩ := it_fl hb k
    obtain ⟨a, ha⟩ : ∃ a, (Fr.it l k).1 = a := ⟨_, rfl⟩
    by_cases hs : (Fr.opn (l.drop a)).2.2 = 0
    · obtain ⟨-, o2, o3, o4, o5⟩ := Fr.opn_ok hs
      obtain ⟨m, hm⟩ : ∃ m, Fr.num4 (l.drop a) = m := ⟨_, rfl⟩
      obtain ⟨f, hf⟩ : ∃ f, (l.drop a).take (8 + m) = f := ⟨_, rfl⟩
      rw [hm] at o2 o3 o4 o5
      rw [hf] at o2 o3
      have hfl : f.length = 8 + m := by rw [← hf, List.length_take]; omega
      have hfn : Fr.num4 f = m := by rw [← hf, Fr.num4_take (by omega)]; exact hm
      have hfb : ∀ x ∈ f, isB x := fun x hx => hb x (by rw [← hf] at hx; exact List.mem_of_mem_drop (List.mem_of_mem_take hx))
      have e1 : f.take 4 = (l.drop a).take 4 := by rw [← hf, List.take_take, Nat.min_eq_left (by omega)]
      have e2 : Fr.num4 (f.drop 4) = Fr.num4 ((l.drop a).drop 4) := by
        rw [← hf, List.drop_take, Fr.num4_take (by omega)]
      have hfr : Fr.frm (f.drop 8) = f := (Fr.seal_iff hfl hfn hfb).2 (by rw [e1, e2]; exact o2)
      have hi : Fr.it l (k + 1) = (a + (8 + m), (Fr.it l k).2 ++ [f.drop 8]) := by
        show Fr.stp l (Fr.it l k) = _
        unfold Fr.stp
        rw [ha, if_pos hs, o3]
        rfl
      rw [hi]
      refine ⟨?_, fun p hp => (List.mem_append.1 hp).elim (il p) (fun h => by rw [List.mem_singleton] at h; subst h; rw [List.length_drop]; omega)⟩
      rw [ha] at ih
      dsimp only
      rw [List.take_add, ih, hf, fl_append, fl_one, hfr]
    · have hi : Fr.it l (k + 1) = Fr.it l k := by
        show Fr.stp l (Fr.it l k) = _
        unfold Fr.stp
        rw [ha, if_neg hs]
      rw [hi]
      exact ⟨ih, il⟩
theorem cut_is {l : List Int} (hb : ∀ x ∈ l, isB x) : l.take (cut l).1 = fl (cut l).2 ∧ ∀ p ∈ (cut l).2, p.length ≤ 1048576 := it_fl hb _

/-- Segments of whole frames. -/
def Whole (fs : List Fi) : Prop := ∀ f ∈ fs, ∃ ps : List (List Int), f.2.1 = fl ps ∧ ∀ p ∈ ps, p.length ≤ 1048576
def recs (fs : List Fi) : List (List Int) := (fs.map fun f => (cut f.2.1).2).flatten
def zero (f : Fi) : Fi := (f.1, f.2.1, 0)
theorem recs_append (a b : List Fi) : recs (a ++ b) = recs a ++ recs b := by
  unfold recs
  rw [List.map_append, List.flatten_append]
theorem recs_one (f : Fi) : recs [f] = (cut f.2.1).2 := by
  unfold recs
  simp
theorem recs_cons (f : Fi) (r : List Fi) : recs (f :: r) = (cut f.2.1).2 ++ recs r := rfl
theorem recs_map {g : Fi → Fi} (hg : ∀ f, (g f).2.1 = f.2.1) (fs : List Fi) : recs (fs.map g) = recs fs := by
  unfold recs
  rw [List.map_map]
  congr 1
  apply List.map_congr_left
  intro f _
  show (cut (g f).2.1).2 = _
  rw [hg]
theorem Whole.map {g : Fi → Fi} (hg : ∀ f, (g f).2.1 = f.2.1) {fs : List Fi} (h : Whole fs) : Whole (fs.map g) := fun f hf => by
  obtain ⟨f0, h0, rfl⟩ := List.mem_map.1 hf
  rw [hg]
  exact h f0 h0
theorem scan_whole : ∀ {fs : List Fi}, Whole fs → scan fs = (recs fs, fs.map zero)
  | [], _ => rfl
  | f :: r, h => by
    obtain ⟨ps, h1, h2⟩ := h f (List.mem_cons_self ..)
    have hc : (cut f.2.1).1 = f.2.1.length := by rw [h1, cut_fl h2]
    rw [scan_cons, if_neg (by omega), scan_whole (fun g hg => h g (List.mem_cons_of_mem _ hg)), recs_cons]
    unfold kept
    rw [hc, List.take_length]
    rfl
theorem scan_is : ∀ {fs : List Fi}, (∀ f ∈ fs, ∀ x ∈ f.2.1, isB x) → Whole (scan fs).2 ∧ recs (scan fs).2 = (scan fs).1
  | [], _ => ⟨(fun _ h => by cases h), rfl⟩
  | f :: r, h => by
    obtain ⟨i1, i2⟩ := scan_is (fs := r) (fun g hg => h g (List.mem_cons_of_mem _ hg))
    obtain ⟨c1, c2⟩ := cut_is (h f (List.mem_cons_self ..))
    have hk : cut (kept f).2.1 = ((fl (cut f.2.1).2).length, (cut f.2.1).2) := by
      show cut (f.2.1.take (cut f.2.1).1) = _
      rw [c1]
      exact cut_fl c2
    have hw : ∃ ps : List (List Int), (kept f).2.1 = fl ps ∧ ∀ p ∈ ps, p.length ≤ 1048576 := ⟨(cut f.2.1).2, c1, c2⟩
    rw [scan_cons]
    split
    · refine ⟨fun g hg => ?_, ?_⟩
      · rw [List.mem_singleton] at hg
        subst hg
        exact hw
      · rw [recs_one, hk]
    · refine ⟨fun g hg => ?_, ?_⟩
      · rcases List.mem_cons.1 hg with rfl | hg
        · exact hw
        · exact i1 g hg
      · rw [recs_cons, hk, i2]
/-- Scanned again: the same records, the same disk. -/
theorem scan_again {room : Int} {fs : List Fi} (h : Dk.fmd room fs = true) (hb : ∀ f ∈ fs, ∀ x ∈ f.2.1, isB x) : Dk.fmd room ((scan fs).2.map Dk.syn1) = true ∧ Whole ((scan fs).2.map Dk.syn1) ∧ recs ((scan fs).2.map Dk.syn1) = (scan fs).1 ∧
    scanR room ((scan fs).2.map Dk.syn1) = ((scan fs).1, (room, (scan fs).2.map Dk.syn1, 0)) := by
  obtain ⟨h1, h2⟩ := scan_is hb
  have hw := Whole.map (g := Dk.syn1) (fun _ => rfl) h1
  have hr : recs ((scan fs).2.map Dk.syn1) = (scan fs).1 := by rw [recs_map (g := Dk.syn1) (fun _ => rfl), h2]
  have hf : Dk.fmd room ((scan fs).2.map Dk.syn1) = true := Dk.less_fmd (List.length_map ..) (fun i f f' e1 e2 => by
    rw [List.getElem?_map, e1] at e2
    simp at e2
    subst e2
    exact ⟨rfl, Nat.le_refl _, by show (0 : Int) ≤ (f.2.1.length : Int); omega, Int.le_refl _⟩) (scan_fmd h)
  refine ⟨hf, hw, hr, ?_⟩
  unfold scanR
  rw [if_pos hf, scan_whole hw, hr, List.map_map, List.map_map]
  congr 3
theorem app_fmd {room n : Int} {fs : List Fi} {b : List Int} (h : Dk.fmd room fs = true) (hn : Dk.win n 1048576 = true) (hb : (b.length : Int) ≤ room - Dk.used fs) : Dk.fmd room ((Dk.ins fs n).map (Dk.app1 n b)) = true := by
  have hF := Dk.fmd_facts h
  have hw := Dk.win_yes hn
  obtain ⟨i1, i2, i3, i4, i5⟩ := Dk.ins_facts n hF
  refine Dk.fmd_mk2 hF.r0 hF.r1 ?_ (fun f hf => ?_) ?_
  · have := Dk.used_app (n := n) (b := b) _ i2
    omega
  · obtain ⟨g, hg, rfl⟩ := List.mem_map.1 hf
    obtain ⟨a1, a2⟩ := Dk.app1_sure n b g
    rw [Dk.app1_num, a1]
    rcases i3 g hg with h1 | ⟨rfl, _⟩
    · have := hF.num g h1
      exact ⟨this.1, this.2.1, this.2.2.1, by omega⟩
    · exact ⟨hw.1, hw.2, Int.le_refl _, by show (0 : Int) ≤ _; omega⟩
  · refine List.pairwise_map.2 (i2.imp fun {a c} hac => ?_)
    rw [Dk.app1_num, Dk.app1_num]
    exact hac
theorem ins_last {fs : List Fi} {n : Int} (h : ∀ f ∈ fs, f.1 < n) : Dk.ins fs n = fs ++ [(n, [], 0)] := by
  have hn : Dk.fnd n fs = none := List.find?_eq_none.2 (fun f hf => by have := h f hf; simp; omega)
  unfold Dk.ins
  rw [hn]
  dsimp only
  rw [List.filter_eq_self.2 (fun f hf => decide_eq_true (h f hf)), List.filter_eq_nil_iff.2 (fun f hf => by have := h f hf; simp; omega)]
theorem ins_in {fs : List Fi} {f : Fi} (hf : f ∈ fs) : Dk.ins fs f.1 = fs := by
  unfold Dk.ins
  cases hn : Dk.fnd f.1 fs with
  | some g => rfl
  | none =>
    have := List.find?_eq_none.1 hn f hf
    simp at this
theorem app1_new (n : Int) (b : List Int) : (Dk.app1 n b (n, [], 0)).2.1 = b := by
  unfold Dk.app1
  rw [if_pos rfl]
  exact List.nil_append b
theorem last_split {α : Type} {l : List α} {y : α} (h : l.getLast? = some y) : l.dropLast ++ [y] = l := by
  have hne : l ≠ [] := fun e => by subst e; cases h
  have h1 := List.getLast?_eq_some_getLast hne
  rw [h1] at h
  have h2 := Option.some.inj h
  rw [← h2]
  exact List.dropLast_concat_getLast hne
/-- What an append comes to, of segments of whole frames. -/
theorem app_ways {room : Int} {x : List Fi} (hf : Dk.fmd room x = true) (hw : Whole x) (p : List Int) :
    ((appJR room x p).2.2 = 15 ∨ (appJR room x p).2.2 = 7 ∨ ((appJR room x p).2.2 = 1 ∧ 1048576 < p.length)) ∨ ∃ zs, appJR room x p = (room, zs, 0) ∧ Whole zs ∧ recs zs = recs x ++ [p] ∧ Dk.fmd room zs = true := by
  by_cases hp : p.length ≤ 1048576
  · have hF := Dk.fmd_facts hf
    have hpp : ∀ q ∈ [p], q.length ≤ 1048576 := fun q hq => by rw [List.mem_singleton] at hq; subst hq; exact hp
    have hcp : cut (Fr.frm p) = ((Fr.frm p).length, [p]) := by rw [← fl_one]; exact cut_fl hpp
    -- into a new segment
    have hst : ((startR room x p).2.2 = 15 ∨ (startR room x p).2.2 = 7) ∨ ∃ zs, startR room x p = (room, zs, 0) ∧ Whole zs ∧ recs zs = recs x ++ [p] ∧ Dk.fmd room zs = true := by
      unfold startR
      rw [if_pos ⟨hf, hp⟩]
      by_cases h15 : lastR room x = 1048576
      · rw [if_pos h15]
        exact .inl (.inl rfl)
      · rw [if_neg h15]
        have hl := last_le (room := room) (fs := x)
        obtain ⟨n, hn⟩ : ∃ n, (if lastR room x < 0 then 0 else lastR room x) + 1 = n := ⟨_, rfl⟩
        rw [hn]
        have hn1 : 1 ≤ n ∧ n ≤ 1048576 := by rw [← hn]; split <;> omega
        have hwin : Dk.win n 1048576 = true := decide_eq_true (by omega)
        have hfs : Dk.fmd room (x.map Dk.syn1) = true := Dk.less_fmd (List.length_map ..) (fun i f f' e1 e2 => by
          rw [List.getElem?_map, e1] at e2
          simp at e2
          subst e2
          exact ⟨rfl, Nat.le_refl _, by show (0 : Int) ≤ (f.2.1.length : Int); omega, Int.le_refl _⟩) hf
        have hlt : ∀ f ∈ x.map Dk.syn1, f.1 < n := fun f hf2 => by
          obtain ⟨g, hg, rfl⟩ := List.mem_map.1 hf2
          have hne : x ≠ [] := fun e => by rw [e] at hg; cases hg
          obtain ⟨y, hy, hy2⟩ := getLast_at hne
          have hly : lastR room x = y.1 := by unfold lastR; rw [if_pos hf, hy2]
          have hgy : g.1 ≤ y.1 := by
            obtain ⟨i, hi⟩ := List.getElem?_of_mem hg
            have hil := (List.getElem?_eq_some_iff.1 hi).1
            by_cases e : i = x.length - 1
            · rw [e, hy] at hi
              cases hi
              exact Int.le_refl _
            · obtain ⟨h1, h2⟩ := List.getElem?_eq_some_iff.1 hi
              obtain ⟨h3, h4⟩ := List.getElem?_eq_some_iff.1 hy
              have := List.pairwise_iff_getElem.1 hF.up i (x.length - 1) h1 h3 (by omega)
              rw [h2, h4] at this
              omega
          have h0 := (hF.num y (List.mem_of_getLast? hy2)).1
          show g.1 < n
          rw [← hn, hly]
          split <;> omega
        unfold Dk.appR
        rw [if_pos ⟨hfs, hwin⟩]
        by_cases hsp : ((Fr.frm p).length : Int) > room - Dk.used (x.map Dk.syn1)
        · rw [if_pos hsp]
          exact .inl (.inr rfl)
        · rw [if_neg hsp]
          refine .inr ⟨_, rfl, ?_, ?_, app_fmd hfs hwin (by omega)⟩
          all_goals rw [ins_last hlt, List.map_append, Dk.app1_other _ (fun f hf2 => by have := hlt f hf2; omega)]
          · intro f hf2
            rcases List.mem_append.1 hf2 with h1 | h1
            · exact Whole.map (g := Dk.syn1) (fun _ => rfl) hw f h1
            · rw [List.map_cons, List.map_nil, List.mem_singleton] at h1
              subst h1
              exact ⟨[p], by rw [app1_new, fl_one], hpp⟩
          · rw [recs_append, recs_map (g := Dk.syn1) (fun _ => rfl)]
            rw [List.map_cons, List.map_nil, recs_one, app1_new, hcp]
    unfold appJR
    rw [if_pos ⟨hf, hp⟩]
    by_cases hfr : fresh x p = true
    · rw [if_pos hfr]
      rcases hst with (h1 | h1) | h1
      · exact .inl (.inl h1)
      · exact .inl (.inr (.inl h1))
      · exact .inr h1
    · rw [if_neg hfr]
      have hne : x ≠ [] := fun e => hfr (by subst e; rfl)
      obtain ⟨y, hy, hy2⟩ := getLast_at hne
      have hly : lastR room x = y.1 := by unfold lastR; rw [if_pos hf, hy2]
      have hym := List.mem_of_getLast? hy2
      have hyn := hF.num y hym
      have hwin : Dk.win y.1 1048576 = true := decide_eq_true ⟨hyn.1, hyn.2.1⟩
      have hx : x.dropLast ++ [y] = x := last_split hy2
      have hlow : ∀ f ∈ x.dropLast, f.1 ≠ y.1 := fun f hf2 => by
        have hu := hF.up
        rw [← hx] at hu
        have := (List.pairwise_append.1 hu).2.2 f hf2 y (List.mem_singleton.2 rfl)
        omega
      rw [hly]
      unfold Dk.appR
      rw [if_pos ⟨hf, hwin⟩]
      by_cases hsp : ((Fr.frm p).length : Int) > room - Dk.used x
      · rw [if_pos hsp]
        exact .inl (.inr (.inl rfl))
      · rw [if_neg hsp]
        have hz : (Dk.ins x y.1).map (Dk.app1 y.1 (Fr.frm p)) = x.dropLast ++ [(y.1, y.2.1 ++ Fr.frm p, y.2.2)] := by
          rw [ins_in hym]
          conv => lhs; rw [← hx, List.map_append, Dk.app1_other _ hlow]
          show x.dropLast ++ [Dk.app1 y.1 (Fr.frm p) y] = _
          unfold Dk.app1
          rw [if_pos rfl]
        obtain ⟨ps, h1, h2⟩ := hw y hym
        have hq : ∀ q ∈ ps ++ [p], q.length ≤ 1048576 := fun q hq => (List.mem_append.1 hq).elim (h2 q) (hpp q)
        have hb : y.2.1 ++ Fr.frm p = fl (ps ++ [p]) := by rw [fl_append, fl_one, h1]
        refine .inr ⟨_, rfl, ?_, ?_, app_fmd hf hwin (by omega)⟩
        all_goals rw [hz]
        · intro f hf2
          rcases List.mem_append.1 hf2 with h3 | h3
          · exact hw f (List.dropLast_subset x h3)
          · rw [List.mem_singleton] at h3
            subst h3
            exact ⟨ps ++ [p], hb, hq⟩
        · conv => rhs; rw [← hx]
          rw [recs_append, recs_append, recs_one, recs_one, h1, cut_fl h2]
          show _ ++ (cut (fl ps ++ Fr.frm p)).2 = _
          rw [← fl_one, ← fl_append, cut_fl hq, List.append_assoc]
  · refine .inl (.inr (.inr ⟨?_, by omega⟩))
    unfold appJR
    rw [if_neg (fun h => hp h.2)]
/-- A journal of whole frames is scanned to its records. -/
theorem scanR_whole {room : Int} {zs : List Fi} (hf : Dk.fmd room zs = true) (hw : Whole zs) : ∃ fs, scanR room zs = (recs zs, (room, fs, 0)) := by
  unfold scanR
  rw [if_pos hf, scan_whole hw]
  exact ⟨_, rfl⟩
end Jn
end Go.Proofs.YtkhggofcbdcliaaDoor
namespace Go.Proofs.YtkhggofcbdcliaaDoor
open Go.RowKit

namespace Jn
theorem flat_fl (ps : List (List Int)) (k : Nat) : Fr.flat ps k = fl (ps.take k) := rfl
theorem fl_all (ps : List (List Int)) : Fr.flat ps ps.length = fl ps := by rw [flat_fl, List.take_length]
theorem fl_mono (ps : List (List Int)) {i j : Nat} (h : i ≤ j) : (fl (ps.take i)).length ≤ (fl (ps.take j)).length := by
  have e : ps.take j = ps.take i ++ (ps.take j).drop i := by
    conv => lhs; rw [← List.take_append_drop i (ps.take j), List.take_take, Nat.min_eq_left h]
  rw [e, fl_append, List.length_append]
  omega
theorem fl_pick (ps : List (List Int)) (a : Nat) : ∀ m, ∃ k, k ≤ m ∧ (fl (ps.take k)).length ≤ a ∧ (k = m ∨ a < (fl (ps.take (k + 1))).length)
  | 0 => ⟨0, Nat.le_refl _, by simp [fl], .inl rfl⟩
  | m + 1 => by
    obtain ⟨k, h1, h2, h3⟩ := fl_pick ps a m
    rcases h3 with rfl | h3
    · by_cases h : (fl (ps.take (k + 1))).length ≤ a
      · exact ⟨k + 1, Nat.le_refl _, h, .inl rfl⟩
      · exact ⟨k, Nat.le_succ _, h2, .inr (by omega)⟩
    · exact ⟨k, by omega, h2, .inr h3⟩
theorem pick_ge {ps : List (List Int)} {a k j : Nat} (hj : j ≤ ps.length) (ha : (fl (ps.take j)).length ≤ a) (h : k = ps.length ∨ a < (fl (ps.take (k + 1))).length) : j ≤ k := by
  rcases h with rfl | h
  · exact hj
  · by_cases e : j ≤ k
    · exact e
    · have := fl_mono ps (show k + 1 ≤ j by omega)
      omega
theorem cut_trunc {ps : List (List Int)} (h : ∀ p ∈ ps, p.length ≤ 1048576) {a j : Nat} (hj : j ≤ ps.length) (ha : (fl (ps.take j)).length ≤ a) : ∃ i, j ≤ i ∧ i ≤ ps.length ∧ (cut ((fl ps).take a)).2 = ps.take i := by
  obtain ⟨k, h1, h2, h3⟩ := fl_pick ps a ps.length
  have hc := Fr.cut_part h h1 (by rw [flat_fl]; exact h2) (h3.imp id (fun h => by rw [flat_fl]; exact h))
  rw [fl_all] at hc
  refine ⟨k, pick_ge hj ha h3, h1, ?_⟩
  rw [← cut_eq hc.2, hc.1]
theorem num4_set {l : List Int} {i : Nat} (h : 4 ≤ i) (y : Int) : Fr.num4 (l.set i y) = Fr.num4 l := by
  have e : ∀ k, k < 4 → (l.set i y).getD k 0 = l.getD k 0 := fun k hk => by
    rw [List.getD_eq_getElem?_getD, List.getD_eq_getElem?_getD, List.getElem?_set_ne (by omega)]
  unfold Fr.num4
  rw [e 0 (by omega), e 1 (by omega), e 2 (by omega), e 3 (by omega)]
/-- A frame's beginning, or all of it, the last byte another one, is no frame. -/
theorem opn_bad {p : List Int} (hp : p.length ≤ 1048576) (hb : ∀ x ∈ p, isB x) {m : Nat} (hm : m ≤ 8 + p.length) {y : Int} (hy : isB y) (hne : y ≠ (Fr.frm p).getD (m - 1) 0) : (Fr.opn (((Fr.frm p).take m).set (m - 1) y)).2.2 ≠ 0 := by
  have hs := Fr.seal_len p
  have hl : (((Fr.frm p).take m).set (m - 1) y).length = m := by rw [List.length_set, List.length_take]; omega
  by_cases h8 : m < 8
  · have he : Fr.err0 (((Fr.frm p).take m).set (m - 1) y) = 5 := by unfold Fr.err0; rw [hl, if_pos h8]
    unfold Fr.opn
    rw [he, if_neg (by decide)]
    decide
  · have hn : Fr.num4 (((Fr.frm p).take m).set (m - 1) y) = p.length := by
      rw [num4_set (by omega), Fr.num4_take (by omega)]
      have := Fr.seal_num p [] (by omega)
      rwa [List.append_nil] at this
    by_cases hf : m < 8 + p.length
    · have he : Fr.err0 (((Fr.frm p).take m).set (m - 1) y) = 5 := by unfold Fr.err0; rw [hl, hn, if_neg h8, if_neg (by omega), if_pos hf]
      unfold Fr.opn
      rw [he, if_neg (by decide)]
      decide
    · have e : m = 8 + p.length := by omega
      have ht : (Fr.frm p).take m = Fr.frm p := List.take_of_length_le (by omega)
      rw [ht] at hl hn ⊢
      have hw := Fr.whl_turned hb (i := m - 1) (by omega) hy hne
      unfold Fr.whl at hw
      by_cases he : Fr.err0 ((Fr.frm p).set (m - 1) y) = 0
      · rw [if_pos he, hn, hl, if_neg (by omega)] at hw
        exact hw
      · rw [if_neg he] at hw
        unfold Fr.opn
        rw [if_neg he]
        exact hw
theorem cut_turned {ps : List (List Int)} (h : ∀ p ∈ ps, p.length ≤ 1048576) (hb : ∀ p ∈ ps, ∀ x ∈ p, isB x) {n j : Nat} (hj : j ≤ ps.length) (hs : (fl (ps.take j)).length < n) (hn : n ≤ (fl ps).length) {y : Int} (hy : isB y) :
    ∃ i, j ≤ i ∧ i ≤ ps.length ∧ (cut (((fl ps).take n).set (n - 1) y)).2 = ps.take i := by
  by_cases hne : y = (fl ps).getD (n - 1) 0
  · have e : ((fl ps).take n).set (n - 1) y = (fl ps).take n := by
      apply List.ext_getElem?
      intro u
      by_cases eu : n - 1 = u
      · subst eu
        rw [List.getElem?_set_self (by rw [List.length_take]; omega), List.getElem?_take_of_lt (by omega), List.getElem?_eq_getElem (by omega), hne, List.getD_eq_getElem?_getD, List.getElem?_eq_getElem (by omega)]
        rfl
      · rw [List.getElem?_set_ne eu]
    rw [e]
    exact cut_trunc h hj (by omega)
  · obtain ⟨k, h1, h2, h3⟩ := fl_pick ps (n - 1) ps.length
    have hk : k < ps.length := by
      rcases h3 with e | h3
      · rw [e, List.take_length] at h2
        omega
      · by_cases e : k = ps.length
        · rw [e, List.take_length] at h2
          omega
        · omega
    have h3' : n - 1 < (fl (ps.take (k + 1))).length := by
      rcases h3 with e | h3
      · omega
      · exact h3
    have hm : ps[k] ∈ ps := List.getElem_mem hk
    obtain ⟨p, hp⟩ : ∃ p, ps[k] = p := ⟨_, rfl⟩
    rw [hp] at hm
    have hsp : fl ps = fl (ps.take k) ++ (Fr.frm p ++ fl (ps.drop (k + 1))) := by
      conv => lhs; rw [← List.take_append_drop k ps, List.drop_eq_getElem_cons hk, hp, fl_append]
      rfl
    have hk1 : (fl (ps.take (k + 1))).length = (fl (ps.take k)).length + (8 + p.length) := by
      rw [List.take_succ_eq_append_getElem hk, hp, fl_append, fl_one, List.length_append, Fr.seal_len]
    obtain ⟨b, hbs⟩ : ∃ b, (fl (ps.take k)).length = b := ⟨_, rfl⟩
    rw [hbs] at h2 hk1
    have hfl := Fr.seal_len p
    have hT : ((fl ps).take n).set (n - 1) y = fl (ps.take k) ++ ((Fr.frm p).take (n - b)).set (n - b - 1) y := by
      rw [hsp, List.take_append, hbs, List.take_of_length_le (by omega), List.set_append_right _ _ (by omega), hbs, List.take_append_of_le_length (by omega), show n - 1 - b = n - b - 1 from by omega]
    have hold : (fl ps).getD (n - 1) 0 = (Fr.frm p).getD (n - b - 1) 0 := by
      rw [hsp, List.getD_eq_getElem?_getD, List.getElem?_append_right (by omega), hbs, List.getElem?_append_left (by omega), ← List.getD_eq_getElem?_getD, show n - 1 - b = n - b - 1 from by omega]
    rw [hold] at hne
    have hbad := opn_bad (h p hm) (hb p hm) (m := n - b) (by omega) hy hne
    have hit := Fr.it_frames k ps (((fl ps).take n).set (n - 1) y) h1 h (by rw [hT]; exact ⟨_, rfl⟩)
    have hst : Fr.Stop (((fl ps).take n).set (n - 1) y) k := by
      unfold Fr.Stop
      rw [hit]
      dsimp only
      have hd : (((fl ps).take n).set (n - 1) y).drop ((ps.take k).map Fr.frm).flatten.length = ((Fr.frm p).take (n - b)).set (n - b - 1) y := by
        rw [hT]
        exact List.drop_left' rfl
      rw [hd]
      exact hbad
    refine ⟨k, pick_ge hj (by omega) h3, h1, ?_⟩
    rw [← cut_eq hst, hit]
theorem used_syn : ∀ fs : List Fi, Dk.used (fs.map Dk.syn1) = Dk.used fs
  | [] => rfl
  | f :: r => by
    show ((Dk.syn1 f).2.1.length : Int) + Dk.used (r.map Dk.syn1) = (f.2.1.length : Int) + Dk.used r
    rw [used_syn r]
    rfl
theorem syn_fmd {room : Int} {fs : List Fi} (h : Dk.fmd room fs = true) : Dk.fmd room (fs.map Dk.syn1) = true := Dk.less_fmd (List.length_map ..) (fun i f f' e1 e2 => by
  rw [List.getElem?_map, e1] at e2
  simp at e2
  subst e2
  exact ⟨rfl, Nat.le_refl _, by show (0 : Int) ≤ (f.2.1.length : Int); omega, Int.le_refl _⟩) h
theorem last_max {room : Int} {fs : List Fi} (h : Dk.fmd room fs = true) : ∀ g ∈ fs, 0 ≤ g.1 ∧ g.1 ≤ lastR room fs := fun g hg => by
  have hF := Dk.fmd_facts h
  have hne : fs ≠ [] := fun e => by rw [e] at hg; cases hg
  obtain ⟨y, hy, hy2⟩ := getLast_at hne
  have hly : lastR room fs = y.1 := by unfold lastR; rw [if_pos h, hy2]
  rw [hly]
  refine ⟨(hF.num g hg).1, ?_⟩
  obtain ⟨i, hi⟩ := List.getElem?_of_mem hg
  have hil := (List.getElem?_eq_some_iff.1 hi).1
  by_cases e : i = fs.length - 1
  · rw [e, hy] at hi
    cases hi
    exact Int.le_refl _
  · obtain ⟨h1, h2⟩ := List.getElem?_eq_some_iff.1 hi
    obtain ⟨h3, h4⟩ := List.getElem?_eq_some_iff.1 hy
    have := List.pairwise_iff_getElem.1 hF.up i (fs.length - 1) h1 h3 (by omega)
    rw [h2, h4] at this
    omega
/-- What Start comes to. -/
theorem start_ways {room : Int} {fs : List Fi} {p : List Int} (hf : Dk.fmd room fs = true) (hp : p.length ≤ 1048576) (hl : lastR room fs < 1048576) :
    (startR room fs p = (0, [], 7) ∧ room - Dk.used fs < 8 + (p.length : Int)) ∨ ∃ n : Int, n ≤ (if lastR room fs < 0 then 0 else lastR room fs) + 1 ∧ startR room fs p = (room, fs.map Dk.syn1 ++ [(n, Fr.frm p, 0)], 0) ∧ Dk.fmd room (fs.map Dk.syn1 ++ [(n, Fr.frm p, 0)]) = true := by
  have hl0 := last_le (room := room) (fs := fs)
  obtain ⟨n, hn⟩ : ∃ n, (if lastR room fs < 0 then 0 else lastR room fs) + 1 = n := ⟨_, rfl⟩
  have hn1 : 1 ≤ n ∧ n ≤ 1048576 := by rw [← hn]; split <;> omega
  have hwin : Dk.win n 1048576 = true := decide_eq_true (by omega)
  have hlt : ∀ f ∈ fs.map Dk.syn1, f.1 < n := fun f hf2 => by
    obtain ⟨g, hg, rfl⟩ := List.mem_map.1 hf2
    have := last_max hf g hg
    show g.1 < n
    rw [← hn]
    split <;> omega
  have hz : (Dk.ins (fs.map Dk.syn1) n).map (Dk.app1 n (Fr.frm p)) = fs.map Dk.syn1 ++ [(n, Fr.frm p, 0)] := by
    rw [ins_last hlt, List.map_append, Dk.app1_other _ (fun f hf2 => by have := hlt f hf2; omega), List.map_cons, List.map_nil]
    have h1 := app1_new n (Fr.frm p)
    have h2 := Dk.app1_num n (Fr.frm p) (n, [], 0)
    have h3 := (Dk.app1_sure n (Fr.frm p) (n, [], 0)).1
    rw [show Dk.app1 n (Fr.frm p) (n, [], 0) = (n, Fr.frm p, 0) from Prod.ext h2 (Prod.ext h1 h3)]
  have hsl := Fr.seal_len p
  have hst : startR room fs p = Dk.appR room (fs.map Dk.syn1) n (Fr.frm p) := by
    unfold startR
    rw [if_pos ⟨hf, hp⟩, if_neg (by omega), hn]
  rw [hst]
  unfold Dk.appR
  rw [if_pos ⟨syn_fmd hf, hwin⟩, used_syn]
  by_cases hsp : ((Fr.frm p).length : Int) > room - Dk.used fs
  · rw [if_pos hsp]
    exact .inl ⟨rfl, by omega⟩
  · rw [if_neg hsp, hz]
    refine .inr ⟨n, by omega, rfl, ?_⟩
    rw [← hz]
    exact app_fmd (syn_fmd hf) hwin (by rw [used_syn]; omega)
/-- What an append to the last segment comes to. -/
theorem last_ways {room : Int} {init : List Fi} {y : Fi} {p : List Int} (hf : Dk.fmd room (init ++ [y]) = true) :
    (Dk.appR room (init ++ [y]) y.1 (Fr.frm p) = (0, [], 7) ∧ room - Dk.used (init ++ [y]) < 8 + (p.length : Int)) ∨ (Dk.appR room (init ++ [y]) y.1 (Fr.frm p) = (room, init ++ [(y.1, y.2.1 ++ Fr.frm p, y.2.2)], 0) ∧ Dk.fmd room (init ++ [(y.1, y.2.1 ++ Fr.frm p, y.2.2)]) = true) := by
  have hF := Dk.fmd_facts hf
  have hym : y ∈ init ++ [y] := List.mem_append_right _ (List.mem_singleton.2 rfl)
  have hyn := hF.num y hym
  have hwin : Dk.win y.1 1048576 = true := decide_eq_true ⟨hyn.1, hyn.2.1⟩
  have hlow : ∀ f ∈ init, f.1 ≠ y.1 := fun f hf2 => by
    have := (List.pairwise_append.1 hF.up).2.2 f hf2 y (List.mem_singleton.2 rfl)
    omega
  have hz : (Dk.ins (init ++ [y]) y.1).map (Dk.app1 y.1 (Fr.frm p)) = init ++ [(y.1, y.2.1 ++ Fr.frm p, y.2.2)] := by
    rw [ins_in hym, List.map_append, Dk.app1_other _ hlow]
    show init ++ [Dk.app1 y.1 (Fr.frm p) y] = _
    unfold Dk.app1
    rw [if_pos rfl]
  have hsl := Fr.seal_len p
  unfold Dk.appR
  rw [if_pos ⟨hf, hwin⟩]
  by_cases hsp : ((Fr.frm p).length : Int) > room - Dk.used (init ++ [y])
  · rw [if_pos hsp]
    exact .inl ⟨rfl, by omega⟩
  · rw [if_neg hsp, hz]
    refine .inr ⟨rfl, ?_⟩
    rw [← hz]
    exact app_fmd hf hwin (by omega)

/-- What is told of a journal that deeds were done to: i of them; all that was written; how much of it is sure. Only the last segment is ever unsure. -/
structure Lt (i : Nat) (fs : List Fi) (all : List (List Int)) (sure : Nat) : Prop where
  fm : Dk.fmd 16384 fs = true
  byte : ∀ p ∈ all, ∀ x ∈ p, isB x
  is : (fs = [] ∧ all = [] ∧ sure = 0) ∨ ∃ init f ps j, fs = init ++ [f] ∧ (∀ g ∈ init, g.2.2 = (g.2.1.length : Int)) ∧ Whole init ∧ f.2.1 = fl ps ∧ (∀ p ∈ ps, p.length ≤ 1048576) ∧ j ≤ ps.length ∧ f.2.2 = ((fl (ps.take j)).length : Int) ∧ all = recs init ++ ps ∧ sure ≤ (recs init).length + j ∧ f.1 ≤ (i : Int)
theorem Lt.start : Lt 0 [] [] 0 := ⟨by decide, (fun _ h => by cases h), .inl ⟨rfl, rfl, rfl⟩⟩
theorem Lt.mono {i k : Nat} {fs : List Fi} {all : List (List Int)} {sure : Nat} (h : Lt i fs all sure) (hk : i ≤ k) : Lt k fs all sure :=
  ⟨h.fm, h.byte, h.is.imp id (fun ⟨init, f, ps, j, h1, h2, h3, h4, h5, h6, h7, h8, h9, h10⟩ => ⟨init, f, ps, j, h1, h2, h3, h4, h5, h6, h7, h8, h9, by omega⟩)⟩
theorem Lt.sync {i : Nat} {fs : List Fi} {all : List (List Int)} {sure : Nat} (h : Lt i fs all sure) : Lt i (fs.map Dk.syn1) all all.length := by
  refine ⟨syn_fmd h.fm, h.byte, ?_⟩
  rcases h.is with ⟨rfl, rfl, rfl⟩ | ⟨init, f, ps, j, rfl, h2, h3, h4, h5, h6, h7, h8, h9, h10⟩
  · exact .inl ⟨rfl, rfl, rfl⟩
  · refine .inr ⟨init.map Dk.syn1, Dk.syn1 f, ps, ps.length, by rw [List.map_append]; rfl, fun g hg => ?_, Whole.map (g := Dk.syn1) (fun _ => rfl) h3, h4, h5, Nat.le_refl _, ?_, ?_, ?_, h10⟩
    · obtain ⟨g0, _, rfl⟩ := List.mem_map.1 hg
      rfl
    · rw [List.take_length]
      show (f.2.1.length : Int) = _
      rw [h4]
    · rw [recs_map (g := Dk.syn1) (fun _ => rfl)]
      exact h8
    · rw [recs_map (g := Dk.syn1) (fun _ => rfl), h8, List.length_append]
      exact Nat.le_refl _
theorem Lt.last {i : Nat} {fs : List Fi} {all : List (List Int)} {sure : Nat} (h : Lt i fs all sure) : lastR 16384 fs ≤ (i : Int) := by
  rcases h.is with ⟨rfl, _, _⟩ | ⟨init, f, ps, j, rfl, _, _, _, _, _, _, _, _, h10⟩
  · unfold lastR
    rw [if_pos h.fm]
    show (-1 : Int) ≤ _
    omega
  · unfold lastR
    rw [if_pos h.fm, List.getLast?_concat]
    exact h10
theorem Lt.recs {i : Nat} {fs : List Fi} {all : List (List Int)} {sure : Nat} (h : Lt i fs all sure) : Whole fs ∧ Jn.recs fs = all ∧ sure ≤ all.length := by
  rcases h.is with ⟨rfl, rfl, rfl⟩ | ⟨init, f, ps, j, rfl, h2, h3, h4, h5, h6, h7, h8, h9, h10⟩
  · exact ⟨(fun _ h => by cases h), rfl, Nat.le_refl _⟩
  · refine ⟨fun g hg => ?_, ?_, ?_⟩
    · rcases List.mem_append.1 hg with h1 | h1
      · exact h3 g h1
      · rw [List.mem_singleton] at h1
        subst h1
        exact ⟨ps, h4, h5⟩
    · rw [recs_append, recs_one, h4, cut_fl h5, h8]
    · rw [h8, List.length_append]; omega
/-- A record in a new segment. -/
theorem Lt.fresh {i : Nat} {fs : List Fi} {all : List (List Int)} {sure : Nat} {p : List Int} (h : Lt i fs all sure) (hi : i < 1048576) (hp : p.length ≤ 1048576) (hb : ∀ x ∈ p, isB x) :
    (startR 16384 fs p = (0, [], 7) ∧ 16384 - Dk.used fs < 8 + (p.length : Int)) ∨ ∃ zs, startR 16384 fs p = (16384, zs, 0) ∧ Lt (i + 1) zs (all ++ [p]) sure := by
  have hl := h.last
  have hl0 := last_le (room := 16384) (fs := fs)
  obtain ⟨r1, r2, r3⟩ := h.recs
  rcases start_ways (p := p) h.fm hp (by omega) with hs | ⟨n, hn, hs, hf⟩
  · exact .inl hs
  · refine .inr ⟨_, hs, hf, fun q hq => (List.mem_append.1 hq).elim (h.byte q) (fun h1 => by rw [List.mem_singleton] at h1; subst h1; exact hb), .inr ⟨fs.map Dk.syn1, (n, Fr.frm p, 0), [p], 0, rfl, fun g hg => ?_, Whole.map (g := Dk.syn1) (fun _ => rfl) r1, (fl_one p).symm, fun q hq => by rw [List.mem_singleton] at hq; subst hq; exact hp, Nat.zero_le _, rfl, ?_, ?_, ?_⟩⟩
    · obtain ⟨g0, _, rfl⟩ := List.mem_map.1 hg
      rfl
    · rw [recs_map (g := Dk.syn1) (fun _ => rfl), r2]
    · rw [recs_map (g := Dk.syn1) (fun _ => rfl), r2]
      exact r3
    · show n ≤ ((i + 1 : Nat) : Int)
      split at hn <;> omega
/-- A record behind all others. -/
theorem Lt.app {i : Nat} {fs : List Fi} {all : List (List Int)} {sure : Nat} {p : List Int} (h : Lt i fs all sure) (hi : i < 1048576) (hp : p.length ≤ 1048576) (hb : ∀ x ∈ p, isB x) :
    (appJR 16384 fs p = (0, [], 7) ∧ 16384 - Dk.used fs < 8 + (p.length : Int)) ∨ ∃ zs, appJR 16384 fs p = (16384, zs, 0) ∧ Lt (i + 1) zs (all ++ [p]) sure := by
  by_cases hfr : Jn.fresh fs p = true
  · have e : appJR 16384 fs p = startR 16384 fs p := by unfold appJR; rw [if_pos ⟨h.fm, hp⟩, if_pos hfr]
    rw [e]
    exact h.fresh hi hp hb
  · have hf := h.fm
    rcases h.is with ⟨rfl, _, _⟩ | ⟨init, f, ps, j, rfl, h2, h3, h4, h5, h6, h7, h8, h9, h10⟩
    · exact absurd rfl hfr
    · have e : appJR 16384 (init ++ [f]) p = Dk.appR 16384 (init ++ [f]) f.1 (Fr.frm p) := by
        unfold appJR
        rw [if_pos ⟨hf, hp⟩, if_neg hfr]
        unfold lastR
        rw [if_pos hf, List.getLast?_concat]
      rw [e]
      rcases last_ways (p := p) hf with hs | ⟨hs, hz⟩
      · exact .inl hs
      · refine .inr ⟨_, hs, hz, fun q hq => (List.mem_append.1 hq).elim (h.byte q) (fun h1 => by rw [List.mem_singleton] at h1; subst h1; exact hb), .inr ⟨init, (f.1, f.2.1 ++ Fr.frm p, f.2.2), ps ++ [p], j, rfl, h2, h3, ?_, fun q hq => (List.mem_append.1 hq).elim (h5 q) (fun h1 => by rw [List.mem_singleton] at h1; subst h1; exact hp), ?_, ?_, ?_, h9, ?_⟩⟩
        · show f.2.1 ++ Fr.frm p = _
          rw [fl_append, fl_one, h4]
        · rw [List.length_append]; omega
        · rw [List.take_append_of_le_length h6]
          exact h7
        · rw [h8, List.append_assoc]
        · show f.1 ≤ ((i + 1 : Nat) : Int)
          omega
theorem scan_behind : ∀ {a r : List Fi}, Whole a → (scan (a ++ r)).1 = recs a ++ (scan r).1
  | [], r, _ => rfl
  | f :: a, r, h => by
    obtain ⟨ps, h1, h2⟩ := h f (List.mem_cons_self ..)
    have hc : (cut f.2.1).1 = f.2.1.length := by rw [h1, cut_fl h2]
    rw [List.cons_append, scan_cons, if_neg (by omega), recs_cons, List.append_assoc]
    show _ ++ (scan (a ++ r)).1 = _
    rw [scan_behind (fun g hg => h g (List.mem_cons_of_mem _ hg))]
theorem scan_one (f : Fi) : (scan [f]).1 = (cut f.2.1).2 := by
  rw [scan_cons]
  split
  · rfl
  · exact List.append_nil _
/-- A crash, and what is scanned then. -/
theorem Lt.crash {i : Nat} {fs : List Fi} {all : List (List Int)} {sure : Nat} (h : Lt i fs all sure) {keep turn : Int} (hk : 0 ≤ keep) (ht : 0 ≤ turn ∧ turn ≤ 255) :
    ∃ fs', Dk.crsR 16384 fs keep turn = (16384, fs', 0) ∧ ∃ k d, scanR 16384 fs' = (all.take k, (16384, d, 0)) ∧ sure ≤ k ∧ k ≤ all.length := by
  have hF := Dk.fmd_facts h.fm
  obtain ⟨K, hK⟩ : ∃ K, keep.toNat = K := ⟨_, rfl⟩
  obtain ⟨fs', hfs⟩ : ∃ fs', Dk.atF (Dk.turnF turn) (Dk.lstTo K fs fs.length) (Dk.crsTo K fs fs.length) = fs' := ⟨_, rfl⟩
  have hat : ∀ (i : Nat) (f' : Fi), fs'[i]? = some f' → ∃ f, fs[i]? = some f ∧ ((f' = Dk.crs1 (Dk.kAt K fs i) f) ∨ (Dk.lstTo K fs fs.length = some i ∧ 0 < Dk.kp1 (Dk.kAt K fs i) f ∧ f' = Dk.turnF turn (Dk.crs1 (Dk.kAt K fs i) f))) := fun i f' hi => Dk.crs_at K fs turn (by rw [hfs]; exact hi)
  have hlen : fs'.length = fs.length := by rw [← hfs, Dk.atF_len, Dk.crsTo_len K fs fs.length (Nat.le_refl _)]
  have hless : ∀ (i : Nat) (f f' : Fi), fs[i]? = some f → fs'[i]? = some f' → Dk.Less f f' := fun i f f' h1 h2 => by
    obtain ⟨g, g1, g2⟩ := hat i f' h2
    rw [h1] at g1
    cases g1
    have hs := (hF.num f (List.mem_of_getElem? h1)).2.2
    obtain ⟨c1, c2, c3, c4, c5⟩ := Dk.crs1_facts (Dk.kAt K fs i) f hs.1 hs.2
    rcases g2 with rfl | ⟨-, -, rfl⟩
    · exact ⟨c1, by omega, by rw [c4]; omega, by rw [c4, c3]; omega⟩
    · obtain ⟨t1, t2, t3⟩ := Dk.turnF_len turn (Dk.crs1 (Dk.kAt K fs i) f)
      exact ⟨by rw [t1, c1], by omega, by rw [t3, c4]; omega, by rw [t3, t2, c4, c3]; omega⟩
  have hfm : Dk.fmd 16384 fs' = true := Dk.less_fmd hlen hless h.fm
  refine ⟨fs', by unfold Dk.crsR; rw [if_pos ⟨h.fm, hk, decide_eq_true ht⟩, hK, hfs], ?_⟩
  have hsc : ∀ k, (scan fs').1 = all.take k → scanR 16384 fs' = (all.take k, (16384, (scan fs').2.map Dk.syn1, 0)) := fun k hk2 => by
    unfold scanR
    rw [if_pos hfm, hk2]
  rcases h.is with ⟨rfl, rfl, rfl⟩ | ⟨init, f, ps, j, rfl, h2, h3, h4, h5, h6, h7, h8, h9, h10⟩
  · have he : fs' = [] := List.eq_nil_of_length_eq_zero hlen
    exact ⟨0, _, hsc 0 (by rw [he]; rfl), Nat.le_refl _, Nat.le_refl _⟩
  · rw [List.length_append, List.length_singleton] at hlen
    obtain ⟨f', hf'⟩ : ∃ f', fs'[init.length]? = some f' := ⟨fs'[init.length]'(by omega), List.getElem?_eq_getElem (by omega)⟩
    have heq : fs' = init ++ [f'] := by
      apply List.ext_getElem?
      intro u
      by_cases e1 : u < init.length
      · rw [List.getElem?_append_left e1]
        obtain ⟨g', hg'⟩ : ∃ g', fs'[u]? = some g' := ⟨fs'[u]'(by omega), List.getElem?_eq_getElem (by omega)⟩
        obtain ⟨g, g1, g2⟩ := hat u g' hg'
        rw [List.getElem?_append_left e1] at g1
        have hgs := h2 g (List.mem_of_getElem? g1)
        have hkp : Dk.kp1 (Dk.kAt K (init ++ [f]) u) g = 0 := by unfold Dk.kp1; rw [hgs]; omega
        rw [hg', g1]
        rcases g2 with rfl | ⟨-, h0, -⟩
        · congr 1
          unfold Dk.crs1
          rw [hkp, hgs]
          refine Prod.ext rfl (Prod.ext ?_ ?_)
          · exact List.take_of_length_le (by omega)
          · show ((((g.2.1.length : Int).toNat + 0 : Nat)) : Int) = g.2.2
            rw [hgs]
            omega
        · omega
      · by_cases e2 : u = init.length
        · subst e2
          rw [hf', List.getElem?_concat_length]
        · rw [List.getElem?_eq_none (by omega), List.getElem?_eq_none (by rw [List.length_append, List.length_singleton]; omega)]
    obtain ⟨g, g1, g2⟩ := hat init.length f' hf'
    rw [List.getElem?_concat_length] at g1
    injection g1 with g1
    subst g1
    have hbp : ∀ p ∈ ps, ∀ x ∈ p, isB x := fun p hp => h.byte p (by rw [h8]; exact List.mem_append_right _ hp)
    have hs := (hF.num f (List.mem_append_right _ (List.mem_singleton.2 rfl))).2.2
    obtain ⟨c1, c2, c3, c4, c5⟩ := Dk.crs1_facts (Dk.kAt K (init ++ [f]) init.length) f hs.1 hs.2
    obtain ⟨n, hn⟩ : ∃ n, f.2.2.toNat + Dk.kp1 (Dk.kAt K (init ++ [f]) init.length) f = n := ⟨_, rfl⟩
    rw [hn] at c2 c3 c5
    have hs0 : f.2.2.toNat = (fl (ps.take j)).length := by rw [h7]; omega
    have hnl : n ≤ (fl ps).length := by rw [← h4]; exact c5
    have key : ∃ q, j ≤ q ∧ q ≤ ps.length ∧ (cut f'.2.1).2 = ps.take q := by
      rcases g2 with rfl | ⟨-, h0, rfl⟩
      · rw [c2, h4]
        exact cut_trunc h5 h6 (by omega)
      · have hfb : ∀ x ∈ fl ps, isB x := fun x hx => by
          obtain ⟨r, hr, hx⟩ := List.mem_flatten.1 hx
          obtain ⟨p, hp, rfl⟩ := List.mem_map.1 hr
          exact Fr.seal_byte (hbp p hp) x hx
        show ∃ q, j ≤ q ∧ q ≤ ps.length ∧ (cut ((Dk.crs1 (Dk.kAt K (init ++ [f]) init.length) f).2.1.set ((Dk.crs1 (Dk.kAt K (init ++ [f]) init.length) f).2.1.length - 1) (Dk.trn ((Dk.crs1 (Dk.kAt K (init ++ [f]) init.length) f).2.1.getD ((Dk.crs1 (Dk.kAt K (init ++ [f]) init.length) f).2.1.length - 1) 0) turn))).2 = ps.take q
        rw [c3, c2, h4]
        refine cut_turned h5 hbp h6 (by omega) hnl (Dk.trn_byte ?_ ht)
        rw [List.getD_eq_getElem?_getD, List.getElem?_eq_getElem (by rw [List.length_take]; omega)]
        exact hfb _ (List.mem_of_mem_take (List.getElem_mem _))
    obtain ⟨q, q1, q2, q3⟩ := key
    refine ⟨(Jn.recs init).length + q, _, hsc _ ?_, by omega, by rw [h8, List.length_append]; omega⟩
    rw [heq, scan_behind h3, scan_one, q3, h8, List.take_length_add_append]
end Jn
end Go.Proofs.YtkhggofcbdcliaaDoor
namespace Go.Proofs.YtkhggofcbdcliaaDoor
open Go.RowKit

section
variable {P : Program} {ops : Array Oper} {md : Region.Mode} {Q : Exit → Act → World → Prop}

theorem wpAny_facts3 {n : Nat} (hB : factsB md ops n = true) (T : (Nat → Value) → Act) (Φ : Nat → (Nat → Value) → World → Prop) (Rel : World → World → Prop) (trans : ∀ {w1 w2 w3}, Rel w1 w2 → Rel w2 w3 → Rel w1 w3) (W0 : World)
    (loc : ∀ i k v x w, k ≠ i → k ∉ deps md ops i → Φ i v w → Φ i (upd v k x) w)
    (step : ∀ i, i < n → ∀ v w, Rel W0 w → (∀ j ∈ deps md ops i, Φ j v w) → wpOp P ops Q i (fun a' w' => ∃ x, a' = T (upd v i x) ∧ Rel w w' ∧ Φ i (upd v i x) w' ∧ ∀ j, j < n → j ≠ i → Φ j v w → Φ j v w') (T v) w)
    (done : ∀ v w, Rel W0 w → (∀ i, i < n → Φ i v w) → wpList P ops Q (ops.toList.drop n) (T v) w) :
    ∀ (f : Nat) (listed : Array Bool) (v : Nat → Value) (w : World), HeadInv md ops n listed → cntTo listed n = f → Rel W0 w → (∀ i, i < n → listed.getD i true = true → Φ i v w) → (∀ i, i < n → listed.getD i true = true → ∀ j ∈ deps md ops i, listed.getD j true = true) → wpAny P md ops Q (f + (ops.size - n)) listed (T v) w := by
  simp only [factsB, Bool.and_eq_true, decide_eq_true_eq] at hB
  obtain ⟨⟨⟨⟨hn, hs⟩, hc⟩, hd⟩, hq⟩ := hB
  intro f
  induction f with
  | zero =>
    intro listed v w inv hcnt hb hfacts _
    have hall := cntTo_zero listed n hcnt
    have he : listed = headListed ops.size n := by
      apply Array.ext
      · rw [inv.size]; simp [headListed]
      · intro i h1 h2
        have hi : i < ops.size := by rw [← inv.size]; exact h1
        have e2 : (headListed ops.size n)[i] = decide (i < n) := by simp [headListed]
        rw [e2]
        by_cases hin : i < n
        · have := hall i hin
          simp [h1] at this
          rw [this, decide_eq_true hin]
        · have := inv.tail i (by omega) hi
          simp [h1] at this
          rw [this, decide_eq_false hin]
    rw [Nat.zero_add]
    have hl : (ops.toList.drop n).length = ops.size - n := by simp
    rw [← hl]
    refine wpAny_of_seq (ops.toList.drop n) n listed _ w (fun j => by simp) ?_ (done v w hb (fun i hi => hfacts i hi (hall i hi)))
    rw [hl, he]
    exact hq
  | succ f ih =>
    intro listed v w inv hcnt hb hfacts hclosed
    obtain ⟨m, hm1, hm2, hm3⟩ := cntTo_pos listed n (by omega)
    have hmr : m ∈ Region.ready md ops listed := by
      have hms : m < ops.size := by omega
      refine mem_ready.2 ⟨hm2, ops[m], Array.getElem?_eq_getElem hms, fun e he hbind => ?_⟩
      have h1 := List.all_eq_true.1 hd m (List.mem_range.2 hms)
      have h2 : e.on ∈ deps md ops m := by
        unfold deps
        rw [Array.getElem?_eq_getElem hms]
        exact List.mem_map.2 ⟨e, List.mem_filter.2 ⟨Array.mem_toList_iff.2 he, hbind⟩, rfl⟩
      have h3 := of_decide_eq_true (List.all_eq_true.1 h1 _ h2)
      have h4 := hm3 e.on h3
      have h5 : e.on < listed.size := by rw [inv.size]; omega
      simp [h5] at h4 ⊢
      exact h4
    rw [show f + 1 + (ops.size - n) = (f + (ops.size - n)) + 1 from by omega]
    refine ⟨fun h0 => (by rw [h0] at hmr; cases hmr), fun i hi => ?_⟩
    have hin : i < n := by
      rcases Nat.lt_or_ge i n with h | h
      · exact h
      · exact absurd hi (tail_waits hs hc hn inv _ m rfl hm1 hm2 i h)
    obtain ⟨hun, oi, hoi, hafter⟩ := mem_ready.1 hi
    have hdl : ∀ j ∈ deps md ops i, listed.getD j true = true ∧ j < n := by
      intro j hj
      unfold deps at hj
      rw [hoi] at hj
      obtain ⟨e, he, rfl⟩ := List.mem_map.1 hj
      obtain ⟨he1, he2⟩ := List.mem_filter.1 he
      have h1 := hafter e (Array.mem_toList_iff.1 he1) he2
      have h2 : e.on < listed.size := by
        rcases Nat.lt_or_ge e.on listed.size with h' | h'
        · exact h'
        · simp [Array.getElem?_eq_none h'] at h1
      have h3 : listed.getD e.on true = true := by simp [h2] at h1 ⊢; exact h1
      refine ⟨h3, ?_⟩
      rcases Nat.lt_or_ge e.on n with h' | h'
      · exact h'
      · have := inv.tail e.on h' (by rw [← inv.size]; exact h2)
        rw [h3] at this
        cases this
    have keep : ∀ j, listed.getD j true = true → (listed.setIfInBounds i true).getD j true = true := fun j hj => by
      by_cases e : j = i
      · subst e; rw [hj] at hun; cases hun
      · rw [getD_set_ne true (fun h => e h.symm)]; exact hj
    refine wpOp_mono ?_ (step i hin v w hb (fun j hj => hfacts j (hdl j hj).2 (hdl j hj).1))
    rintro a' w' ⟨x, rfl, hb', hx, hst⟩
    refine ih _ (upd v i x) w' (inv.set hi hin) (by have := cntTo_set listed i hun n hin; omega) (trans hb hb') (fun j hj hl => ?_) (fun j hj hl d hdj => ?_)
    · by_cases e : j = i
      · subst e
        exact hx
      · rw [getD_set_ne true (fun h => e h.symm)] at hl
        refine loc j i v x w' (fun h => e h.symm) (fun h => ?_) (hst j hj e (hfacts j hj hl))
        have := hclosed j hj hl i h
        rw [hun] at this
        cases this
    · by_cases e : j = i
      · subst e
        exact keep d (hdl d hdj).1
      · rw [getD_set_ne true (fun h => e h.symm)] at hl
        exact keep d (hclosed j hj hl d hdj)

/-- **A region that draws its order, whose operations make memory, and one of which may store into what another one made:** what is known of an operation may speak of what those have yielded for which it waited. -/
theorem wp_region_facts3 {id : Nat} {l : List Oper} {w : World} (n : Nat) (hm : P.follows .mixedOrders = true) (hB : factsB .any l.toArray n = true) (T : (Nat → Value) → Act) (v0 : Nat → Value) (Φ : Nat → (Nat → Value) → World → Prop) (Rel : World → World → Prop) (trans : ∀ {w1 w2 w3}, Rel w1 w2 → Rel w2 w3 → Rel w1 w3) (hself : ∀ w, Rel w w) (hdrew : Rel w w.drew)
    (loc : ∀ i k v x w, k ≠ i → k ∉ deps .any l.toArray i → Φ i v w → Φ i (upd v k x) w)
    (step : ∀ i, i < n → ∀ v w', Rel w w' → (∀ j ∈ deps .any l.toArray i, Φ j v w') → wpOp P l.toArray Q i (fun a' w'' => ∃ x, a' = T (upd v i x) ∧ Rel w' w'' ∧ Φ i (upd v i x) w'' ∧ ∀ j, j < n → j ≠ i → Φ j v w' → Φ j v w'') (T v) w')
    (done : ∀ v w', Rel w w' → (∀ i, i < n → Φ i v w') → wpList P l.toArray Q (l.drop n) (T v) w') :
    (Code.region id l.toArray true).wp P Q (T v0) w := by
  refine wp_region_any hm ?_
  have hn : n < l.toArray.size := by
    simp only [factsB, Bool.and_eq_true, decide_eq_true_eq] at hB
    exact hB.1.1.1.1
  have hw : ∀ w', Rel { w with drawn := w.drawn + 1 } w' → Rel w w' := fun w' h => trans hdrew h
  have hno : ∀ i, i < n → (Array.replicate l.toArray.size false).getD i true = true → False := fun i hi hl => by
    rw [Array.getD_eq_getD_getElem?, Array.getElem?_replicate, if_pos (by omega)] at hl
    cases hl
  have h := wpAny_facts3 hB T Φ Rel trans { w with drawn := w.drawn + 1 } loc (fun i hi v w' hb hd => step i hi v w' (hw w' hb) hd) (fun v w' hb hf => done v w' (hw w' hb) hf)
    n (Array.replicate l.toArray.size false) v0 { w with drawn := w.drawn + 1 }
    ⟨by simp, fun j oj hj hl => (by rw [getD_replicate_false] at hl; cases hl), fun t ht ht' => (by rw [Array.getD_eq_getD_getElem?, Array.getElem?_replicate, if_pos ht']; rfl)⟩ (cntTo_none _ n (by omega)) (hself _) (fun i hi hl => (hno i hi hl).elim) (fun i hi hl => (hno i hi hl).elim)
  rw [show n + (l.toArray.size - n) = l.toArray.size from by omega] at h
  exact h
/-- One operation, walked as a list of one, with the way out behind a letter. -/
theorem wpOp_oneK {i : Nat} {o : Oper} {K : Act → World → Prop} {a : Act} {w : World} (ho : ops[i]? = some o) (h : ∀ K' : Act → World → Prop, (∀ a w, K a w → K' a w) → wpList P ops (Exit.then K' Q) [o] a w) : wpOp P ops Q i K a w := wpOp_one ho (h K (fun _ _ h => h))
end
end Go.Proofs.YtkhggofcbdcliaaDoor
namespace Go.Proofs.YtkhggofcbdcliaaDoor
open Go.RowKit

/-- A deed where it lies. -/
structure Dj where
  start : Bool
  sync : Bool
  X : Option Addr
  c : Nat
  l : List Int
def djCells : List Dj → List Value
  | [] => []
  | f :: r => .bool f.start :: .bool f.sync :: .slice f.X f.l.length f.c :: djCells r
theorem djCells_get (L : List Dj) (x : Dj) : ∀ k, L[k]? = some x → (djCells L)[k * 3]? = some (.bool x.start) ∧ (djCells L)[k * 3 + 1]? = some (.bool x.sync) ∧ (djCells L)[k * 3 + 2]? = some (.slice x.X x.l.length x.c) := by
  induction L with
  | nil => intro k h; simp at h
  | cons y r ih =>
    intro k h
    cases k with
    | zero =>
      simp at h
      subst h
      exact ⟨rfl, rfl, rfl⟩
    | succ m =>
      have := ih m (by simpa using h)
      rw [show (m + 1) * 3 = m * 3 + 3 from by omega]
      exact this
theorem djCells_nil {L : List Dj} : djCells L = [] ↔ L = [] := by cases L <;> simp [djCells]
/-- A list of deeds by value. -/
structure OneDj (w : World) (A : Option Addr) (c : Nat) (L : List Dj) : Prop where
  le : L.length ≤ c
  cap : c ≤ maxLen
  noA : A = none → L.length = 0 ∧ c = 0
  lies : Lies w A (djCells L)
  each : ∀ f ∈ L, OneB w f.X f.c f.l
theorem OneDj.later {w w' : World} {A : Option Addr} {c : Nat} {L : List Dj} (h : OneDj w A c L) (hb : Below w.heap.size w w') : OneDj w' A c L := ⟨h.le, h.cap, h.noA, h.lies.later hb, fun f hf => (h.each f hf).later hb⟩
theorem OneDj.at {w : World} {A : Option Addr} {c : Nat} {L : List Dj} (h : OneDj w A c L) (hne : L ≠ []) : ∃ b off, A = some ⟨b, off, none⟩ ∧ ∀ k x, L[k]? = some x → w.cell? ⟨b, off + k * 3, none⟩ = some (.bool x.start) ∧ w.cell? ⟨b, off + k * 3 + 1, none⟩ = some (.bool x.sync) ∧ w.cell? ⟨b, off + k * 3 + 2, none⟩ = some (.slice x.X x.l.length x.c) := by
  obtain ⟨b, off, hA, hc⟩ := h.lies (fun e => hne (djCells_nil.1 e))
  refine ⟨b, off, hA, fun k x hx => ?_⟩
  obtain ⟨g0, g1, g2⟩ := djCells_get L x k hx
  exact ⟨hc _ _ g0, by rw [Nat.add_assoc]; exact hc _ _ g1, by rw [Nat.add_assoc]; exact hc _ _ g2⟩

/-- What lies while written goes on: the answer's box at D, the disk at D + 1, the records V. -/
structure WrM (D i sure : Nat) (w wr : World) (V : Value) (cs : List (Option Addr × Nat)) (ls : List (List Int)) (A : Option Addr) (c : Nat) (M : List Fc) : Prop where
  hn : w.heap.size ≤ D
  d0 : Blk wr D 24 #[.int .i64 0, .slice none 0 0]
  d1 : Blk wr (D + 1) 24 #[.int .i64 16384, .slice A M.length c]
  row : wr.ownsRow (D + 2) 25 1 V ls.length (sliCells cs ls)
  lens : cs.length = ls.length
  each : ∀ k, k < ls.length → OneB w (cs.getD k (none, 0)).1 (cs.getD k (none, 0)).2 (ls.getD k [])
  own : OwnD wr (D + 2) 50 5 (.slice A M.length c) M
  lt : Jn.Lt i (M.map Fc.fi) ls sure
  low : Below w.heap.size w wr
section
variable {D i sure : Nat} {w wr w1 w2 : World} {V V2 : Value} {cs : List (Option Addr × Nat)} {ls : List (List Int)} {A A2 : Option Addr} {c c2 : Nat} {M M2 : List Fc}
theorem WrM.lt_size (h : WrM D i sure w wr V cs ls A c M) : D + 2 ≤ wr.heap.size := by have := h.d1.lt; omega
theorem WrM.later (h : WrM D i sure w wr V cs ls A c M) (hb : Below wr.heap.size wr w1) : WrM D i sure w w1 V cs ls A c M :=
  ⟨h.hn, h.d0.later hb, h.d1.later hb, own_later h.row hb, h.lens, h.each, h.own.later hb, h.lt, below_on h.low hb⟩
theorem WrM.mono (h : WrM D i sure w wr V cs ls A c M) : WrM D (i + 1) sure w wr V cs ls A c M := ⟨h.hn, h.d0, h.d1, h.row, h.lens, h.each, h.own, h.lt.mono (Nat.le_succ i), h.low⟩
theorem WrM.start (w : World) : WrM w.heap.size 0 0 w ((w.alloc (.cells #[.int .i64 0, .slice none 0 0] 24)).alloc (.cells #[.int .i64 16384, .slice none 0 0] 24)) (.slice none 0 0) [] [] none 0 [] := by
  refine ⟨Nat.le_refl _, (Blk.new w 24 #[.int .i64 0, .slice none 0 0]).alloc _, ?_, ⟨rfl, .inl ⟨rfl, rfl⟩⟩, rfl, (fun k hk => by cases hk), OwnD.nil _ _ _ _, Jn.Lt.start, below_new (below_new (Below.refl _ _) _) _⟩
  have := Blk.new (w.alloc (.cells #[.int .i64 0, .slice none 0 0] 24)) 24 #[.int .i64 16384, .slice none 0 0]
  rw [show (w.alloc (.cells #[.int .i64 0, .slice none 0 0] 24)).heap.size = w.heap.size + 1 from by simp] at this
  exact this
/-- The disk is another one. -/
theorem WrM.put (h : WrM D i sure w w1 V cs ls A c M) {base k s2 : Nat} (ho : OwnD w1 base 50 5 (.slice A2 M2.length c2) M2) (hb : D + 2 ≤ base) (hl : Jn.Lt k (M2.map Fc.fi) ls s2) :
    WrM D k s2 w ((w1.setCell ⟨D + 1, 0, none⟩ (.int .i64 16384)).setCell ⟨D + 1, 1, none⟩ (.slice A2 M2.length c2)) V cs ls A2 c2 M2 := by
  have hn := h.hn
  have e1 : D ≠ D + 1 := by omega
  have kp : Kept (D + 1) (D + 2) w1 ((w1.setCell ⟨D + 1, 0, none⟩ (.int .i64 16384)).setCell ⟨D + 1, 1, none⟩ (.slice A2 M2.length c2)) := ((Kept.refl _ _ w1).put (p := ⟨D + 1, 0, none⟩) (Nat.le_refl _) (Nat.lt_succ_self _) _).put (p := ⟨D + 1, 1, none⟩) (Nat.le_refl _) (Nat.lt_succ_self _) _
  exact ⟨hn, (h.d0.far (p := ⟨D + 1, 0, none⟩) e1 _).far (p := ⟨D + 1, 1, none⟩) e1 _, (h.d1.put 0 _).put 1 _, own_stays h.row (fun k hk => kp.same k (own_lt h.row k hk) (.inr (own_ge h.row k hk))), h.lens, h.each, (ho.lower hb).above kp (Nat.le_refl _), hl,
    (h.low.setCell (p := ⟨D + 1, 0, none⟩) (by show w.heap.size ≤ D + 1; omega) _).setCell (p := ⟨D + 1, 1, none⟩) (by show w.heap.size ≤ D + 1; omega) _⟩
end
/-- A record's bytes behind the others: the row is another one, and what is told of the disk. -/
structure WrR (D : Nat) (w wr : World) (V : Value) (cs : List (Option Addr × Nat)) (ls : List (List Int)) (A : Option Addr) (c : Nat) (M : List Fc) : Prop where
  hn : w.heap.size ≤ D
  d0 : Blk wr D 24 #[.int .i64 0, .slice none 0 0]
  d1 : Blk wr (D + 1) 24 #[.int .i64 16384, .slice A M.length c]
  row : wr.ownsRow (D + 2) 25 1 V ls.length (sliCells cs ls)
  lens : cs.length = ls.length
  each : ∀ k, k < ls.length → OneB w (cs.getD k (none, 0)).1 (cs.getD k (none, 0)).2 (ls.getD k [])
  own : OwnD wr (D + 2) 50 5 (.slice A M.length c) M
  low : Below w.heap.size w wr
section
variable {D i sure : Nat} {w wr w1 w2 : World} {V V2 : Value} {cs : List (Option Addr × Nat)} {ls : List (List Int)} {A A2 : Option Addr} {c c2 : Nat} {M M2 : List Fc}
theorem WrR.later (h : WrR D w wr V cs ls A c M) (hb : Below wr.heap.size wr w1) : WrR D w w1 V cs ls A c M :=
  ⟨h.hn, h.d0.later hb, h.d1.later hb, own_later h.row hb, h.lens, h.each, h.own.later hb, below_on h.low hb⟩
theorem WrM.toR (h : WrM D i sure w wr V cs ls A c M) : WrR D w wr V cs ls A c M := ⟨h.hn, h.d0, h.d1, h.row, h.lens, h.each, h.own, h.low⟩
theorem WrR.put (h : WrR D w w1 V cs ls A c M) {base : Nat} (ho : OwnD w1 base 50 5 (.slice A2 M2.length c2) M2) (hb : D + 2 ≤ base) :
    WrR D w ((w1.setCell ⟨D + 1, 0, none⟩ (.int .i64 16384)).setCell ⟨D + 1, 1, none⟩ (.slice A2 M2.length c2)) V cs ls A2 c2 M2 := by
  have hn := h.hn
  have e1 : D ≠ D + 1 := by omega
  have kp : Kept (D + 1) (D + 2) w1 ((w1.setCell ⟨D + 1, 0, none⟩ (.int .i64 16384)).setCell ⟨D + 1, 1, none⟩ (.slice A2 M2.length c2)) := ((Kept.refl _ _ w1).put (p := ⟨D + 1, 0, none⟩) (Nat.le_refl _) (Nat.lt_succ_self _) _).put (p := ⟨D + 1, 1, none⟩) (Nat.le_refl _) (Nat.lt_succ_self _) _
  exact ⟨hn, (h.d0.far (p := ⟨D + 1, 0, none⟩) e1 _).far (p := ⟨D + 1, 1, none⟩) e1 _, (h.d1.put 0 _).put 1 _, own_stays h.row (fun k hk => kp.same k (own_lt h.row k hk) (.inr (own_ge h.row k hk))), h.lens, h.each, (ho.lower hb).above kp (Nat.le_refl _),
    (h.low.setCell (p := ⟨D + 1, 0, none⟩) (by show w.heap.size ≤ D + 1; omega) _).setCell (p := ⟨D + 1, 1, none⟩) (by show w.heap.size ≤ D + 1; omega) _⟩
theorem WrR.snoc (h : WrR D w wr V cs ls A c M) {X : Option Addr} {cx : Nat} {p : List Int} (hx : OneB w X cx p) (hg : wr.grownBy w2 V.ownBlock) (hr : w2.ownsRow (D + 2) 25 1 V2 (ls.length + 1) (sliCells cs ls ++ [.slice X p.length cx])) (hl : Jn.Lt i (M.map Fc.fi) (ls ++ [p]) sure) :
    WrM D i sure w w2 V2 (cs ++ [(X, cx)]) (ls ++ [p]) A c M := by
  have hge := own_ge h.row
  have hlt := h.d1.lt
  have hn := h.hn
  have low : ∀ k, k < D + 2 → w2.heap[k]? = wr.heap[k]? := fun k hk => hg.block k (by omega) (fun e => by have := hge k e.symm; omega)
  have hfr : ∀ k, (Value.slice A M.length c).ownBlock = some k → some k ≠ V.ownBlock := own_apart h.own.row h.row (by decide)
  refine ⟨hn, (low _ (by omega)).trans h.d0, (low _ (by omega)).trans h.d1, by rw [sliCells_snoc cs ls (X, cx) p h.lens, List.length_append, List.length_singleton]; exact hr, by simp [h.lens], fun k hk => ?_, ⟨own_stays h.own.row (fun k hk => hg.block k (own_lt h.own.row k hk) (hfr k hk)), fun f hf => ?_, h.own.apart⟩, hl, h.low.grown hg h.low.size (fun k hk => by have := hge k hk; omega)⟩
  · rw [List.length_append, List.length_singleton] at hk
    by_cases e : k < ls.length
    · rw [List.getD_eq_getElem?_getD, List.getElem?_append_left (by rw [h.lens]; exact e), ← List.getD_eq_getElem?_getD, List.getD_eq_getElem?_getD (l := ls ++ [p]), List.getElem?_append_left e, ← List.getD_eq_getElem?_getD]
      exact h.each k e
    · have ek : k = ls.length := by omega
      subst ek
      rw [List.getD_eq_getElem?_getD, ← h.lens, List.getElem?_concat_length, h.lens, List.getD_eq_getElem?_getD, List.getElem?_concat_length]
      exact hx
  · have hb := h.own.each f hf
    refine hb.stays (fun k hk => hg.block k (hb.lt k hk).2 (fun e => ?_))
    -- a row of slices is no row of bytes
    rcases h.row.2 with ⟨hv, _⟩ | ⟨g, cap, cur, hv, _, hh, _⟩
    · rw [hv] at e; cases e
    · rw [hv] at e
      have e2 : k = g := by injection e
      subst e2
      exact hb.off (show Blk wr k 25 cur from hh) (by decide) hk
end
theorem rowB_of {w wr : World} {base : Nat} {V : Value} {cs : List (Option Addr × Nat)} {ls : List (List Int)} (row : wr.ownsRow base 25 1 V ls.length (sliCells cs ls)) (lens : cs.length = ls.length) (each : ∀ k, k < ls.length → OneB w (cs.getD k (none, 0)).1 (cs.getD k (none, 0)).2 (ls.getD k [])) (low : Below w.heap.size w wr) :
    ∃ RA rc, V = .slice RA ls.length rc ∧ RowB wr RA rc ls := by
  obtain ⟨RA, rc, h1, h2, h3, h4, h5⟩ := own_form row
  refine ⟨RA, rc, h1, ⟨h2, h3, h4, fun hne => ?_⟩⟩
  have hne2 : sliCells cs ls ≠ [] := fun e => by
    have h0 : 0 < ls.length := List.length_pos_iff.2 hne
    have := sliCells_get cs ls 0 (by rw [lens]; exact h0) h0
    rw [e] at this
    cases this
  obtain ⟨b, off, hA, hc⟩ := h5 hne2
  exact ⟨b, off, hA, fun k hk => ⟨_, _, hc k _ (sliCells_get cs ls k (by rw [lens]; exact hk) hk), (each k hk).later low⟩⟩
/-- The answer's box is written. -/
theorem WrR.fin {D : Nat} {w wr : World} {V : Value} {cs : List (Option Addr × Nat)} {ls : List (List Int)} {A : Option Addr} {c : Nat} {M : List Fc} (h : WrR D w wr V cs ls A c M) (u0 u1 : Value) :
    OneD ((wr.setCell ⟨D, 0, none⟩ u0).setCell ⟨D, 1, none⟩ u1) A c M ∧ (∃ RA rc, V = .slice RA ls.length rc ∧ RowB ((wr.setCell ⟨D, 0, none⟩ u0).setCell ⟨D, 1, none⟩ u1) RA rc ls) ∧ Below w.heap.size w ((wr.setCell ⟨D, 0, none⟩ u0).setCell ⟨D, 1, none⟩ u1) := by
  have hn := h.hn
  have kp : Kept D (D + 2) wr ((wr.setCell ⟨D, 0, none⟩ u0).setCell ⟨D, 1, none⟩ u1) := ((Kept.refl _ _ wr).put (p := ⟨D, 0, none⟩) (Nat.le_refl _) (by show D < D + 2; omega) _).put (p := ⟨D, 1, none⟩) (Nat.le_refl _) (by show D < D + 2; omega) _
  have lo := (h.low.setCell (p := ⟨D, 0, none⟩) (by show w.heap.size ≤ D; omega) u0).setCell (p := ⟨D, 1, none⟩) (by show w.heap.size ≤ D; omega) u1
  exact ⟨(h.own.above kp (Nat.le_refl _)).oneD, rowB_of (own_stays h.row (fun k hk => kp.same k (own_lt h.row k hk) (.inr (own_ge h.row k hk)))) h.lens h.each lo, lo⟩
/-- What each operation of 'x, e := journal.Append(..)' leaves, where e is boxed behind it. -/
def SaJ (B : Nat) (rm kr : Int) (fs2 : List Fi) (K : Nat → Value) : Nat → (Nat → Value) → World → Prop
  | 6, v, w => ∃ A2 c2 M2, v 6 = .tuple #[.agg #[.int .i64 rm, .slice A2 (List.length M2) c2], .int .i64 kr] ∧ OwnD w B 50 5 (.slice A2 M2.length c2) M2 ∧ M2.map Fc.fi = fs2
  | 7, v, w => ∃ A2 c2 M2, v 7 = .tuple #[.agg #[.int .i64 rm, .slice A2 (List.length M2) c2], .int .i64 kr] ∧ OwnD w B 50 5 (.slice A2 M2.length c2) M2 ∧ M2.map Fc.fi = fs2
  | 8, v, w => ∃ A2 c2 M2, v 8 = .agg #[.int .i64 rm, .slice A2 (List.length M2) c2] ∧ OwnD w B 50 5 (.slice A2 M2.length c2) M2 ∧ M2.map Fc.fi = fs2
  | 10, v, w => ∃ g u0 u1, v 10 = .pointer (some ⟨g, 0, none⟩) ∧ B ≤ g ∧ Blk w g 24 #[u0, u1]
  | 11, v, w => ∃ g A2 c2 M2, v 10 = .pointer (some ⟨g, 0, none⟩) ∧ B ≤ g ∧ Blk w g 24 #[.int .i64 rm, .slice A2 (List.length M2) c2] ∧ OwnD w B 50 5 (.slice A2 M2.length c2) M2 ∧ M2.map Fc.fi = fs2
  | i, v, _ => v i = K i
section
variable {w : World} {B : Nat} {rm kr : Int} {fs2 : List Fi} {K : Nat → Value} {v : Nat → Value} {w' : World}
theorem SaJ.loc {i k : Nat} {x : Value} (hk : k ≠ i) (h11 : i = 11 → k ≠ 10) (h : SaJ B rm kr fs2 K i v w) : SaJ B rm kr fs2 K i (upd v k x) w := by
  unfold SaJ at h ⊢
  split at h <;> first
    | (rw [upd_other v k x (fun e => hk e.symm)]; exact h)
    | (rw [upd_other v k x (fun e => h11 rfl e.symm)]; exact h)
theorem SaJ.later (hb : Below w.heap.size w w') {i : Nat} (h : SaJ B rm kr fs2 K i v w) : SaJ B rm kr fs2 K i v w' := by
  unfold SaJ at h ⊢
  split at h
  · obtain ⟨A2, c2, M2, h1, h2, h3⟩ := h; exact ⟨A2, c2, M2, h1, h2.later hb, h3⟩
  · obtain ⟨A2, c2, M2, h1, h2, h3⟩ := h; exact ⟨A2, c2, M2, h1, h2.later hb, h3⟩
  · obtain ⟨A2, c2, M2, h1, h2, h3⟩ := h; exact ⟨A2, c2, M2, h1, h2.later hb, h3⟩
  · obtain ⟨g, u0, u1, h1, h2, h3⟩ := h; exact ⟨g, u0, u1, h1, h2, h3.later hb⟩
  · obtain ⟨g, A2, c2, M2, h1, h2, h3, h4, h5⟩ := h; exact ⟨g, A2, c2, M2, h1, h2, h3.later hb, h4.later hb, h5⟩
  · exact h
theorem SaJ.stored {g : Nat} {cs : Array Value} {u0 u1 : Value} (hY : Blk w g 24 cs) {i : Nat} (hi : i ≠ 11) (h : SaJ B rm kr fs2 K i v w) : SaJ B rm kr fs2 K i v ((w.setCell ⟨g, 0, none⟩ u0).setCell ⟨g, 1, none⟩ u1) := by
  have hs : ∀ b, b ≠ g → ((w.setCell ⟨g, 0, none⟩ u0).setCell ⟨g, 1, none⟩ u1).heap[b]? = w.heap[b]? := fun b hb => (Below.heap_setCell _ _ _ _ hb).trans (Below.heap_setCell _ _ _ _ hb)
  unfold SaJ at h ⊢
  split at h
  · obtain ⟨A2, c2, M2, h1, h2, h3⟩ := h; exact ⟨A2, c2, M2, h1, h2.aside hY (by decide) (by decide) hs, h3⟩
  · obtain ⟨A2, c2, M2, h1, h2, h3⟩ := h; exact ⟨A2, c2, M2, h1, h2.aside hY (by decide) (by decide) hs, h3⟩
  · obtain ⟨A2, c2, M2, h1, h2, h3⟩ := h; exact ⟨A2, c2, M2, h1, h2.aside hY (by decide) (by decide) hs, h3⟩
  · obtain ⟨g2, v0, v1, h1, h2, h3⟩ := h
    by_cases e : g2 = g
    · subst e
      exact ⟨g2, u0, u1, h1, h2, (h3.put 0 u0).put 1 u1⟩
    · exact ⟨g2, v0, v1, h1, h2, (hs g2 e).trans h3⟩
  · exact absurd rfl hi
  · exact h
end
/-- What each operation of 'x, e = journal.Start(..)' leaves, where x's box is g. -/
def SaK (g B : Nat) (rm kr : Int) (fs2 : List Fi) (K : Nat → Value) : Nat → (Nat → Value) → World → Prop
  | 6, v, w => ∃ A2 c2 M2, v 6 = .tuple #[.agg #[.int .i64 rm, .slice A2 (List.length M2) c2], .int .i64 kr] ∧ OwnD w B 50 5 (.slice A2 M2.length c2) M2 ∧ M2.map Fc.fi = fs2
  | 7, v, w => ∃ A2 c2 M2, v 7 = .tuple #[.agg #[.int .i64 rm, .slice A2 (List.length M2) c2], .int .i64 kr] ∧ OwnD w B 50 5 (.slice A2 M2.length c2) M2 ∧ M2.map Fc.fi = fs2
  | 8, v, w => ∃ A2 c2 M2, v 8 = .agg #[.int .i64 rm, .slice A2 (List.length M2) c2] ∧ OwnD w B 50 5 (.slice A2 M2.length c2) M2 ∧ M2.map Fc.fi = fs2
  | 10, _, w => ∃ A2 c2 M2, Blk w g 24 #[.int .i64 rm, .slice A2 (List.length M2) c2] ∧ OwnD w B 50 5 (.slice A2 M2.length c2) M2 ∧ M2.map Fc.fi = fs2
  | i, v, _ => v i = K i
section
variable {w : World} {g B : Nat} {rm kr : Int} {fs2 : List Fi} {K : Nat → Value} {v : Nat → Value} {w' : World}
theorem SaK.loc {i k : Nat} {x : Value} (hk : k ≠ i) (h : SaK g B rm kr fs2 K i v w) : SaK g B rm kr fs2 K i (upd v k x) w := by
  unfold SaK at h ⊢
  split at h <;> first
    | exact h
    | (rw [upd_other v k x (fun e => hk e.symm)]; exact h)
theorem SaK.later (hb : Below w.heap.size w w') {i : Nat} (h : SaK g B rm kr fs2 K i v w) : SaK g B rm kr fs2 K i v w' := by
  unfold SaK at h ⊢
  split at h
  · obtain ⟨A2, c2, M2, h1, h2, h3⟩ := h; exact ⟨A2, c2, M2, h1, h2.later hb, h3⟩
  · obtain ⟨A2, c2, M2, h1, h2, h3⟩ := h; exact ⟨A2, c2, M2, h1, h2.later hb, h3⟩
  · obtain ⟨A2, c2, M2, h1, h2, h3⟩ := h; exact ⟨A2, c2, M2, h1, h2.later hb, h3⟩
  · obtain ⟨A2, c2, M2, h1, h2, h3⟩ := h; exact ⟨A2, c2, M2, h1.later hb, h2.later hb, h3⟩
  · exact h
theorem SaK.stored {cs : Array Value} {u0 u1 : Value} (hY : Blk w g 24 cs) {i : Nat} (hi : i ≠ 10) (h : SaK g B rm kr fs2 K i v w) : SaK g B rm kr fs2 K i v ((w.setCell ⟨g, 0, none⟩ u0).setCell ⟨g, 1, none⟩ u1) := by
  have hs : ∀ b, b ≠ g → ((w.setCell ⟨g, 0, none⟩ u0).setCell ⟨g, 1, none⟩ u1).heap[b]? = w.heap[b]? := fun b hb => (Below.heap_setCell _ _ _ _ hb).trans (Below.heap_setCell _ _ _ _ hb)
  unfold SaK at h ⊢
  split at h
  · obtain ⟨A2, c2, M2, h1, h2, h3⟩ := h; exact ⟨A2, c2, M2, h1, h2.aside hY (by decide) (by decide) hs, h3⟩
  · obtain ⟨A2, c2, M2, h1, h2, h3⟩ := h; exact ⟨A2, c2, M2, h1, h2.aside hY (by decide) (by decide) hs, h3⟩
  · obtain ⟨A2, c2, M2, h1, h2, h3⟩ := h; exact ⟨A2, c2, M2, h1, h2.aside hY (by decide) (by decide) hs, h3⟩
  · exact absurd rfl hi
  · exact h
end
/-- All below n stays, and g is a disk's box. -/
structure RelG (n g : Nat) (w1 w2 : World) : Prop where
  low : Below n w1 w2
  box : (∃ u0 u1, Blk w1 g 24 #[u0, u1]) → ∃ u0 u1, Blk w2 g 24 #[u0, u1]
theorem RelG.trans {n g : Nat} {w1 w2 w3 : World} (h : RelG n g w1 w2) (h2 : RelG n g w2 w3) : RelG n g w1 w3 := ⟨h.low.trans h2.low, fun hb => h2.box (h.box hb)⟩
theorem RelG.refl (n g : Nat) (w : World) : RelG n g w w := ⟨Below.refl _ _, fun h => h⟩
theorem RelG.later {n g : Nat} {w1 w2 : World} (hn : n ≤ w1.heap.size) (hb : Below w1.heap.size w1 w2) : RelG n g w1 w2 := ⟨hb.mono hn, fun ⟨u0, u1, h⟩ => ⟨u0, u1, h.later hb⟩⟩
theorem RelG.drew (n g : Nat) (w : World) : RelG n g w w.drew := ⟨Below.drew (Below.refl _ _), fun h => h⟩
end Go.Proofs.YtkhggofcbdcliaaDoor
namespace Go.Proofs.YtkhggofcbdcliaaDoor
open Go.RowKit

/-- The disk that deeds were done to, what was written, how much of it is sure. -/
def GivesWr (i : Nat) (w : World) (e : Ending) (w' : World) : Prop :=
  ∃ A c M V cv ls sure, e = .returned (.tuple #[.agg #[.int .i64 16384, .slice A (List.length M) c], .slice V (List.length ls) cv, .int .i64 ((sure : Nat) : Int), .bool true]) ∧ OneD w' A c M ∧ RowB w' V cv ls ∧ Jn.Lt i (M.map Fc.fi) ls sure ∧ Below w.heap.size w w'

set_option maxRecDepth 100000 in
set_option maxHeartbeats 6400000 in
theorem written_any (JS : JournalSpec) (A : Option Addr) (c : Nat) (L : List Dj) (w : World) (h : OneDj w A c L) (hL : L.length ≤ 60) (hd : ∀ f ∈ L, f.l.length ≤ 16384) (hH : Halves w) :
    Calls Tryd.prog 22 #[.slice A L.length c] w (GivesWr L.length w) := by
  have HD0 := Lib.hid h
  have hll := h.le
  have hcm := h.cap
  unfold maxLen at hcm
  have HDL := Lib.hid hd
  have SP := Lib.hid JS
  have HHW := Lib.hid hH
  obtain ⟨j0, hJ, hj0, hj1, hj2⟩ := info_parts infoRow
  clear h hd hH JS
  have INI := Lib.hid (WrM.start w)
  go_enter Tryd.func22, Tryd.ntmps22
  go_wp2_with fail
  obtain ⟨W0, hW0⟩ : ∃ W0, (w.alloc (.cells #[.int .i64 0, .slice none 0 0] 24)).alloc (.cells #[.int .i64 16384, .slice none 0 0] 24) = W0 := ⟨_, rfl⟩
  rw [hW0] at INI
  try rw [hW0]
  clear hW0
  obtain ⟨D, hD⟩ : ∃ D, w.heap.size = D := ⟨_, rfl⟩
  have HWD := Lib.hid (show w.heap.size ≤ D from by omega)
  rw [hD] at INI ⊢
  clear hD
  go_loopw [7, 8, 9] (fun s7 s8 s9 wr => ∃ (i sure : Nat) (cs : List (Option Addr × Nat)) (ls : List (List Int)) (V : Option Addr) (cv : Nat) (M : List Fc), i ≤ L.length ∧ s8 = .int .i64 (sure : Int) ∧ s9 = .int .i64 (i : Int) ∧ ls.length ≤ i ∧ WrM D i sure w wr s7 cs ls V cv M) (fun _ _ s9 _ => L.length - (intOf s9).toNat)
  case atStart => exact ⟨0, 0, [], [], _, _, _, Nat.zero_le _, rfl, rfl, Nat.le_refl _, INI.out⟩
  case round =>
    obtain ⟨i, sure, cs, ls, V, cv, M, hi, rfl, rfl, hlsi, hS⟩ := hrel
    clear INI
    obtain ⟨RA, rc, hra, -, hrm, hrn, -⟩ := own_form hS.row
    subst hra
    unfold maxLen at hrm
    have HS := Lib.hid hS
    have hwlt := hS.lt_size
    have hsl := hS.lt.recs.2.2
    by_cases hil : i < L.length
    · have hne : L ≠ [] := fun e => by subst e; simp at hil
      obtain ⟨b, off, hA, hc⟩ := HD0.out.at hne
      obtain ⟨x, hx⟩ : ∃ x, L[i]? = some x := ⟨L[i], List.getElem?_eq_getElem hil⟩
      obtain ⟨u0, u1, u2⟩ := hc i x hx
      have e0 := cell_later hS.low u0
      have e1 := cell_later hS.low u1
      have e2 := cell_later hS.low u2
      have XO := Lib.hid ((HD0.out.later hS.low).each x (List.mem_of_getElem? hx))
      have XO0 := Lib.hid (HD0.out.each x (List.mem_of_getElem? hx))
      have hxl := HDL.out x (List.mem_of_getElem? hx)
      have EVER := Lib.hid (fun (w' : World) (hb : Below w.heap.size w w') => And.intro (cell_later hb u0) (And.intro (cell_later hb u2) ((HD0.out.each x (List.mem_of_getElem? hx)).later hb)))
      clear u0 u1 u2
      subst hA
      have hi0 : (0 : Int) ≤ (i : Int) := by omega
      have hi1 : (i : Int) < (L.length : Int) := by omega
      have d0 := hS.d1.cell (i := 0) rfl
      have d1 := hS.d1.cell (i := 1) rfl
      clear hS hc hne hx
      cases hsy : x.sync with
      | true =>
        rw [hsy] at e1
        clear hsy
        have SY := dsync_any 16384 V cv M _ HS.out.own.oneD
        rw [show Dk.synR 16384 (M.map Fc.fi) = (16384, (M.map Fc.fi).map Dk.syn1, 0) from by unfold Dk.synR; rw [if_pos HS.out.lt.fm]] at SY
        have NN := Lib.hid SY
        clear SY
        go_wp2_with fail
        refine NN.out.mono ?_
        clear NN
        intro e w1 h
        obtain ⟨A2, c2, M2, rfl, hO, hf, b1⟩ := h.open
        clear h
        have bx := below_new (Below.refl w1.heap.size w1) (.cells #[.int .i64 16384, .slice A2 M2.length c2] 24)
        have HS1 := Lib.hid ((HS.out.later b1).later bx)
        have HO := Lib.hid (hO.later bx); have HF := Lib.hid hf
        have XB := Lib.hid (Blk.new w1 24 #[.int .i64 16384, .slice A2 M2.length c2])
        clear hO hf d0 d1 e0 e1 e2 bx
        go_upto_region 11 with (fail)
        obtain ⟨W1, hW1⟩ : ∃ W1, w1.alloc (.cells #[.int .i64 16384, .slice A2 M2.length c2] 24) = W1 := ⟨_, rfl⟩
        rw [hW1] at HS1 HO XB
        try rw [hW1]
        have x0 := XB.out.cell (i := 0) rfl
        have x1 := XB.out.cell (i := 1) rfl
        have q0 := HS1.out.d1.cell (i := 0) rfl
        have q1 := HS1.out.d1.cell (i := 1) rfl
        have qf0 := HS1.out.d1.free 0
        have qf1 := HS1.out.d1.free 1
        have FIN := Lib.hid (HS1.out.put HO.out hwlt (by rw [HF.out]; exact HS.out.lt.sync.mono (Nat.le_succ i)))
        clear hW1 HS1 HO HF XB
        go_wp2_with fail
        go_roundw
        case rel => exact ⟨i + 1, ls.length, cs, ls, A2, c2, M2, by omega, by first | rfl | go_num, by first | rfl | go_num, by omega, FIN.out⟩
        case measure => simp [intOf]; omega
      | false =>
        rw [hsy] at e1
        clear hsy
        go_upto_region 12 with (fail)
        obtain ⟨⟨rm, zs, kr⟩, hR⟩ : ∃ r, Jn.appJR 16384 (M.map Fc.fi) x.l = r := ⟨_, rfl⟩
        have HR := Lib.hid hR
        have E2 := Lib.hid e2
        have EE0 := Lib.hid e0
        have D0 := Lib.hid d0
        have D1 := Lib.hid d1
        clear hR e0 e1 e2 d0 d1
        have CL := Lib.hid (fun (w' : World) (hb : Below wr.heap.size wr w') => (show Calls Tryd.prog 10 #[.agg #[.int .i64 16384, .slice V M.length cv], .slice x.X x.l.length x.c] w' (GivesDE (rm, zs, kr) w') from by
          have := SP.out.append 16384 V x.X cv x.c M x.l w' (HS.out.later hb).own.oneD (XO.out.later hb) (HHW.out.later (below_on HS.out.low hb))
          rw [HR.out] at this
          exact this))
        refine wp_region_facts3 12 (by kernel_rfl) (by kernel_rfl)
          (fun v => { tmps := #[.slice (some ⟨b, off, none⟩) L.length c, undef, .pointer (some ⟨D, 0, none⟩), u3, u4, u5, .pointer (some ⟨D + 1, 0, none⟩), .slice RA ls.length rc, .int .i64 (sure : Int), .int .i64 (i : Int), u10, u11, v 10, u13, .agg #[.int .i64 16384, .slice none 0 0], .int .i64 (i : Int), .slice (some ⟨b, off, none⟩) L.length c, .int .i64 (L.length : Int), .bool true, u19, u20, .slice (some ⟨b, off, none⟩) L.length c, .int .i64 (i : Int), .pointer (some ⟨b, off + i * 3, none⟩), .pointer (some ⟨b, off + i * 3 + 1, none⟩), .bool false, u26, u27, u28, u29, u30, u31, u32, u33, u34, u35, u36, u37, u38, v 7, v 0, v 1, v 2, v 3, v 4, v 5, v 6, v 8, v 9, u49, u50, u51, u52, u53, u54, u55, u56, u57, u58, u59, u60, u61, u62, u63, u64, u65, u66, u67, u68, u69, u70, u71, u72, u73, u74, u75, u76, u77, u78, u79, u80, u81, u82, u83, u84, u85, u86, u87, u88, u89, u90, u91, u92, undef, undef, undef], defers := [] }) (fun i_ => match i_ with | 0 => u40 | 1 => u41 | 2 => u42 | 3 => u43 | 4 => u44 | 5 => u45 | 6 => u46 | 7 => u39 | 8 => u47 | 9 => u48 | 10 => u12 | _ => undef)
          (SaJ wr.heap.size rm kr zs (fun i_ => match i_ with | 0 => .agg #[.int .i64 16384, .slice V M.length cv] | 1 => .slice (some ⟨b, off, none⟩) L.length c | 2 => .int .i64 (i : Int) | 3 => .pointer (some ⟨b, off + i * 3, none⟩) | 4 => .pointer (some ⟨b, off + i * 3 + 2, none⟩) | 5 => .slice x.X x.l.length x.c | 9 => .int .i64 kr | _ => undef))
          (fun w1 w2 => Below wr.heap.size w1 w2) (fun h1 h2 => h1.trans h2) (fun _ => Below.refl _ _) (Below.drew (Below.refl _ _)) ?loc ?step ?done
        case loc =>
          intro i_ k v x_ wx hk hd h
          exact SaJ.loc hk (fun e h8 => by subst e; subst h8; exact hd (List.elem_iff.1 (by kernel_rfl))) h
        case step =>
          intro i_ hi_ v w' hb hd
          match i_, hi_ with
          | 0, _ =>
            refine wpOp_oneK rfl (fun KK hKK => ?_)
            have HKK := Lib.hid hKK
            clear hKK hd
            have q0 := cell_later (hb.mono (Nat.le_refl _)) D0.out
            have q1 := cell_later (hb.mono (Nat.le_refl _)) D1.out
            go_wp2
            exact HKK.out _ _ ⟨_, (by simp [upd]; done), Below.refl _ _, rfl, fun _ _ _ h => h⟩
          | 1, _ =>
            refine wpOp_oneK rfl (fun KK hKK => ?_)
            have HKK := Lib.hid hKK
            clear hKK hd
            go_wp2
            exact HKK.out _ _ ⟨_, (by simp [upd]; done), Below.refl _ _, rfl, fun _ _ _ h => h⟩
          | 2, _ =>
            refine wpOp_oneK rfl (fun KK hKK => ?_)
            have HKK := Lib.hid hKK
            clear hKK hd
            go_wp2
            exact HKK.out _ _ ⟨_, (by simp [upd]; done), Below.refl _ _, rfl, fun _ _ _ h => h⟩
          | 3, _ =>
            have h1 : v 1 = .slice (some ⟨b, off, none⟩) L.length c := hd 1 (List.elem_iff.1 (by kernel_rfl))
            have h2 : v 2 = .int .i64 (i : Int) := hd 2 (List.elem_iff.1 (by kernel_rfl))
            refine wpOp_oneK rfl (fun KK hKK => ?_)
            have HKK := Lib.hid hKK
            clear hKK hd
            rw [h1, h2]
            go_wp2
            exact HKK.out _ _ ⟨_, (by simp [upd, h1, h2]; done), Below.refl _ _, rfl, fun _ _ _ h => h⟩
          | 4, _ =>
            have h3 : v 3 = .pointer (some ⟨b, off + i * 3, none⟩) := hd 3 (List.elem_iff.1 (by kernel_rfl))
            refine wpOp_oneK rfl (fun KK hKK => ?_)
            have HKK := Lib.hid hKK
            clear hKK hd
            rw [h3]
            go_wp2
            exact HKK.out _ _ ⟨_, (by simp [upd, h3]; done), Below.refl _ _, rfl, fun _ _ _ h => h⟩
          | 5, _ =>
            have h4 : v 4 = .pointer (some ⟨b, off + i * 3 + 2, none⟩) := hd 4 (List.elem_iff.1 (by kernel_rfl))
            refine wpOp_oneK rfl (fun KK hKK => ?_)
            have HKK := Lib.hid hKK
            clear hKK hd
            rw [h4]
            have q0 := cell_later (hb.mono (Nat.le_refl _)) E2.out
            go_wp2
            exact HKK.out _ _ ⟨_, (by simp [upd, h4]; done), Below.refl _ _, rfl, fun _ _ _ h => h⟩
          | 6, _ =>
            have h0 : v 0 = .agg #[.int .i64 16384, .slice V M.length cv] := hd 0 (List.elem_iff.1 (by kernel_rfl))
            have h5 : v 5 = .slice x.X x.l.length x.c := hd 5 (List.elem_iff.1 (by kernel_rfl))
            refine wpOp_oneK rfl (fun KK hKK => ?_)
            have HKK := Lib.hid hKK
            clear hKK hd
            rw [h0, h5]
            have hsz := hb.size
            go_wp2_with fail
            refine (CL.out _ hb).mono ?_
            intro e w'' h
            obtain ⟨A2, c2, M2, rfl, hO, hf, b2⟩ := h.open
            clear h
            go_wp2
            exact HKK.out _ _ ⟨_, (by simp [upd, h0, h5]; done), b2.mono hsz, ⟨A2, c2, M2, rfl, hO.lower hsz, hf⟩, fun _ _ _ h => h.later b2⟩
          | 7, _ =>
            have g6 : ∃ A2 c2 M2, v 6 = .tuple #[.agg #[.int .i64 rm, .slice A2 (List.length M2) c2], .int .i64 kr] ∧ OwnD w' wr.heap.size 50 5 (.slice A2 M2.length c2) M2 ∧ M2.map Fc.fi = zs := hd 6 (List.elem_iff.1 (by kernel_rfl))
            obtain ⟨A6, c6, M6, h6, o6, f6⟩ := g6
            refine wpOp_oneK rfl (fun KK hKK => ?_)
            have HKK := Lib.hid hKK
            clear hKK hd
            rw [h6]
            go_wp2
            exact HKK.out _ _ ⟨_, (by simp [upd, h6]; done), Below.refl _ _, ⟨A6, c6, M6, rfl, o6, f6⟩, fun _ _ _ h => h⟩
          | 8, _ =>
            have g7 : ∃ A2 c2 M2, v 7 = .tuple #[.agg #[.int .i64 rm, .slice A2 (List.length M2) c2], .int .i64 kr] ∧ OwnD w' wr.heap.size 50 5 (.slice A2 M2.length c2) M2 ∧ M2.map Fc.fi = zs := hd 7 (List.elem_iff.1 (by kernel_rfl))
            obtain ⟨A7, c7, M7, h7, o7, f7⟩ := g7
            refine wpOp_oneK rfl (fun KK hKK => ?_)
            have HKK := Lib.hid hKK
            clear hKK hd
            rw [h7]
            go_wp2
            exact HKK.out _ _ ⟨_, (by simp [upd, h7]; done), Below.refl _ _, ⟨A7, c7, M7, rfl, o7, f7⟩, fun _ _ _ h => h⟩
          | 9, _ =>
            have g7 : ∃ A2 c2 M2, v 7 = .tuple #[.agg #[.int .i64 rm, .slice A2 (List.length M2) c2], .int .i64 kr] ∧ OwnD w' wr.heap.size 50 5 (.slice A2 M2.length c2) M2 ∧ M2.map Fc.fi = zs := hd 7 (List.elem_iff.1 (by kernel_rfl))
            obtain ⟨A7, c7, M7, h7, o7, f7⟩ := g7
            refine wpOp_oneK rfl (fun KK hKK => ?_)
            have HKK := Lib.hid hKK
            clear hKK hd
            rw [h7]
            go_wp2
            exact HKK.out _ _ ⟨_, (by simp [upd, h7]; done), Below.refl _ _, rfl, fun _ _ _ h => h⟩
          | 10, _ =>
            refine wpOp_oneK rfl (fun KK hKK => ?_)
            have HKK := Lib.hid hKK
            clear hKK hd
            have hbn := below_new (Below.refl w'.heap.size w') (.cells #[.int .i64 0, .slice none 0 0] 24)
            have KK2 := Lib.hid (Blk.new w' 24 #[.int .i64 0, .slice none 0 0])
            have hsz := hb.size
            go_wp2
            exact HKK.out _ _ ⟨_, (by simp [upd]; done), hbn.mono hsz, ⟨w'.heap.size, _, _, rfl, hsz, KK2.out⟩, fun _ _ _ h => h.later hbn⟩
          | 11, _ =>
            have g8 : ∃ A2 c2 M2, v 8 = .agg #[.int .i64 rm, .slice A2 (List.length M2) c2] ∧ OwnD w' wr.heap.size 50 5 (.slice A2 M2.length c2) M2 ∧ M2.map Fc.fi = zs := hd 8 (List.elem_iff.1 (by kernel_rfl))
            obtain ⟨A8, c8, M8, h8, o8, f8⟩ := g8
            have g10 : ∃ g u0 u1, v 10 = .pointer (some ⟨g, 0, none⟩) ∧ wr.heap.size ≤ g ∧ Blk w' g 24 #[u0, u1] := hd 10 (List.elem_iff.1 (by kernel_rfl))
            obtain ⟨g, y0, y1, h10, l10, B10⟩ := g10
            refine wpOp_oneK rfl (fun KK hKK => ?_)
            have HKK := Lib.hid hKK
            clear hKK hd
            rw [h8, h10]
            have z0 := B10.cell (i := 0) rfl
            have z1 := B10.cell (i := 1) rfl
            have zf0 := B10.free 0
            have zf1 := B10.free 1
            have BB := Lib.hid B10
            have OO := Lib.hid o8
            have FF := Lib.hid f8
            clear B10 o8 f8
            go_wp2
            exact HKK.out _ _ ⟨undef, (by simp [upd, h8, h10]; done), ((Below.refl _ _).setCell l10 _).setCell l10 _, ⟨g, A8, c8, M8, h10, l10, (BB.out.put 0 _).put 1 _, OO.out.aside BB.out (by decide) (by decide) (fun b hb => (Below.heap_setCell _ _ _ _ hb).trans (Below.heap_setCell _ _ _ _ hb)), FF.out⟩, fun _ _ hj h => SaJ.stored BB.out hj h⟩
          | k + 12, hk => exact absurd hk (by omega)
        case done =>
          intro vv w' hb2 hf
          have h9 : vv 9 = .int .i64 kr := hf 9 (by omega)
          have g11 : ∃ g A2 c2 M2, vv 10 = .pointer (some ⟨g, 0, none⟩) ∧ wr.heap.size ≤ g ∧ Blk w' g 24 #[.int .i64 rm, .slice A2 (List.length M2) c2] ∧ OwnD w' wr.heap.size 50 5 (.slice A2 M2.length c2) M2 ∧ M2.map Fc.fi = zs := hf 11 (by omega)
          obtain ⟨g, A2, c2, M2, h10, l10, B10, o8, f8⟩ := g11
          clear hf
          simp only [List.drop_succ_cons, List.drop_zero]
          rw [h9, h10]
          clear h9 h10
          have HS2 := Lib.hid (HS.out.later hb2)
          have HBW := Lib.hid hb2
          have HO := Lib.hid o8
          have HF := Lib.hid f8
          have HG := Lib.hid B10
          have HLG := Lib.hid l10
          have hwl := HS2.out.low
          have r0 := (EVER.out w' hwl).1
          have q0 := HS2.out.d1.cell (i := 0) rfl
          have q1 := HS2.out.d1.cell (i := 1) rfl
          clear o8 f8 B10 hb2 CL hwl
          cases hst : x.start with
          | false =>
            rw [hst] at r0
            clear hst
            have HSW := Lib.hid (HS.out.later HBW.out)
            have HUL := Lib.hid (fun d os => Lib.hid (Calls.regrown_of (dused_any 16384 V cv M (Sort.grow (redrawn w' d) os) (HSW.out.own.oneD.later (below_regrown w' d os)))))
            obtain ⟨u, hu⟩ : ∃ u, Dk.usd 16384 (M.map Fc.fi) = u := ⟨_, rfl⟩
            have hu2 : u = Dk.used (M.map Fc.fi) := by rw [← hu, Dk.usd_yes HS.out.lt.fm]
            have hu3 : 0 ≤ u ∧ u ≤ 16384 := by rw [hu2]; exact ⟨Dk.used_nonneg _, (Dk.fmd_facts HS.out.lt.fm).use⟩
            have UL2 := HUL.out
            rw [hu] at UL2
            have r2 := (EVER.out w' HSW.out.low).2.1
            have t0 := HSW.out.d1.cell (i := 0) rfl
            have t1 := HSW.out.d1.cell (i := 1) rfl
            have k0 := fun d os => cell_regrown (d := d) (os := os) t0
            have k1 := fun d os => cell_regrown (d := d) (os := os) t1
            have k2 := fun d os => cell_regrown (d := d) (os := os) r2
            rcases HS.out.lt.app (p := x.l) (by omega) (by omega) XO.out.byte with ⟨hs, hsp⟩ | ⟨zz, hs, hlt2⟩
            · have e := HR.out.symm.trans hs
              injection e with e1 e
              injection e with e2 e3
              subst e1 e2 e3
              have hle : decide (16384 - u < (x.l.length : Int) + 8) = true := decide_eq_true (by omega)
              clear hu hu2 HUL t0 t1 r2 hs hsp
              go_upto_region 15 with (fail)
              refine wp_region_quiet_below (by kernel_rfl) (by kernel_rfl) ?_
              repeat (first | go_big_quiet_step (with_reducible exact (UL2 _ _).out) | quiet_step (with_reducible exact (UL2 _ _).out))
              refine wpQuiet_nil ?_
              intro _ hw'
              obtain ⟨⟨dq, osq⟩, hw''⟩ := hw'
              subst hw''
              have HS3 := Lib.hid ((HSW.out.later (below_regrown w' dq osq)).mono)
              clear k0 k1 k2 UL2
              go_wp2_with fail
              go_roundw
              case rel => exact ⟨i + 1, sure, cs, ls, V, cv, M, by omega, by first | rfl | go_num, by first | rfl | go_num, by omega, HS3.out⟩
              case measure => simp [intOf]; omega
            · have e := HR.out.symm.trans hs
              injection e with e1 e
              injection e with e2 e3
              have e1 := e1.symm; have e2 := e2.symm; have e3 := e3.symm
              subst e1 e2 e3
              have HLT2 := Lib.hid hlt2
              clear hu hu2 HUL t0 t1 r2 hs hlt2
              go_upto_region 15 with (fail)
              refine wp_region_quiet_below (by kernel_rfl) (by kernel_rfl) ?_
              repeat (first | go_big_quiet_step (with_reducible exact (UL2 _ _).out) | quiet_step (with_reducible exact (UL2 _ _).out))
              refine wpQuiet_nil ?_
              intro _ hw'
              obtain ⟨⟨dq, osq⟩, hw''⟩ := hw'
              subst hw''
              have bq := below_regrown w' dq osq
              have HS3 := Lib.hid (HSW.out.later bq)
              have HO3 := Lib.hid (HO.out.later bq)
              have HG3 := Lib.hid (HG.out.later bq)
              clear k0 k1 k2 UL2 bq
              obtain ⟨W3, hW3⟩ : ∃ W3, Sort.grow (redrawn w' dq) osq = W3 := ⟨_, rfl⟩
              rw [hW3] at HS3 HO3 HG3
              go_upto_region 18 with (fail)
              try rw [hW3]
              clear hW3
              have q0 := HS3.out.d1.cell (i := 0) rfl
              have q1 := HS3.out.d1.cell (i := 1) rfl
              have qf0 := HS3.out.d1.free 0
              have qf1 := HS3.out.d1.free 1
              have g0 := HG3.out.cell (i := 0) rfl
              have g1 := HG3.out.cell (i := 1) rfl
              have HR3 := Lib.hid (HS3.out.toR.put HO3.out hwlt)
              go_upto_region 19 with (fail)
              obtain ⟨W4, hW4⟩ : ∃ W4, (W3.setCell ⟨D + 1, 0, none⟩ (.int .i64 16384)).setCell ⟨D + 1, 1, none⟩ (.slice A2 M2.length c2) = W4 := ⟨_, rfl⟩
              rw [hW4] at HR3 ⊢
              clear hW4 q0 q1 qf0 qf1 g0 g1 HS3 HO3 HG3
              have r2 := (EVER.out W4 HR3.out.low).2.1
              have bs := below_new (Below.refl W4.heap.size W4) (.cells #[.slice x.X x.l.length x.c] 25)
              have HR4 := Lib.hid (HR3.out.later bs)
              have NB := Lib.hid (Blk.new W4 25 #[.slice x.X x.l.length x.c])
              have hown := HR4.out.row
              have hlz := HS.out.lt
              have hsz4 : D + 2 ≤ W4.heap.size := by have := HR3.out.d1.lt; omega
              have hy : Lies (W4.alloc (.cells #[.slice x.X x.l.length x.c] 25)) (some ⟨W4.heap.size, 0, none⟩) [.slice x.X x.l.length x.c] := fun _ => ⟨W4.heap.size, 0, rfl, fun j u hu => by
                rw [Nat.zero_add]
                exact NB.out.cell (by simpa using hu)⟩
              have HN := Lib.hid (show ls.length ≤ 140737488355328 / 24 - 2 from by omega)
              clear bs hlz
              go_wp2_with (at_builtin; refine wpList_append_lies _ rfl _ _ 35 rfl (D + 2) 25 j0 (.slice none 0 0) 1 24 Tryd.underlying35 hJ hj0 hj1 hj2 rfl (by decide) _ ls.length (sliCells cs ls) rfl hown (some ⟨W4.heap.size, 0, none⟩) 1 1 (fun h => by cases h) [.slice x.X x.l.length x.c] rfl rfl hy (by intro u hu; rw [List.mem_singleton] at hu; subst hu; rfl) ?d3 ?d4 ?d5 ?_)
              case d3 => have := HN.out; unfold maxLen; omega
              case d4 => have := HN.out; omega
              case d5 => first | exact hsz4 | omega
              intro v2 w6 ho6 hg6 _
              have NX := Lib.hid (HR4.out.snoc XO0.out hg6 ho6 (i := i + 1) (sure := sure) (by rw [HF.out]; exact HLT2.out))
              clear ho6 hg6 hy hown
              go_wp2_with fail
              go_roundw
              case rel => exact ⟨i + 1, sure, _, _, A2, c2, M2, by omega, by first | rfl | go_num, by first | rfl | go_num, by rw [List.length_append, List.length_singleton]; omega, NX.out⟩
              case measure => simp [intOf]; omega
          | true =>
            rw [hst] at r0
            clear hst
            obtain ⟨⟨rm2, zs2, kr2⟩, hR2⟩ : ∃ r, Jn.startR 16384 (M.map Fc.fi) x.l = r := ⟨_, rfl⟩
            have HRS := Lib.hid hR2
            have D0W := Lib.hid (fun (w'' : World) (hb : Below wr.heap.size wr w'') => (HS.out.later hb).d1.cell (i := 0) rfl)
            have D1W := Lib.hid (fun (w'' : World) (hb : Below wr.heap.size wr w'') => (HS.out.later hb).d1.cell (i := 1) rfl)
            have E2W := Lib.hid (fun (w'' : World) (hb : Below wr.heap.size wr w'') => (EVER.out w'' (HS.out.later hb).low).2.1)
            clear hR2 q0 q1
            have CL := Lib.hid (fun (w'' : World) (hb : Below wr.heap.size wr w'') => (show Calls Tryd.prog 15 #[.agg #[.int .i64 16384, .slice V M.length cv], .slice x.X x.l.length x.c] w'' (GivesDE (rm2, zs2, kr2) w'') from by
              have := SP.out.start 16384 V x.X cv x.c M x.l w'' (HS.out.later hb).own.oneD (XO.out.later hb) (HHW.out.later (below_on HS.out.low hb))
              rw [HRS.out] at this
              exact this))
            have HBG := Lib.hid (show ∃ u0 u1, Blk w' g 24 #[u0, u1] from ⟨_, _, HG.out⟩)
            go_upto_region 14 with (fail)
            refine wp_region_facts3 11 (by kernel_rfl) (by kernel_rfl)
              (fun v => { tmps := #[.slice (some ⟨b, off, none⟩) L.length c, undef, .pointer (some ⟨D, 0, none⟩), u3, u4, u5, .pointer (some ⟨D + 1, 0, none⟩), .slice RA ls.length rc, .int .i64 (sure : Int), .int .i64 (i : Int), u10, u11, .pointer (some ⟨g, 0, none⟩), .int .i64 kr, .agg #[.int .i64 16384, .slice none 0 0], .int .i64 (i : Int), .slice (some ⟨b, off, none⟩) L.length c, .int .i64 (L.length : Int), .bool true, u19, u20, .slice (some ⟨b, off, none⟩) L.length c, .int .i64 (i : Int), .pointer (some ⟨b, off + i * 3, none⟩), .pointer (some ⟨b, off + i * 3 + 1, none⟩), .bool false, u26, u27, u28, u29, u30, u31, u32, u33, u34, u35, u36, u37, u38, vv 7, vv 0, vv 1, vv 2, vv 3, vv 4, vv 5, vv 6, vv 8, .int .i64 kr, .slice (some ⟨b, off, none⟩) L.length c, .int .i64 (i : Int), .pointer (some ⟨b, off + i * 3, none⟩), .pointer (some ⟨b, off + i * 3, none⟩), .bool true, v 7, v 0, v 1, v 2, v 3, v 4, v 5, v 6, v 8, v 9, u64, u65, u66, u67, u68, u69, u70, u71, u72, u73, u74, u75, u76, u77, u78, u79, u80, u81, u82, u83, u84, u85, u86, u87, u88, u89, u90, u91, u92, undef, undef, undef], defers := [] }) (fun i_ => match i_ with | 0 => u55 | 1 => u56 | 2 => u57 | 3 => u58 | 4 => u59 | 5 => u60 | 6 => u61 | 7 => u54 | 8 => u62 | 9 => u63 | _ => undef)
              (SaK g wr.heap.size rm2 kr2 zs2 (fun i_ => match i_ with | 0 => .agg #[.int .i64 16384, .slice V M.length cv] | 1 => .slice (some ⟨b, off, none⟩) L.length c | 2 => .int .i64 (i : Int) | 3 => .pointer (some ⟨b, off + i * 3, none⟩) | 4 => .pointer (some ⟨b, off + i * 3 + 2, none⟩) | 5 => .slice x.X x.l.length x.c | 9 => .int .i64 kr2 | _ => undef))
              (RelG wr.heap.size g) (fun h1 h2 => h1.trans h2) (fun _ => RelG.refl _ _ _) (RelG.drew _ _ _) ?loc2 ?step2 ?done2
            case loc2 =>
              intro i_ k v x_ wx hk _ h
              exact SaK.loc hk h
            case step2 =>
              intro i_ hi_ v w'' hb0 hd
              have hb := HBW.out.trans hb0.low
              match i_, hi_ with
              | 0, _ =>
                refine wpOp_oneK rfl (fun KK hKK => ?_)
                have HKK := Lib.hid hKK
                clear hKK hd
                have q0 := D0W.out w'' hb
                have q1 := D1W.out w'' hb
                go_wp2
                exact HKK.out _ _ ⟨_, (by simp [upd]; done), RelG.refl _ _ _, rfl, fun _ _ _ h => h⟩
              | 1, _ =>
                refine wpOp_oneK rfl (fun KK hKK => ?_)
                have HKK := Lib.hid hKK
                clear hKK hd
                go_wp2
                exact HKK.out _ _ ⟨_, (by simp [upd]; done), RelG.refl _ _ _, rfl, fun _ _ _ h => h⟩
              | 2, _ =>
                refine wpOp_oneK rfl (fun KK hKK => ?_)
                have HKK := Lib.hid hKK
                clear hKK hd
                go_wp2
                exact HKK.out _ _ ⟨_, (by simp [upd]; done), RelG.refl _ _ _, rfl, fun _ _ _ h => h⟩
              | 3, _ =>
                have h1 : v 1 = .slice (some ⟨b, off, none⟩) L.length c := hd 1 (List.elem_iff.1 (by kernel_rfl))
                have h2 : v 2 = .int .i64 (i : Int) := hd 2 (List.elem_iff.1 (by kernel_rfl))
                refine wpOp_oneK rfl (fun KK hKK => ?_)
                have HKK := Lib.hid hKK
                clear hKK hd
                rw [h1, h2]
                go_wp2
                exact HKK.out _ _ ⟨_, (by simp [upd, h1, h2]; done), RelG.refl _ _ _, rfl, fun _ _ _ h => h⟩
              | 4, _ =>
                have h3 : v 3 = .pointer (some ⟨b, off + i * 3, none⟩) := hd 3 (List.elem_iff.1 (by kernel_rfl))
                refine wpOp_oneK rfl (fun KK hKK => ?_)
                have HKK := Lib.hid hKK
                clear hKK hd
                rw [h3]
                go_wp2
                exact HKK.out _ _ ⟨_, (by simp [upd, h3]; done), RelG.refl _ _ _, rfl, fun _ _ _ h => h⟩
              | 5, _ =>
                have h4 : v 4 = .pointer (some ⟨b, off + i * 3 + 2, none⟩) := hd 4 (List.elem_iff.1 (by kernel_rfl))
                refine wpOp_oneK rfl (fun KK hKK => ?_)
                have HKK := Lib.hid hKK
                clear hKK hd
                rw [h4]
                have q0 := E2W.out w'' hb
                go_wp2
                exact HKK.out _ _ ⟨_, (by simp [upd, h4]; done), RelG.refl _ _ _, rfl, fun _ _ _ h => h⟩
              | 6, _ =>
                have h0 : v 0 = .agg #[.int .i64 16384, .slice V M.length cv] := hd 0 (List.elem_iff.1 (by kernel_rfl))
                have h5 : v 5 = .slice x.X x.l.length x.c := hd 5 (List.elem_iff.1 (by kernel_rfl))
                refine wpOp_oneK rfl (fun KK hKK => ?_)
                have HKK := Lib.hid hKK
                clear hKK hd
                rw [h0, h5]
                have hsz := hb.size
                go_wp2_with fail
                refine (CL.out _ hb).mono ?_
                intro e w3 h
                obtain ⟨A3, c3, M3, rfl, hO, hf, b2⟩ := h.open
                clear h
                go_wp2
                exact HKK.out _ _ ⟨_, (by simp [upd, h0, h5]; done), RelG.later hsz b2, ⟨A3, c3, M3, rfl, hO.lower hsz, hf⟩, fun _ _ _ h => h.later b2⟩
              | 7, _ =>
                have g6 : ∃ A2 c2 M2, v 6 = .tuple #[.agg #[.int .i64 rm2, .slice A2 (List.length M2) c2], .int .i64 kr2] ∧ OwnD w'' wr.heap.size 50 5 (.slice A2 M2.length c2) M2 ∧ M2.map Fc.fi = zs2 := hd 6 (List.elem_iff.1 (by kernel_rfl))
                obtain ⟨A6, c6, M6, h6, o6, f6⟩ := g6
                refine wpOp_oneK rfl (fun KK hKK => ?_)
                have HKK := Lib.hid hKK
                clear hKK hd
                rw [h6]
                go_wp2
                exact HKK.out _ _ ⟨_, (by simp [upd, h6]; done), RelG.refl _ _ _, ⟨A6, c6, M6, rfl, o6, f6⟩, fun _ _ _ h => h⟩
              | 8, _ =>
                have g7 : ∃ A2 c2 M2, v 7 = .tuple #[.agg #[.int .i64 rm2, .slice A2 (List.length M2) c2], .int .i64 kr2] ∧ OwnD w'' wr.heap.size 50 5 (.slice A2 M2.length c2) M2 ∧ M2.map Fc.fi = zs2 := hd 7 (List.elem_iff.1 (by kernel_rfl))
                obtain ⟨A7, c7, M7, h7, o7, f7⟩ := g7
                refine wpOp_oneK rfl (fun KK hKK => ?_)
                have HKK := Lib.hid hKK
                clear hKK hd
                rw [h7]
                go_wp2
                exact HKK.out _ _ ⟨_, (by simp [upd, h7]; done), RelG.refl _ _ _, ⟨A7, c7, M7, rfl, o7, f7⟩, fun _ _ _ h => h⟩
              | 9, _ =>
                have g7 : ∃ A2 c2 M2, v 7 = .tuple #[.agg #[.int .i64 rm2, .slice A2 (List.length M2) c2], .int .i64 kr2] ∧ OwnD w'' wr.heap.size 50 5 (.slice A2 M2.length c2) M2 ∧ M2.map Fc.fi = zs2 := hd 7 (List.elem_iff.1 (by kernel_rfl))
                obtain ⟨A7, c7, M7, h7, o7, f7⟩ := g7
                refine wpOp_oneK rfl (fun KK hKK => ?_)
                have HKK := Lib.hid hKK
                clear hKK hd
                rw [h7]
                go_wp2
                exact HKK.out _ _ ⟨_, (by simp [upd, h7]; done), RelG.refl _ _ _, rfl, fun _ _ _ h => h⟩
              | 10, _ =>
                have g8 : ∃ A2 c2 M2, v 8 = .agg #[.int .i64 rm2, .slice A2 (List.length M2) c2] ∧ OwnD w'' wr.heap.size 50 5 (.slice A2 M2.length c2) M2 ∧ M2.map Fc.fi = zs2 := hd 8 (List.elem_iff.1 (by kernel_rfl))
                obtain ⟨A8, c8, M8, h8, o8, f8⟩ := g8
                refine wpOp_oneK rfl (fun KK hKK => ?_)
                have HKK := Lib.hid hKK
                clear hKK hd
                rw [h8]
                obtain ⟨y0, y1, B10⟩ := hb0.box HBG.out
                have z0 := B10.cell (i := 0) rfl
                have z1 := B10.cell (i := 1) rfl
                have zf0 := B10.free 0
                have zf1 := B10.free 1
                have BB := Lib.hid B10
                have OO := Lib.hid o8
                have FF := Lib.hid f8
                clear B10 o8 f8
                go_wp2
                exact HKK.out _ _ ⟨undef, (by simp [upd, h8]; done), ⟨((Below.refl _ _).setCell HLG.out _).setCell HLG.out _, fun _ => ⟨_, _, (BB.out.put 0 _).put 1 _⟩⟩, ⟨A8, c8, M8, (BB.out.put 0 _).put 1 _, OO.out.aside BB.out (by decide) (by decide) (fun b hb => (Below.heap_setCell _ _ _ _ hb).trans (Below.heap_setCell _ _ _ _ hb)), FF.out⟩, fun _ _ hj h => SaK.stored BB.out hj h⟩
              | k + 11, hk => exact absurd hk (by omega)
            case done2 =>
              intro v w'' hb0 hf
              have h9 : v 9 = .int .i64 kr2 := hf 9 (by omega)
              have g10 : ∃ A2 c2 M2, Blk w'' g 24 #[.int .i64 rm2, .slice A2 (List.length M2) c2] ∧ OwnD w'' wr.heap.size 50 5 (.slice A2 M2.length c2) M2 ∧ M2.map Fc.fi = zs2 := hf 10 (by omega)
              obtain ⟨A3, c3, M3, B10, o8, f8⟩ := g10
              clear hf
              simp only [List.drop_succ_cons, List.drop_zero]
              rw [h9]
              clear h9
              have HBW2 := Lib.hid (HBW.out.trans hb0.low)
              have HO2 := Lib.hid o8
              have HF2 := Lib.hid f8
              have HG2 := Lib.hid B10
              clear o8 f8 B10 hb0 CL HS2 HO HF HG HBG D0W D1W E2W
              have HSW := Lib.hid (HS.out.later HBW2.out)
              have HUL := Lib.hid (fun d os => Lib.hid (Calls.regrown_of (dused_any 16384 V cv M (Sort.grow (redrawn w'' d) os) (HSW.out.own.oneD.later (below_regrown w'' d os)))))
              obtain ⟨u, hu⟩ : ∃ u, Dk.usd 16384 (M.map Fc.fi) = u := ⟨_, rfl⟩
              have hu2 : u = Dk.used (M.map Fc.fi) := by rw [← hu, Dk.usd_yes HS.out.lt.fm]
              have hu3 : 0 ≤ u ∧ u ≤ 16384 := by rw [hu2]; exact ⟨Dk.used_nonneg _, (Dk.fmd_facts HS.out.lt.fm).use⟩
              have UL2 := HUL.out
              rw [hu] at UL2
              have r2 := (EVER.out w'' HSW.out.low).2.1
              have t0 := HSW.out.d1.cell (i := 0) rfl
              have t1 := HSW.out.d1.cell (i := 1) rfl
              have k0 := fun d os => cell_regrown (d := d) (os := os) t0
              have k1 := fun d os => cell_regrown (d := d) (os := os) t1
              have k2 := fun d os => cell_regrown (d := d) (os := os) r2
              rcases HS.out.lt.fresh (p := x.l) (by omega) (by omega) XO.out.byte with ⟨hs, hsp⟩ | ⟨zz, hs, hlt2⟩
              · have e := HRS.out.symm.trans hs
                injection e with e1 e
                injection e with e2 e3
                subst e1 e2 e3
                have hle : decide (16384 - u < (x.l.length : Int) + 8) = true := decide_eq_true (by omega)
                clear hu hu2 HUL t0 t1 r2 hs hsp
                go_upto_region 15 with (fail)
                refine wp_region_quiet_below (by kernel_rfl) (by kernel_rfl) ?_
                repeat (first | go_big_quiet_step (with_reducible exact (UL2 _ _).out) | quiet_step (with_reducible exact (UL2 _ _).out))
                refine wpQuiet_nil ?_
                intro _ hw'
                obtain ⟨⟨dq, osq⟩, hw''⟩ := hw'
                subst hw''
                have HS3 := Lib.hid ((HSW.out.later (below_regrown w'' dq osq)).mono)
                clear k0 k1 k2 UL2
                go_wp2_with fail
                go_roundw
                case rel => exact ⟨i + 1, sure, cs, ls, V, cv, M, by omega, by first | rfl | go_num, by first | rfl | go_num, by omega, HS3.out⟩
                case measure => simp [intOf]; omega
              · have e := HRS.out.symm.trans hs
                injection e with e1 e
                injection e with e2 e3
                have e1 := e1.symm; have e2 := e2.symm; have e3 := e3.symm
                subst e1 e2 e3
                have HLT2 := Lib.hid hlt2
                clear hu hu2 HUL t0 t1 r2 hs hlt2
                go_upto_region 15 with (fail)
                refine wp_region_quiet_below (by kernel_rfl) (by kernel_rfl) ?_
                repeat (first | go_big_quiet_step (with_reducible exact (UL2 _ _).out) | quiet_step (with_reducible exact (UL2 _ _).out))
                refine wpQuiet_nil ?_
                intro _ hw'
                obtain ⟨⟨dq, osq⟩, hw''⟩ := hw'
                subst hw''
                have bq := below_regrown w'' dq osq
                have HS3 := Lib.hid (HSW.out.later bq)
                have HO3 := Lib.hid (HO2.out.later bq)
                have HG3 := Lib.hid (HG2.out.later bq)
                clear k0 k1 k2 UL2 bq
                obtain ⟨W3, hW3⟩ : ∃ W3, Sort.grow (redrawn w'' dq) osq = W3 := ⟨_, rfl⟩
                rw [hW3] at HS3 HO3 HG3
                go_upto_region 18 with (fail)
                try rw [hW3]
                clear hW3
                have q0 := HS3.out.d1.cell (i := 0) rfl
                have q1 := HS3.out.d1.cell (i := 1) rfl
                have qf0 := HS3.out.d1.free 0
                have qf1 := HS3.out.d1.free 1
                have g0 := HG3.out.cell (i := 0) rfl
                have g1 := HG3.out.cell (i := 1) rfl
                have HR3 := Lib.hid (HS3.out.toR.put HO3.out hwlt)
                go_upto_region 19 with (fail)
                obtain ⟨W4, hW4⟩ : ∃ W4, (W3.setCell ⟨D + 1, 0, none⟩ (.int .i64 16384)).setCell ⟨D + 1, 1, none⟩ (.slice A3 M3.length c3) = W4 := ⟨_, rfl⟩
                rw [hW4] at HR3 ⊢
                clear hW4 q0 q1 qf0 qf1 g0 g1 HS3 HO3 HG3
                have r2 := (EVER.out W4 HR3.out.low).2.1
                have bs := below_new (Below.refl W4.heap.size W4) (.cells #[.slice x.X x.l.length x.c] 25)
                have HR4 := Lib.hid (HR3.out.later bs)
                have NB := Lib.hid (Blk.new W4 25 #[.slice x.X x.l.length x.c])
                have hown := HR4.out.row
                have hlz := HS.out.lt
                have hsz4 : D + 2 ≤ W4.heap.size := by have := HR3.out.d1.lt; omega
                have hy : Lies (W4.alloc (.cells #[.slice x.X x.l.length x.c] 25)) (some ⟨W4.heap.size, 0, none⟩) [.slice x.X x.l.length x.c] := fun _ => ⟨W4.heap.size, 0, rfl, fun j u hu => by
                  rw [Nat.zero_add]
                  exact NB.out.cell (by simpa using hu)⟩
                have HN := Lib.hid (show ls.length ≤ 140737488355328 / 24 - 2 from by omega)
                clear bs hlz
                go_wp2_with (at_builtin; refine wpList_append_lies _ rfl _ _ 35 rfl (D + 2) 25 j0 (.slice none 0 0) 1 24 Tryd.underlying35 hJ hj0 hj1 hj2 rfl (by decide) _ ls.length (sliCells cs ls) rfl hown (some ⟨W4.heap.size, 0, none⟩) 1 1 (fun h => by cases h) [.slice x.X x.l.length x.c] rfl rfl hy (by intro u hu; rw [List.mem_singleton] at hu; subst hu; rfl) ?d3 ?d4 ?d5 ?_)
                case d3 => have := HN.out; unfold maxLen; omega
                case d4 => have := HN.out; omega
                case d5 => first | exact hsz4 | omega
                intro v2 w6 ho6 hg6 _
                have NX := Lib.hid (HR4.out.snoc XO0.out hg6 ho6 (i := i + 1) (sure := sure) (by rw [HF2.out]; exact HLT2.out))
                clear ho6 hg6 hy hown
                go_wp2_with fail
                go_roundw
                case rel => exact ⟨i + 1, sure, _, _, A3, c3, M3, by omega, by first | rfl | go_num, by first | rfl | go_num, by rw [List.length_append, List.length_singleton]; omega, NX.out⟩
                case measure => simp [intOf]; omega
    · have hdd : decide ((i : Int) < (L.length : Int)) = false := decide_eq_false (by omega)
      have hiL : L.length = i := by omega
      have q0 := hS.d1.cell (i := 0) rfl
      have q1 := hS.d1.cell (i := 1) rfl
      have y0 := hS.d0.cell (i := 0) rfl
      have y1 := hS.d0.cell (i := 1) rfl
      have yf0 := hS.d0.free 0
      have yf1 := hS.d0.free 1
      have hz := (hS.d0.put 0 (.int .i64 16384)).put 1 (.slice V M.length cv)
      have Z0 := Lib.hid (hz.cell (i := 0) rfl)
      have Z1 := Lib.hid (hz.cell (i := 1) rfl)
      obtain ⟨p1, ⟨RA2, rc2, p2, p3⟩, p4⟩ := hS.toR.fin (.int .i64 16384) (.slice V M.length cv)
      injection p2 with p5 _ p6
      subst p5 p6
      have FIN := Lib.hid (show GivesWr L.length w (.returned (.tuple #[.agg #[.int .i64 16384, .slice V M.length cv], .slice RA ls.length rc, .int .i64 (sure : Int), .bool true])) _ from ⟨V, cv, M, RA, rc, ls, sure, rfl, p1, p3, by rw [hiL]; exact hS.lt, p4⟩)
      clear hz hS HS p1 p3 p4 hiL
      go_wp2
      have z0 := Z0.out
      have z1 := Z1.out
      exact bodyPost_ret (v := .tuple #[.agg #[.int .i64 16384, .slice V M.length cv], .slice RA ls.length rc, .int .i64 (sure : Int), .bool true]) (by simp [results, Tryd.results22, go_sem, z0, z1]) rfl FIN.out
end Go.Proofs.YtkhggofcbdcliaaDoor
namespace Go.Proofs.YtkhggofcbdcliaaDoor
open Go.RowKit

set_option maxRecDepth 100000 in
set_option maxHeartbeats 6400000 in
theorem lawJournalLasts_any (JS : JournalSpec) (A : Option Addr) (c : Nat) (L : List Dj) (keep turn : Int) (w : World) (h : OneDj w A c L) (hk : 0 ≤ keep ∧ keep ≤ 65535) (ht : 0 ≤ turn ∧ turn ≤ 255) (hH : Halves w) :
    Calls Tryd.prog 6 #[.slice A L.length c, .int .u16 keep, .int .u8 turn] w (Says (.bool true) w) := by
  have HD0 := Lib.hid h
  have hll := h.le
  have hcm := h.cap
  unfold maxLen at hcm
  have SP := Lib.hid JS
  have HHW := Lib.hid hH
  have hk0 := hk.1
  have hk1 := hk.2
  have ht0 := ht.1
  have ht1 := ht.2
  clear h hH JS
  go_enter Tryd.func6, Tryd.ntmps6
  have NN := Lib.hid (jalive_any SP.out w HHW.out)
  go_wp2_with fail
  refine NN.out.mono ?_
  clear NN
  rintro e x1 ⟨rfl, bz⟩
  have BB1 := Lib.hid bz
  clear bz
  by_cases h60 : 60 < L.length
  · have d60 : decide (60 < L.length) = true := decide_eq_true h60
    have d60' : decide ((60 : Int) < (L.length : Int)) = true := decide_eq_true (by omega)
    go_wp2
    go_ret
    exact ⟨rfl, BB1.out⟩
  · have d60 : decide (60 < L.length) = false := decide_eq_false h60
    have d60' : decide ((60 : Int) < (L.length : Int)) = false := decide_eq_false (by omega)
    go_wp2_with fail
    clear d60 d60'
    go_loopw [7] (fun s7 wr => ∃ i : Nat, i ≤ L.length ∧ s7 = .int .i64 (i : Int) ∧ (∀ j, j < i → ∀ f, L[j]? = some f → f.l.length ≤ 16384) ∧ Below w.heap.size w wr) (fun s7 _ => L.length - (intOf s7).toNat)
    case atStart => exact ⟨0, Nat.zero_le _, rfl, (fun j hj => by omega), BB1.out⟩
    case round =>
      obtain ⟨i, hi, rfl, hall, hbw⟩ := hrel
      have HALL := Lib.hid hall
      have HBW := Lib.hid hbw
      clear hall
      by_cases hil : i < L.length
      · have hne : L ≠ [] := fun e => by subst e; simp at hil
        obtain ⟨b, off, hA, hc⟩ := HD0.out.at hne
        obtain ⟨x, hx⟩ : ∃ x, L[i]? = some x := ⟨L[i], List.getElem?_eq_getElem hil⟩
        obtain ⟨u0, u1, u2⟩ := hc i x hx
        have e2 := cell_later hbw u2
        have hxc := (HD0.out.each x (List.mem_of_getElem? hx)).len
        subst hA
        have HX := Lib.hid hx
        have hi0 : (0 : Int) ≤ (i : Int) := by omega
        have hi1 : (i : Int) < (L.length : Int) := by omega
        clear hc hne hx u0 u1 u2 hbw
        by_cases hlong : 16384 < x.l.length
        · have d1 : decide ((16384 : Int) < (x.l.length : Int)) = true := decide_eq_true (by omega)
          go_wp2
          go_ret
          exact ⟨rfl, HBW.out⟩
        · have d1 : decide ((16384 : Int) < (x.l.length : Int)) = false := decide_eq_false (by omega)
          go_wp2_with fail
          go_roundw
          case rel =>
            refine ⟨i + 1, by omega, by first | rfl | go_num, fun j hj f hf => ?_, HBW.out⟩
            by_cases e : j = i
            · subst e
              rw [HX.out] at hf
              injection hf with hf
              subst hf
              omega
            · exact HALL.out j (by omega) f hf
          case measure => simp [intOf]; omega
      · have hd : decide ((i : Int) < (L.length : Int)) = false := decide_eq_false (by omega)
        have hdata : ∀ f ∈ L, f.l.length ≤ 16384 := fun f hf => by
          obtain ⟨j, hj⟩ := List.getElem?_of_mem hf
          exact HALL.out j (by have := (List.getElem?_eq_some_iff.1 hj).1; omega) f hj
        have n := written_any SP.out A c L _ (HD0.out.later hbw) (by omega) hdata (HHW.out.later hbw)
        have NN := Lib.hid n
        clear n hdata hbw
        go_wp2_with fail
        refine NN.out.mono ?_
        clear NN
        rintro e x2 ⟨A2, c2, M2, V2, v2, ls, sure, rfl, hO, hV, hlt, b⟩
        obtain ⟨fs', hcr, kk, dd, hsc, hsk, hkl⟩ := hlt.crash hk0 ht
        obtain ⟨lt, hlt2⟩ : ∃ lt, ls.take kk = lt := ⟨_, rfl⟩
        have hln : lt.length = kk := by rw [← hlt2, List.length_take]; omega
        rw [hlt2] at hsc
        have HCR := Lib.hid hcr
        have HSC := Lib.hid hsc
        have HLT := Lib.hid hlt2
        have HLN := Lib.hid hln
        have HVN := Lib.hid hV.noA
        have hvl := hV.le
        have hvm := hV.cap
        unfold maxLen at hvm
        have hV0 := Lib.hid (HHW.out.later (below_on HBW.out b))
        have BBX := Lib.hid (below_on HBW.out b)
        have bx := below_new (Below.refl x2.heap.size x2) (.cells #[.int .i64 16384, .slice A2 M2.length c2] 24)
        have O2 := Lib.hid (hO.later bx)
        have R2 := Lib.hid (hV.later bx)
        have HV := Lib.hid (hV0.out.later bx)
        have Y8 := Lib.hid (Blk.new x2 24 #[.int .i64 16384, .slice A2 M2.length c2])
        have BB2 := Lib.hid (below_on BBX.out bx)
        clear hO hV hlt b bx hV0 BBX hcr hsc hlt2 hln
        have nn := dcrash_any 16384 keep turn A2 c2 M2 _ O2.out (by omega)
        rw [HCR.out] at nn
        have NN := Lib.hid nn
        clear nn
        have cY80 := Y8.out.cell (i := 0) rfl
        have cY81 := Y8.out.cell (i := 1) rfl
        go_wp2_with fail
        refine NN.out.mono ?_
        clear NN
        intro e xx h
        obtain ⟨Ax, cx, Lx, rfl, hO, hf, b⟩ := h.open
        clear h
        clear cY80 cY81
        replace O2 := Lib.hid (O2.out.later b)
        replace R2 := Lib.hid (R2.out.later b)
        replace HV := Lib.hid (HV.out.later b)
        replace Y8 := Lib.hid (Y8.out.later b)
        have Ox := Lib.hid (hO.oneD)
        have HFx := Lib.hid hf
        have BB3 := Lib.hid (below_on BB2.out b)
        clear b hO hf
        have b := below_new (Below.refl xx.heap.size xx) (.cells #[.int .i64 16384, .slice Ax Lx.length cx] 24)
        replace O2 := Lib.hid (O2.out.later b)
        replace R2 := Lib.hid (R2.out.later b)
        replace HV := Lib.hid (HV.out.later b)
        replace Y8 := Lib.hid (Y8.out.later b)
        replace Ox := Lib.hid (Ox.out.later b)
        have Y12 := Lib.hid (Blk.new xx 24 #[.int .i64 16384, .slice Ax Lx.length cx])
        have BB3a := Lib.hid (below_on BB3.out b)
        clear b
        have nn := SP.out.scan 16384 Ax cx Lx _ Ox.out HV.out
        rw [HFx.out, HSC.out] at nn
        have NN := Lib.hid nn
        clear nn
        have cY120 := Y12.out.cell (i := 0) rfl
        have cY121 := Y12.out.cell (i := 1) rfl
        go_wp2_with fail
        refine NN.out.mono ?_
        clear NN
        intro e xl h
        obtain ⟨Vl, vl, Al, cl, Ll, rfl, hV, hO, hf, b⟩ := h.open
        clear h
        clear cY120 cY121
        replace O2 := Lib.hid (O2.out.later b)
        replace R2 := Lib.hid (R2.out.later b)
        replace HV := Lib.hid (HV.out.later b)
        replace Y8 := Lib.hid (Y8.out.later b)
        replace Ox := Lib.hid (Ox.out.later b)
        replace Y12 := Lib.hid (Y12.out.later b)
        have Rl := Lib.hid (hV)
        have Ol := Lib.hid (hO.oneD)
        have HFl := Lib.hid hf
        have BB4 := Lib.hid (below_on BB3a.out b)
        clear b hO hf hV
        have b := below_new (Below.refl xl.heap.size xl) (.cells #[.int .i64 16384, .slice Al Ll.length cl] 24)
        replace O2 := Lib.hid (O2.out.later b)
        replace R2 := Lib.hid (R2.out.later b)
        replace HV := Lib.hid (HV.out.later b)
        replace Y8 := Lib.hid (Y8.out.later b)
        replace Ox := Lib.hid (Ox.out.later b)
        replace Y12 := Lib.hid (Y12.out.later b)
        replace Rl := Lib.hid (Rl.out.later b)
        replace Ol := Lib.hid (Ol.out.later b)
        have Y15 := Lib.hid (Blk.new xl 24 #[.int .i64 16384, .slice Al Ll.length cl])
        have BB4a := Lib.hid (below_on BB4.out b)
        clear b
        have q0 := Rl.out.le
        have q1 := HLN.out
        have q2 : (sure : Int) ≤ (lt.length : Int) := by omega
        have q3 : (lt.length : Int) ≤ (ls.length : Int) := by omega
        have q4 : (lt.length : Int) ≤ (v2 : Int) := by omega
        have q5 : lt.length ≤ v2 := by omega
        have q6 : (0 : Int) ≤ (lt.length : Int) := by omega
        have q7 := HVN.out
        have d1 : decide ((sure : Int) ≤ (lt.length : Int)) = true := decide_eq_true q2
        have d2 : decide ((lt.length : Int) ≤ (ls.length : Int)) = true := decide_eq_true q3
        clear q1
        have nn := rlists2_any Vl V2 vl v2 lt.length lt.length lt (ls.take lt.length) _ rfl (by rw [List.length_take]; have := HLN.out; omega) Rl.out (R2.out.head lt.length)
        rw [decide_eq_true (show lt = ls.take lt.length from by rw [HLN.out]; exact HLT.out.symm)] at nn
        have NN := Lib.hid nn
        clear nn
        go_wp2_with fail
        refine NN.out.mono ?_
        clear NN
        rintro e x5 ⟨rfl, b⟩
        replace O2 := Lib.hid (O2.out.later b)
        replace R2 := Lib.hid (R2.out.later b)
        replace HV := Lib.hid (HV.out.later b)
        replace Y8 := Lib.hid (Y8.out.later b)
        replace Ox := Lib.hid (Ox.out.later b)
        replace Y12 := Lib.hid (Y12.out.later b)
        replace Rl := Lib.hid (Rl.out.later b)
        replace Ol := Lib.hid (Ol.out.later b)
        replace Y15 := Lib.hid (Y15.out.later b)
        have BB5 := Lib.hid (below_on BB4a.out b)
        clear b
        go_wp2
        go_ret
        exact ⟨rfl, BB5.out⟩
end Go.Proofs.YtkhggofcbdcliaaDoor
namespace Go.Proofs.YtkhggofcbdcliaaDoor
open Go.ChangeShapes Go.WideShapes Go.RowKit Go.Deep

set_option maxRecDepth 100000
section
variable {H : Type} {enc : TypeId × Value → H} {w : World}
theorem djBool : Tryd.prog.cellsOf 4 = 1 := by kernel_rfl
theorem djDeed : Tryd.prog.cellsOf 43 = 3 := by kernel_rfl
theorem dj_deedE (fuel : Nat) (cs : List Value) (x : DataW H × List MemPlace) (h : DataW.trod enc Tryd.prog w 0 (fun _ => true) true fuel 43 cs = some x) : ∃ f : Dj, cs = djCells [f] ∧ OneB w f.X f.c f.l := by
  obtain ⟨y0, y1, y2, m, hx, hl, q0, q1, q2⟩ := trod_struct3 Tryd.underlying43 h
  rw [djDeed] at hl
  obtain ⟨a0, a1, a2, rfl⟩ := list3 hl
  dsimp only at q0 q1 q2
  rw [djBool] at q0 q1
  rw [dkLB] at q2
  obtain ⟨b, e0, _⟩ := DataW.trod_bool Tryd.underlying4 q0
  obtain ⟨n, e1, _⟩ := DataW.trod_bool Tryd.underlying4 q1
  obtain ⟨X, c, l, e2, o1, _⟩ := dk_bytesE q2
  simp at e0 e1 e2
  subst e0 e1 e2
  exact ⟨⟨b, n, X, c, l⟩, rfl, o1⟩
theorem djCells_flat (l : List Dj) : l.flatMap (fun f => djCells [f]) = djCells l := by
  induction l with
  | nil => rfl
  | cons s r ih =>
    rw [List.flatMap_cons, ih]
    rfl
/-- A list of deeds. -/
theorem open_dj {r : Reach} {b0 : Nat} {v : Value} {d : DataW H} {p : List MemPlace} (hv : Value.okWide Tryd.prog w r b0 40 v) (h : DataW.Trod enc Tryd.prog w 0 (fun _ => true) true 40 v d p) :
    ∃ (A : Option Addr) (c : Nat) (L : List Dj), v = .slice A L.length c ∧ OneDj w A c L := by
  obtain ⟨A, c, L, e1, h2, h3, h4, h5, h6, _⟩ := open_list (⟨false, false, none, 0, []⟩ : Dj) (fun f => djCells [f]) (fun f => OneB w f.X f.c f.l) (size := 3) (fun _ => rfl) Tryd.underlying40 djDeed (by decide) (fun fuel cs x h => dj_deedE fuel cs x h) hv h
  rw [djCells_flat] at h5
  exact ⟨A, c, L, e1, ⟨h2, h3, h4, h5, h6⟩⟩
end
end Go.Proofs.YtkhggofcbdcliaaDoor
namespace Go.Proofs.YtkhggofcbdcliaaDoor.journalLasts
open Go.ChangeShapes Go.WideShapes Go.ChangeAt Go.RowKit

theorem cells : Tryd.prog.cellsOf 5 = 1 := by kernel_rfl
theorem own : ownKnob Tryd.prog.godebug = none := by kernel_rfl
theorem laidOut : laidOutB Tryd.prog = true := by kernel_rfl
theorem reads : ∀ t ∈ Tryd.f6.params.toList, Tryd.prog.readableRec t = true ∧ t < Tryd.prog.types.size := by
  intro t ht
  rw [Tryd.params6] at ht
  have : t = 40 ∨ t = 41 ∨ t = 5 := by simpa using ht
  rcases this with rfl | rfl | rfl <;> exact ⟨by kernel_rfl, of_decide_eq_true (by kernel_rfl)⟩

/-- The heap that the program's own initialisers leave meets the row's condition. -/
theorem door_met (os : Os) (args : Array Value) : laidMetH Tryd.prog Rows.journalLastsRow.laid ((World.doorLaid Tryd.prog 400 os).forCall (fun _ _ => 0) ⟨#[], args, []⟩).memory :=
  laidMetH_of_parts3 (fuel := 8) (laidMet_of_run' 8 (by kernel_rfl) (by kernel_rfl)) (by kernel_rfl) (by kernel_rfl)

theorem halves_global : Tryd.prog.globalNamed "telltale/frame.halves" = some 0 := by kernel_rfl
theorem halves_type : (Tryd.prog.globals[0]?).map (·.type) = some 85 := by kernel_rfl
theorem halves_data : (Rows.laid_telltale_frame_halves : DataW Unit) = Lib.tabData .u32 (Fr.tab.map fun n : Nat => (n : Int)) := by rfl
/-- What the row's condition gives the walk: the table. -/
theorem halves_of {W : World} (h : laidMetH Tryd.prog Rows.journalLastsRow.laid W) : Halves W := by
  rw [MakeChecks.laidMetH_plain _ _ _ (by kernel_rfl)] at h
  have h2 : laidMet Tryd.prog [("telltale/frame.halves", Rows.laid_telltale_frame_halves)] W := h
  rw [halves_data] at h2
  have ht := Lib.tabIs_of_head halves_global halves_type Tryd.underlying85 Tryd.underlying66 (by kernel_rfl) (by kernel_rfl) h2
  intro v hv
  have hc := ht.cell halves_global v hv
  rw [hc]
  have hall : ∀ i : Fin 16, (Fr.tab.map fun n : Nat => (n : Int)).getD i.val 0 = ((Fr.tab.getD i.val 0 : Nat) : Int) := by decide
  rw [hall ⟨v, hv⟩]

set_option maxRecDepth 100000 in
theorem lifted (os : Os) (started : os.Started) (H : Type) (enc : TypeId × Value → H) :
    ReturnsInHanded {} Tryd.checked os 6 .any (fun w args => (Rows.journalLastsSpec.pre enc Tryd.prog Tryd.f6 [] false w args ∧ laidMetH Tryd.prog Rows.journalLastsRow.laid w) ∧ sizedMet enc Tryd.prog Tryd.f6 (OpenSpec.ofChange Rows.journalLastsSpec) false w args)
      (Rows.journalLastsSpec.post enc Tryd.prog Tryd.f6 false true false false) := by
  refine returnsInHanded_of_change_and (C := Tryd.checked) (X := fun w _ => laidMetH Tryd.prog Rows.journalLastsRow.laid w) (fun _ _ _ hh h => h.of_heap hh) own started (by kernel_rfl) Tryd.func6
    (ChangeSpec.witness_shaped (enc := enc) (C := Tryd.checked) (os := os) (X := fun w _ => laidMetH Tryd.prog Rows.journalLastsRow.laid w) false (World.doorLaid Tryd.prog 400 os) #[.slice none 0 0, .int .u16 0, .int .u8 0] 8 rfl (World.shaped_of_RefB (by kernel_rfl) (by kernel_rfl)) (by kernel_rfl) (by kernel_rfl) (by kernel_rfl) (door_met os _)) ?_
  intro W base args ds gs before hval0 hW _ _ hL _
  have hval : ∀ (j : Nat) t v, Tryd.f6.params[j]? = some t → args[j]? = some v → Value.okWide Tryd.prog W .any base t v := hval0
  have hW' := hW
  obtain ⟨p, q, hA0, hV, rfl, hfz, hnd⟩ := hW
  have hA : DataW.TrodAll enc Tryd.prog W 0 (fun _ => true) true Tryd.f6.params.toList args.toList ds p := hA0
  rw [Tryd.params6] at hA hval
  obtain ⟨v0, vs0, d0, ds0, p0, q0, hargs, rfl, rfl, h0, r0⟩ := trodAll_cons hA
  obtain ⟨v1, vs1, d1, ds1, p1, q1, rfl, rfl, rfl, h1, r1⟩ := trodAll_cons r0
  obtain ⟨v2, vs2, d2, ds2, p2, q2, rfl, rfl, rfl, h2, r2⟩ := trodAll_cons r1
  obtain ⟨rfl, rfl, rfl⟩ := trodAll_nil r2
  obtain rfl : args = #[v0, v1, v2] := by cases args; simp_all
  obtain ⟨rfl, rfl⟩ := trodVars_none hV
  obtain ⟨A0, c0, L0, rfl, o0⟩ := open_dj (hval 0 40 v0 rfl rfl) h0
  obtain ⟨a1, rfl, rfl, rfl, w1⟩ := open_int Tryd.underlying41 (hval 1 41 v1 rfl rfl) h1
  have y1 : 0 ≤ a1 ∧ a1 ≤ 65535 := by
    have hb : IntKind.u16.min ≤ a1 ∧ a1 ≤ IntKind.u16.max := by simpa [Lit.wf] using w1
    have e1 : IntKind.u16.min = 0 := by decide
    have e2 : IntKind.u16.max = 65535 := by decide
    rw [e1, e2] at hb
    exact hb
  obtain ⟨a2, rfl, rfl, rfl, w2⟩ := open_int Tryd.underlying5 (hval 2 5 v2 rfl rfl) h2
  have y2 : 0 ≤ a2 ∧ a2 ≤ 255 := by
    have hb : IntKind.u8.min ≤ a2 ∧ a2 ≤ IntKind.u8.max := by simpa [Lit.wf] using w2
    have e1 : IntKind.u8.min = 0 := by decide
    have e2 : IntKind.u8.max = 255 := by decide
    rw [e1, e2] at hb
    exact hb
  clear hA0 hval0
  refine (lawJournalLasts_any journalSpec A0 c0 L0 a1 a2 W o0 y1 y2 (halves_of hL)).mono fun e W' ⟨he, hg⟩ => ?_
  subst he
  exact ⟨_, rfl, law_post laidOut hW' rfl rfl (by kernel_rfl) Tryd.underlying4 reads hg⟩

theorem over : Rows.journalLastsRow.holds Tryd.pinned (OpenSpec.ofChange Rows.journalLastsSpec) :=
  OpenClaim.holds_of_wide 6 Tryd.f6 rfl rfl rfl rfl rfl rfl rfl ⟨rfl, rfl, rfl, rfl, rfl⟩ rfl rfl rfl rfl rfl (by kernel_rfl) Tryd.func6 (by kernel_rfl)
    (of_decide_eq_true (by kernel_rfl)) (by unfold Func.isWrapper; first | (rw [if_pos (by decide +kernel)]; kernel_rfl) | (rw [if_neg (by decide +kernel)]; exact ⟨rfl, rfl⟩))
    (fun os started H enc _ => lifted os started H enc)

/-- The statement: the card. -/
theorem proved : Rows.JournalLastsCardSaid :=
  Claim7.holds_tied_plain_at .later [] Rows.journalLastsCard.laidKinds true Rows.journalLastsCard.stood.harness Rows.journalLastsCard.stood.looks
    over (fun _ h => by cases h) (by kernel_rfl) (fun _ h => by cases h) journalLasts_row_tie rfl ⟨rfl, rfl⟩ (by kernel_rfl) rfl
    (fun f fn hf hfn => by
      obtain rfl : f = 6 := Option.some.inj ((show Tryd.prog.funcNamed "telltale/telltalelaw09.JournalLasts" = some 6 by kernel_rfl).symm.trans hf) |>.symm
      obtain rfl : fn = Tryd.f6 := (Option.some.inj (Tryd.func6.symm.trans hfn)).symm
      exact ⟨by kernel_rfl, fun j t ht => by
        rw [Tryd.params6] at ht
        have hm : t ∈ [40, 41, 5] := by simpa using Array.mem_of_getElem? ht
        have hall : ([40, 41, 5].all fun u => !Tryd.prog.wantsStandIn u) = true := by kernel_rfl
        exact (show Tryd.prog.wantsStandIn t = false by simpa using List.all_eq_true.1 hall t hm)⟩)
    (by kernel_rfl)

end Go.Proofs.YtkhggofcbdcliaaDoor.journalLasts
