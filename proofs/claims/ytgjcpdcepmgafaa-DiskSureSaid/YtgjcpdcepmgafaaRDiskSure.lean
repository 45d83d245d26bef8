/-
  For all lists of deeds, any number of 16 bits and any byte, the law DiskSure returns true and leaves its arguments as they were. No condition.
  Ahead of it: What the law DiskSure keeps beside the disk, as plain mathematics: all that was appended to each of four files, and what of it was synced. What the law DiskSure keeps in memory: the disk, two rows of four slices; and what it is handed: deeds. The law DiskSure, walked. Deeds as an argument, opened.
-/
import Derived.Test.YtgjcpdcepmgafaaDkCrash
import Derived.Test.YtgjcpdcepmgafaaDkLawB
import Derived.Test.YtgjcpdcepmgafaaRegionF3
import Derived.Test.YtgjcpdcepmgafaaRegionG
import Derived.Test.YtgjcpdcepmgafaaDkAlive
import Derived.BigQuiet
import Derived.Deep.DeepCutAuto
import Derived.Lib.QuietBelow
import Derived.Test.YtgjcpdcepmgafaaOpenDisk
import Derived.Test.YtgjcpdcepmgafaaRows
import Derived.Test.YtgjcpdcepmgafaaLaw
import Derived.Test.YtgjcpdcepmgafaaOpenBytes
import Derived.OpenShut
import Derived.WalkKit
import Derived.ProofKit
import Derived.SizedLaws
namespace Go.Proofs.Ytgjcpdcepmgafaa
open Go.RowKit

namespace Dk
/-- The files have just what was appended; of this what was synced is sure. -/
structure Sr (fs : List Fi) (al su : Nat → List Int) : Prop where
  fm : fmd 4096 fs = true
  has : ∀ f ∈ fs, ∃ k : Nat, k < 4 ∧ f.1 = (k : Int) ∧ f.2.1 = al k ∧ su k = (al k).take f.2.2.toNat
  non : ∀ k : Nat, k < 4 → (∀ f ∈ fs, f.1 ≠ (k : Int)) → al k = [] ∧ su k = []
theorem fmd_mk2 {room : Int} {fs : List Fi} (h0 : 0 ≤ room) (h1 : room ≤ 16777216) (h2 : used fs ≤ room) (h3 : ∀ f ∈ fs, 0 ≤ f.1 ∧ f.1 ≤ 1048576 ∧ 0 ≤ f.2.2 ∧ f.2.2 ≤ (f.2.1.length : Int)) (h4 : fs.Pairwise (fun a b => a.1 < b.1)) : fmd room fs = true := by
  unfold fmd
  rw [Bool.and_eq_true, decide_eq_true_eq]
  exact ⟨⟨h0, h1⟩, fmdF_mk fs 0 room h2 h3 h4⟩
theorem Sr.start : Sr [] (fun _ => []) (fun _ => []) := ⟨by decide, (fun _ h => by cases h), fun _ _ _ => ⟨rfl, rfl⟩⟩
/-- One file is changed into another of the same number and no more bytes, all of them sure. -/
structure Less (f f' : Fi) : Prop where
  num : f'.1 = f.1
  len : f'.2.1.length ≤ f.2.1.length
  s0 : 0 ≤ f'.2.2
  s1 : f'.2.2 ≤ (f'.2.1.length : Int)
theorem less_key : ∀ (fs fs' : List Fi), fs'.length = fs.length → (∀ (i : Nat) (f f' : Fi), fs[i]? = some f → fs'[i]? = some f' → Less f f') → used fs' ≤ used fs ∧ (∀ f' ∈ fs', ∃ f ∈ fs, Less f f') ∧ fs'.map (·.1) = fs.map (·.1)
  | [], [], _, _ => ⟨Int.le_refl _, (fun _ h => by cases h), rfl⟩
  | [], _ :: _, h, _ => by simp at h
  | _ :: _, [], h, _ => by simp at h
  | a :: r, b :: s, h, hg => by
    obtain ⟨i1, i2, i3⟩ := less_key r s (by simpa using h) (fun i f f' h1 h2 => hg (i + 1) f f' (by simpa using h1) (by simpa using h2))
    have h1 := hg 0 a b rfl rfl
    refine ⟨?_, fun f' hf' => ?_, ?_⟩
    · show (b.2.1.length : Int) + used s ≤ (a.2.1.length : Int) + used r
      have := h1.len
      omega
    · rcases List.mem_cons.1 hf' with rfl | h
      · exact ⟨a, List.mem_cons_self .., h1⟩
      · obtain ⟨f, hf, hl⟩ := i2 f' h
        exact ⟨f, List.mem_cons_of_mem _ hf, hl⟩
    · rw [List.map_cons, List.map_cons, i3, h1.num]
theorem less_fmd {room : Int} {fs fs' : List Fi} (hl : fs'.length = fs.length) (h : ∀ (i : Nat) (f f' : Fi), fs[i]? = some f → fs'[i]? = some f' → Less f f') (hf : fmd room fs = true) : fmd room fs' = true := by
  have hF := fmd_facts hf
  obtain ⟨k1, k2, k3⟩ := less_key fs fs' hl h
  refine fmd_mk2 hF.r0 hF.r1 (by have := hF.use; omega) (fun f' hf' => ?_) ?_
  · obtain ⟨f, hf, hl⟩ := k2 f' hf'
    obtain ⟨n1, n2, n3, n4⟩ := hF.num f hf
    have h1 := hl.num
    have h2 := hl.s0
    have h3 := hl.s1
    exact ⟨by rw [h1]; exact n1, by rw [h1]; exact n2, h2, h3⟩
  · have h1 : (fs.map (·.1)).Pairwise (· < ·) := List.pairwise_map.2 hF.up
    rw [← k3] at h1
    exact List.pairwise_map.1 h1
section
variable {fs : List Fi} {al su : Nat → List Int}
theorem Sr.sync (h : Sr fs al su) : Sr (fs.map syn1) al al := by
  refine ⟨less_fmd (List.length_map ..) (fun i f f' h1 h2 => ?_) h.fm, fun f hf => ?_, fun k hk hn => ?_⟩
  · rw [List.getElem?_map, h1] at h2
    simp at h2
    subst h2
    exact ⟨rfl, Nat.le_refl _, by show (0 : Int) ≤ (f.2.1.length : Int); omega, Int.le_refl _⟩
  · obtain ⟨g, hg, rfl⟩ := List.mem_map.1 hf
    obtain ⟨k, hk, h1, h2, -⟩ := h.has g hg
    refine ⟨k, hk, h1, h2, ?_⟩
    show al k = (al k).take ((g.2.1.length : Int)).toNat
    rw [h2]
    simp
  · have h1 := (h.non k hk (fun f hf => hn (syn1 f) (List.mem_map.2 ⟨f, hf, rfl⟩))).1
    exact ⟨h1, h1⟩
theorem sorted_split (n : Int) : ∀ fs : List Fi, fs.Pairwise (fun a b => a.1 < b.1) → (∀ f ∈ fs, f.1 ≠ n) → fs.filter (fun f => decide (f.1 < n)) ++ fs.filter (fun f => decide (n < f.1)) = fs
  | [], _, _ => rfl
  | f :: r, hp, hn => by
    obtain ⟨p1, p2⟩ := List.pairwise_cons.1 hp
    have ih := sorted_split n r p2 (fun g hg => hn g (List.mem_cons_of_mem _ hg))
    by_cases h : f.1 < n
    · have h2 : ¬ n < f.1 := by omega
      simp only [List.filter_cons, decide_eq_true h, decide_eq_false h2, if_true, List.cons_append]
      simp [ih]
    · have h0 := hn f (List.mem_cons_self ..)
      have h2 : n < f.1 := by omega
      have e1 : r.filter (fun f => decide (f.1 < n)) = [] := List.filter_eq_nil_iff.2 (fun g hg => by have := p1 g hg; simp; omega)
      have e2 : r.filter (fun f => decide (n < f.1)) = r := List.filter_eq_self.2 (fun g hg => by have := p1 g hg; simp; omega)
      simp only [List.filter_cons, decide_eq_true h2, decide_eq_false h, e1, e2]
      simp
theorem app1_other {n : Int} {b : List Int} : ∀ fs : List Fi, (∀ f ∈ fs, f.1 ≠ n) → fs.map (app1 n b) = fs
  | [], _ => rfl
  | f :: r, h => by
    rw [List.map_cons, app1_other r (fun g hg => h g (List.mem_cons_of_mem _ hg))]
    unfold app1
    rw [if_neg (h f (List.mem_cons_self ..))]
theorem used_app {n : Int} {b : List Int} : ∀ fs : List Fi, fs.Pairwise (fun a b => a.1 < b.1) → used (fs.map (app1 n b)) ≤ used fs + (b.length : Int)
  | [], _ => by simp [used]
  | f :: r, hp => by
    obtain ⟨p1, p2⟩ := List.pairwise_cons.1 hp
    have ih := used_app (n := n) (b := b) r p2
    show ((app1 n b f).2.1.length : Int) + used (r.map (app1 n b)) ≤ (f.2.1.length : Int) + used r + (b.length : Int)
    by_cases h : f.1 = n
    · rw [app1_other r (fun g hg => by have := p1 g hg; omega)]
      unfold app1
      rw [if_pos h]
      simp
      omega
    · unfold app1 at ih ⊢
      rw [if_neg h]
      omega
theorem app1_num (n : Int) (b : List Int) (f : Fi) : (app1 n b f).1 = f.1 := by unfold app1; split <;> rfl
theorem app1_sure (n : Int) (b : List Int) (f : Fi) : (app1 n b f).2.2 = f.2.2 ∧ f.2.1.length ≤ (app1 n b f).2.1.length := by
  unfold app1
  split
  · exact ⟨rfl, by simp⟩
  · exact ⟨rfl, Nat.le_refl _⟩
/-- What one of that number is put among the files for: formed files, of the same bytes, and one of that number. -/
theorem ins_facts {room : Int} (n : Int) (hF : Fmd room fs) : used (ins fs n) = used fs ∧ (ins fs n).Pairwise (fun a b => a.1 < b.1) ∧ (∀ f ∈ ins fs n, f ∈ fs ∨ (f = (n, [], 0) ∧ ∀ g ∈ fs, g.1 ≠ n)) ∧ (∀ f ∈ fs, f ∈ ins fs n) ∧ ∃ f ∈ ins fs n, f.1 = n := by
  unfold ins
  cases he : fnd n fs with
  | some f =>
    refine ⟨rfl, hF.up, fun g hg => .inl hg, fun g hg => hg, f, List.mem_of_find?_eq_some he, ?_⟩
    have := List.find?_some he
    simpa using this
  | none =>
    have hno : ∀ f ∈ fs, f.1 ≠ n := fun f hf => by
      have := List.find?_eq_none.1 he f hf
      simpa using this
    have hs := sorted_split n fs hF.up hno
    refine ⟨?_, ?_, fun f hf => ?_, fun f hf => ?_, (n, [], 0), List.mem_append_right _ (List.mem_cons_self ..), rfl⟩
    · dsimp only
      have e0 : ∀ r : List Fi, used ((n, [], 0) :: r) = used r := fun r => by
        show ((0 : Nat) : Int) + used r = used r
        omega
      have e1 := congrArg used hs
      rw [used_append] at e1
      rw [used_append, e0]
      exact e1
    · dsimp only
      refine List.pairwise_append.2 ⟨hF.up.filter _, List.pairwise_cons.2 ⟨fun g hg => ?_, hF.up.filter _⟩, fun a ha g hg => ?_⟩
      · have := (List.mem_filter.1 hg).2
        simpa using this
      · have h1 : a.1 < n := by simpa using (List.mem_filter.1 ha).2
        rcases List.mem_cons.1 hg with rfl | hg
        · exact h1
        · have h2 : n < g.1 := by simpa using (List.mem_filter.1 hg).2
          omega
    · rcases List.mem_append.1 hf with h1 | h1
      · exact .inl (List.mem_filter.1 h1).1
      · rcases List.mem_cons.1 h1 with rfl | h1
        · exact .inr ⟨rfl, hno⟩
        · exact .inl (List.mem_filter.1 h1).1
    · rw [← hs] at hf
      rcases List.mem_append.1 hf with h1 | h1
      · exact List.mem_append_left _ h1
      · exact List.mem_append_right _ (List.mem_cons_of_mem _ h1)
/-- Bytes are appended to one of the four. -/
theorem Sr.app (h : Sr fs al su) {k : Nat} (hk : k < 4) {b : List Int} (hb : (b.length : Int) ≤ 4096 - used fs) : Sr ((ins fs (k : Int)).map (app1 (k : Int) b)) (fun j => if j = k then al k ++ b else al j) su := by
  have hF := fmd_facts h.fm
  obtain ⟨i1, i2, i3, i4, i5⟩ := ins_facts (k : Int) hF
  refine ⟨fmd_mk2 hF.r0 hF.r1 ?_ (fun f hf => ?_) ?_, fun f hf => ?_, fun j hj hn => ?_⟩
  · have := used_app (n := (k : Int)) (b := b) _ i2
    omega
  · obtain ⟨g, hg, rfl⟩ := List.mem_map.1 hf
    obtain ⟨a1, a2⟩ := app1_sure (k : Int) b g
    rw [app1_num, a1]
    rcases i3 g hg with h1 | ⟨rfl, _⟩
    · have := hF.num g h1
      exact ⟨this.1, this.2.1, this.2.2.1, by omega⟩
    · exact ⟨by show (0 : Int) ≤ (k : Int); omega, by show (k : Int) ≤ 1048576; omega, Int.le_refl _, by show (0 : Int) ≤ _; omega⟩
  · refine List.pairwise_map.2 (i2.imp fun {a c} hac => ?_)
    rw [app1_num, app1_num]
    exact hac
  · obtain ⟨g, hg, rfl⟩ := List.mem_map.1 hf
    rcases i3 g hg with h1 | ⟨rfl, hno⟩
    · obtain ⟨j, hj, e1, e2, e3⟩ := h.has g h1
      refine ⟨j, hj, by rw [app1_num]; exact e1, ?_, ?_⟩
      · unfold app1
        by_cases e : j = k
        · subst e
          rw [if_pos e1, if_pos rfl]
          show g.2.1 ++ b = _
          rw [e2]
        · rw [if_neg (by omega), if_neg e]
          exact e2
      · rw [(app1_sure (k : Int) b g).1]
        by_cases e : j = k
        · subst e
          rw [if_pos rfl, e3]
          have hs := (hF.num g h1).2.2
          rw [List.take_append_of_le_length]
          rw [← e2]
          omega
        · rw [if_neg e]
          exact e3
    · obtain ⟨n1, n2⟩ := h.non k hk hno
      refine ⟨k, hk, by rw [app1_num], ?_, ?_⟩
      · unfold app1
        rw [if_pos rfl, if_pos rfl, n1]
      · rw [(app1_sure (k : Int) b _).1, n2]
        rfl
  · have hjk : j ≠ k := fun e => by
      subst e
      obtain ⟨f, hf, hn2⟩ := i5
      exact hn (app1 (j : Int) b f) (List.mem_map.2 ⟨f, hf, rfl⟩) (by rw [app1_num]; exact hn2)
    rw [if_neg hjk]
    exact h.non j hj (fun f hf => by have := hn (app1 (k : Int) b f) (List.mem_map.2 ⟨f, i4 f hf, rfl⟩); rw [app1_num] at this; exact this)
/-- How much stands in one of the four. -/
theorem Sr.le (h : Sr fs al su) {k : Nat} (hk : k < 4) : (al k).length ≤ 4096 ∧ (su k).length ≤ (al k).length := by
  have hF := fmd_facts h.fm
  by_cases hn : ∀ f ∈ fs, f.1 ≠ (k : Int)
  · obtain ⟨h1, h2⟩ := h.non k hk hn
    rw [h1, h2]
    simp
  · obtain ⟨f, hf, hn⟩ : ∃ f ∈ fs, f.1 = (k : Int) := Classical.byContradiction fun h => hn fun f hf e => h ⟨f, hf, e⟩
    obtain ⟨j, hj, e1, e2, e3⟩ := h.has f hf
    have : j = k := by omega
    subst this
    have h1 := used_mem hf
    have h2 := hF.use
    rw [e2] at h1
    exact ⟨by omega, by rw [e3, List.length_take]; omega⟩
/-- What is left behind a crash, of each of the four: m is the one of which a byte may be another one, the last. -/
structure Cr (fs' : List Fi) (al su : Nat → List Int) (m : Nat) : Prop where
  fm : fmd 4096 fs' = true
  non : ∀ k : Nat, k < 4 → fnd (k : Int) fs' = none → al k = []
  has : ∀ (k : Nat) (f : Fi), k < 4 → fnd (k : Int) fs' = some f → (su k).length ≤ f.2.1.length ∧ f.2.1.length ≤ (al k).length ∧ ∀ i, i < f.2.1.length → f.2.1.getD i 0 ≠ (al k).getD i 0 → k = m ∧ (su k).length ≤ i ∧ i + 1 = f.2.1.length
theorem crsTo_get (keep : Nat) (fs : List Fi) : ∀ (n i : Nat), n ≤ fs.length → i < n → ∃ f, fs[i]? = some f ∧ (crsTo keep fs n)[i]? = some (crs1 (kAt keep fs i) f)
  | 0, i, _, hi => by omega
  | n + 1, i, hn, hi => by
    have hg := List.getElem?_eq_getElem (show n < fs.length by omega)
    have hl := crsTo_len keep fs n (by omega)
    rw [crsTo_step hg]
    by_cases e : i = n
    · subst e
      refine ⟨_, hg, ?_⟩
      have := List.getElem?_concat_length (l := crsTo keep fs i) (a := crs1 (kAt keep fs i) fs[i])
      rw [hl] at this
      exact this
    · obtain ⟨f, h1, h2⟩ := crsTo_get keep fs n i (by omega) (by omega)
      exact ⟨f, h1, by rw [List.getElem?_append_left (by omega)]; exact h2⟩
theorem lstTo_some (keep : Nat) (fs : List Fi) : ∀ (n j : Nat), n ≤ fs.length → lstTo keep fs n = some j → j < n ∧ ∃ f, fs[j]? = some f ∧ 0 < kp1 (kAt keep fs j) f
  | 0, j, _, h => by cases h
  | n + 1, j, hn, h => by
    have hg := List.getElem?_eq_getElem (show n < fs.length by omega)
    rw [lstTo_step hg] at h
    split at h
    · next h1 =>
      injection h with h
      subst h
      exact ⟨Nat.lt_succ_self _, _, hg, h1⟩
    · obtain ⟨h1, h2⟩ := lstTo_some keep fs n j (by omega) h
      exact ⟨by omega, h2⟩
/-- A file behind a crash, at its place. -/
theorem crs_at (keep : Nat) (fs : List Fi) (turn : Int) {i : Nat} {f' : Fi} (h : (atF (turnF turn) (lstTo keep fs fs.length) (crsTo keep fs fs.length))[i]? = some f') :
    ∃ f, fs[i]? = some f ∧ ((f' = crs1 (kAt keep fs i) f) ∨ (lstTo keep fs fs.length = some i ∧ 0 < kp1 (kAt keep fs i) f ∧ f' = turnF turn (crs1 (kAt keep fs i) f))) := by
  have hlen := crsTo_len keep fs fs.length (Nat.le_refl _)
  cases hl : lstTo keep fs fs.length with
  | none =>
    rw [hl] at h
    have h2 : (crsTo keep fs fs.length)[i]? = some f' := h
    have hi := (List.getElem?_eq_some_iff.1 h2).1
    obtain ⟨f, h3, h4⟩ := crsTo_get keep fs fs.length i (Nat.le_refl _) (by omega)
    rw [h2] at h4
    injection h4 with h4
    exact ⟨f, h3, .inl h4⟩
  | some j =>
    rw [hl] at h
    obtain ⟨h1, g, h2, h3⟩ := lstTo_some keep fs fs.length j (Nat.le_refl _) hl
    obtain ⟨g', e1, e2⟩ := crsTo_get keep fs fs.length j (Nat.le_refl _) h1
    rw [h2] at e1
    cases e1
    rw [atF_some e2] at h
    by_cases e : j = i
    · subst e
      rw [List.getElem?_set_self (by omega)] at h
      injection h with h
      exact ⟨g, h2, .inr ⟨rfl, h3, h.symm⟩⟩
    · rw [List.getElem?_set_ne e] at h
      have hi := (List.getElem?_eq_some_iff.1 h).1
      obtain ⟨f, h4, h5⟩ := crsTo_get keep fs fs.length i (Nat.le_refl _) (by omega)
      rw [h] at h5
      injection h5 with h5
      exact ⟨f, h4, .inl h5⟩
theorem turnF_len (t : Int) (f : Fi) : (turnF t f).1 = f.1 ∧ (turnF t f).2.1.length = f.2.1.length ∧ (turnF t f).2.2 = f.2.2 := ⟨rfl, List.length_set, rfl⟩
theorem atF_len (G : Fi → Fi) (o : Option Nat) (l : List Fi) : (atF G o l).length = l.length := by
  cases o with
  | none => rfl
  | some j =>
    show (match l[j]? with | some f => l.set j (G f) | none => l).length = _
    split
    · exact List.length_set
    · rfl
theorem crs1_facts (k : Nat) (f : Fi) (h0 : 0 ≤ f.2.2) (h1 : f.2.2 ≤ (f.2.1.length : Int)) : (crs1 k f).1 = f.1 ∧ (crs1 k f).2.1 = f.2.1.take (f.2.2.toNat + kp1 k f) ∧ (crs1 k f).2.1.length = f.2.2.toNat + kp1 k f ∧ (crs1 k f).2.2 = ((f.2.2.toNat + kp1 k f : Nat) : Int) ∧ f.2.2.toNat + kp1 k f ≤ f.2.1.length := by
  have hk : f.2.2.toNat + kp1 k f ≤ f.2.1.length := by unfold kp1; omega
  refine ⟨rfl, rfl, ?_, rfl, hk⟩
  show (f.2.1.take (f.2.2.toNat + kp1 k f)).length = _
  rw [List.length_take]
  omega
theorem take_getD (l : List Int) {n i : Nat} (hi : i < n) : (l.take n).getD i 0 = l.getD i 0 := by
  rw [List.getD_eq_getElem?_getD, List.getD_eq_getElem?_getD, List.getElem?_take_of_lt hi]
theorem Sr.crash (h : Sr fs al su) (keep turn : Int) (hk : 0 ≤ keep) (ht : 0 ≤ turn ∧ turn ≤ 255) : ∃ fs' m, crsR 4096 fs keep turn = (4096, fs', 0) ∧ Cr fs' al su m := by
  have hF := fmd_facts h.fm
  obtain ⟨K, hK⟩ : ∃ K, keep.toNat = K := ⟨_, rfl⟩
  obtain ⟨fs', hfs⟩ : ∃ fs', atF (turnF turn) (lstTo K fs fs.length) (crsTo K fs fs.length) = fs' := ⟨_, rfl⟩
  have hat : ∀ (i : Nat) (f' : Fi), fs'[i]? = some f' → ∃ f, fs[i]? = some f ∧ ((f' = crs1 (kAt K fs i) f) ∨ (lstTo K fs fs.length = some i ∧ 0 < kp1 (kAt K fs i) f ∧ f' = turnF turn (crs1 (kAt K fs i) f))) := fun i f' hi => crs_at K fs turn (by rw [hfs]; exact hi)
  have hlen : fs'.length = fs.length := by rw [← hfs, atF_len, crsTo_len K fs fs.length (Nat.le_refl _)]
  have hless : ∀ (i : Nat) (f f' : Fi), fs[i]? = some f → fs'[i]? = some f' → Less f f' := fun i f f' h1 h2 => by
    obtain ⟨g, g1, g2⟩ := hat i f' h2
    rw [h1] at g1
    cases g1
    have hs := (hF.num f (List.mem_of_getElem? h1)).2.2
    obtain ⟨c1, c2, c3, c4, c5⟩ := crs1_facts (kAt K fs i) f hs.1 hs.2
    rcases g2 with rfl | ⟨-, -, rfl⟩
    · exact ⟨c1, by omega, by rw [c4]; omega, by rw [c4, c3]; omega⟩
    · obtain ⟨t1, t2, t3⟩ := turnF_len turn (crs1 (kAt K fs i) f)
      exact ⟨by rw [t1, c1], by omega, by rw [t3, c4]; omega, by rw [t3, t2, c4, c3]; omega⟩
  obtain ⟨m, hm⟩ : ∃ m : Nat, ∀ (i : Nat) (f : Fi) (k : Nat), lstTo K fs fs.length = some i → fs[i]? = some f → f.1 = (k : Int) → k = m := by
    cases hl : lstTo K fs fs.length with
    | none => exact ⟨4, fun i f k h => by cases h⟩
    | some j =>
      obtain ⟨h1, g, h2, h3⟩ := lstTo_some K fs fs.length j (Nat.le_refl _) hl
      refine ⟨g.1.toNat, fun i f k e1 e2 e3 => ?_⟩
      injection e1 with e1
      subst e1
      rw [h2] at e2
      cases e2
      omega
  refine ⟨fs', m, ?_, less_fmd hlen hless h.fm, fun k hk hn => ?_, fun k f' hk hf => ?_⟩
  · unfold crsR
    rw [if_pos ⟨h.fm, hk, decide_eq_true ht⟩, hK, hfs]
  · refine (h.non k hk (fun f hf e => ?_)).1
    obtain ⟨i, hi⟩ := List.getElem?_of_mem hf
    have hil := (List.getElem?_eq_some_iff.1 hi).1
    have hg := List.getElem?_eq_getElem (show i < fs'.length by omega)
    have h1 := (hless i f _ hi hg).num
    have h2 := List.find?_eq_none.1 hn _ (List.mem_of_getElem? hg)
    simp at h2
    omega
  · have hmem := List.mem_of_find?_eq_some hf
    have hnum : f'.1 = (k : Int) := by have := List.find?_some hf; simpa using this
    obtain ⟨i, hi⟩ := List.getElem?_of_mem hmem
    obtain ⟨f, g1, g2⟩ := hat i f' hi
    have hl := hless i f f' g1 hi
    obtain ⟨j, hj, e1, e2, e3⟩ := h.has f (List.mem_of_getElem? g1)
    have : j = k := by have := hl.num; omega
    subst this
    have hs := (hF.num f (List.mem_of_getElem? g1)).2.2
    obtain ⟨c1, c2, c3, c4, c5⟩ := crs1_facts (kAt K fs i) f hs.1 hs.2
    have hsl : (su j).length = f.2.2.toNat := by rw [e3, List.length_take, ← e2]; omega
    rcases g2 with rfl | ⟨q1, q2, rfl⟩
    · refine ⟨by omega, by rw [c3, ← e2]; omega, fun u hu hne => absurd ?_ hne⟩
      rw [c2, take_getD _ (by omega), e2]
    · obtain ⟨t1, t2, t3⟩ := turnF_len turn (crs1 (kAt K fs i) f)
      refine ⟨by omega, by rw [t2, c3, ← e2]; omega, fun u hu hne => ?_⟩
      rw [t2, c3] at hu
      by_cases e : u + 1 = f.2.2.toNat + kp1 (kAt K fs i) f
      · exact ⟨hm i f j q1 g1 e1, by omega, by rw [t2, c3]; exact e⟩
      · refine absurd ?_ hne
        show ((crs1 (kAt K fs i) f).2.1.set ((crs1 (kAt K fs i) f).2.1.length - 1) _).getD u 0 = _
        rw [List.getD_eq_getElem?_getD, List.getElem?_set_ne (by omega), ← List.getD_eq_getElem?_getD, c2, take_getD _ (by omega), e2]
end
end Dk
end Go.Proofs.Ytgjcpdcepmgafaa
namespace Go.Proofs.Ytgjcpdcepmgafaa
open Go.RowKit

/-- A deed where it lies. -/
structure De where
  sync : Bool
  n : Int
  X : Option Addr
  c : Nat
  l : List Int
def deCells : List De → List Value
  | [] => []
  | f :: r => .bool f.sync :: .int .i64 f.n :: .slice f.X f.l.length f.c :: deCells r
theorem deCells_get (L : List De) (x : De) : ∀ k, L[k]? = some x → (deCells L)[k * 3]? = some (.bool x.sync) ∧ (deCells L)[k * 3 + 1]? = some (.int .i64 x.n) ∧ (deCells L)[k * 3 + 2]? = some (.slice x.X x.l.length x.c) := by
  induction L with
  | nil => intro k h; simp at h
  | cons y r ih =>
    intro k h
    cases k with
    | zero =>
      simp at h
      subst h
      exact ⟨rfl, rfl, rfl⟩
    | succ m =>
      have := ih m (by simpa using h)
      rw [show (m + 1) * 3 = m * 3 + 3 from by omega]
      exact this
theorem deCells_nil {L : List De} : deCells L = [] ↔ L = [] := by cases L <;> simp [deCells]
/-- A list of deeds by value. -/
structure OneDe (w : World) (A : Option Addr) (c : Nat) (L : List De) : Prop where
  le : L.length ≤ c
  cap : c ≤ maxLen
  noA : A = none → L.length = 0 ∧ c = 0
  lies : Lies w A (deCells L)
  each : ∀ f ∈ L, OneB w f.X f.c f.l
theorem OneDe.later {w w' : World} {A : Option Addr} {c : Nat} {L : List De} (h : OneDe w A c L) (hb : Below w.heap.size w w') : OneDe w' A c L := ⟨h.le, h.cap, h.noA, h.lies.later hb, fun f hf => (h.each f hf).later hb⟩
theorem OneDe.at {w : World} {A : Option Addr} {c : Nat} {L : List De} (h : OneDe w A c L) (hne : L ≠ []) : ∃ b off, A = some ⟨b, off, none⟩ ∧ ∀ k x, L[k]? = some x → w.cell? ⟨b, off + k * 3, none⟩ = some (.bool x.sync) ∧ w.cell? ⟨b, off + k * 3 + 1, none⟩ = some (.int .i64 x.n) ∧ w.cell? ⟨b, off + k * 3 + 2, none⟩ = some (.slice x.X x.l.length x.c) := by
  obtain ⟨b, off, hA, hc⟩ := h.lies (fun e => hne (deCells_nil.1 e))
  refine ⟨b, off, hA, fun k x hx => ?_⟩
  obtain ⟨g0, g1, g2⟩ := deCells_get L x k hx
  exact ⟨hc _ _ g0, by rw [Nat.add_assoc]; exact hc _ _ g1, by rw [Nat.add_assoc]; exact hc _ _ g2⟩

theorem mod4 (n : Int) : ∃ k : Nat, k < 4 ∧ wrap64 ((IntKind.u64.wrap n).tmod 4) = (k : Int) := by
  have h0 : 0 ≤ IntKind.u64.wrap n := by simp [IntKind.wrap, IntKind.bits, IntKind.signed]; omega
  have h1 : (IntKind.u64.wrap n).tmod 4 = IntKind.u64.wrap n % 4 := Int.tmod_eq_emod_of_nonneg h0
  refine ⟨(IntKind.u64.wrap n % 4).toNat, by omega, ?_⟩
  rw [h1]
  unfold wrap64
  omega
/-- Four slices in a row. -/
def sv (f : Fc) : Value := .slice f.X f.l.length f.c
def arrV (a : Nat → Fc) : Array Value := #[sv (a 0), sv (a 1), sv (a 2), sv (a 3)]
def nilF : Fc := ⟨0, none, 0, [], 0⟩
def put1 (a : Nat → Fc) (k : Nat) (x : Fc) : Nat → Fc := fun j => if j = k then x else a j
theorem four {p : Nat → Prop} (h0 : p 0) (h1 : p 1) (h2 : p 2) (h3 : p 3) : ∀ k, k < 4 → p k
  | 0, _ => h0
  | 1, _ => h1
  | 2, _ => h2
  | 3, _ => h3
  | k + 4, h => by omega
theorem arrV_get (a : Nat → Fc) : ∀ k, k < 4 → (arrV a)[k]? = some (sv (a k)) := four rfl rfl rfl rfl
theorem arrV_put (a : Nat → Fc) (x : Fc) : ∀ k, k < 4 → (arrV a).setIfInBounds k (sv x) = arrV (put1 a k x) := four rfl rfl rfl rfl
theorem arrV_all (s a : Nat → Fc) : ((((arrV s).setIfInBounds 0 (sv (a 0))).setIfInBounds 1 (sv (a 1))).setIfInBounds 2 (sv (a 2))).setIfInBounds 3 (sv (a 3)) = arrV a := rfl

/-- What lies at D, D + 1, D + 2: the disk, what is sure, all. -/
structure SureM (D n : Nat) (w wr : World) (A : Option Addr) (c : Nat) (M : List Fc) (a s : Nat → Fc) : Prop where
  hn : n ≤ D
  d : Blk wr D 24 #[.int .i64 4096, .slice A M.length c]
  su : Blk wr (D + 1) 46 (arrV s)
  al : Blk wr (D + 1 + 1) 46 (arrV a)
  own : OwnD wr (D + 3) 43 5 (.slice A M.length c) M
  ea : ∀ k, k < 4 → OwnB wr (D + 3) 5 (a k)
  es : ∀ k, k < 4 → OwnB wr (D + 3) 5 (s k)
  sr : Dk.Sr (M.map Fc.fi) (fun k => (a k).l) (fun k => (s k).l)
  low : Below n w wr
/-- Worlds that agree but for the three blocks at D, and what is new. -/
structure Put3 (D n : Nat) (w w' : World) : Prop where
  low : ∀ {u : World}, Below n u w → Below n u w'
  kept : Kept D (D + 3) w w'
section
variable {D n : Nat} {w w1 w2 wr : World} {A : Option Addr} {c : Nat} {M : List Fc} {a s : Nat → Fc}
theorem Put3.refl (D n : Nat) (w : World) : Put3 D n w w := ⟨fun h => h, Kept.refl _ _ _⟩
theorem Put3.put (h : Put3 D n w w1) (hn : n ≤ D) {p : Addr} (h1 : D ≤ p.block) (h2 : p.block < D + 3) (u : Value) : Put3 D n w (w1.setCell p u) := ⟨fun hb => (h.low hb).setCell (by omega) u, h.kept.put h1 h2 u⟩
theorem Put3.drew (h : Put3 D n w w1) : Put3 D n w w1.drew := ⟨fun hb => Below.drew (h.low hb), h.kept.size, fun k h1 h2 => h.kept.same k h1 h2⟩
theorem Put3.drewN (h : Put3 D n w w1) (k : Nat) : Put3 D n w (w1.drewN k) := ⟨fun hb => below_drewN (h.low hb) k, h.kept.size, fun k h1 h2 => h.kept.same k h1 h2⟩
theorem OwnB.above {lo hi base : Nat} {e : TypeId} {f : Fc} (h : OwnB w base e f) (hk : Kept lo hi w w1) (hb : hi ≤ base) : OwnB w1 base e f := h.stays fun k hkb => hk.same k (h.lt k hkb).2 (.inr (by have := (h.lt k hkb).1; omega))
theorem SureM.lt (h : SureM D n w wr A c M a s) : D + 3 ≤ wr.heap.size := by have := h.al.lt; omega
theorem SureM.later (h : SureM D n w wr A c M a s) (hb : Below wr.heap.size wr w1) : SureM D n w w1 A c M a s :=
  ⟨h.hn, h.d.later hb, h.su.later hb, h.al.later hb, h.own.later hb, fun k hk => (h.ea k hk).later hb, fun k hk => (h.es k hk).later hb, h.sr, h.low.trans (hb.mono (by have := h.lt; have := h.hn; omega))⟩
theorem SureM.drew (h : SureM D n w wr A c M a s) : SureM D n w wr.drew A c M a s := h.later (Below.drew (Below.refl _ _))
theorem SureM.start (x : World) (hb : Below w.heap.size w x) : SureM x.heap.size w.heap.size w (((x.alloc (.cells #[.int .i64 4096, .slice none 0 0] 24)).alloc (.cells #[.slice none 0 0, .slice none 0 0, .slice none 0 0, .slice none 0 0] 46)).alloc (.cells #[.slice none 0 0, .slice none 0 0, .slice none 0 0, .slice none 0 0] 46)) none 0 [] (fun _ => nilF) (fun _ => nilF) := by
  refine ⟨hb.size, ((Blk.new x 24 #[.int .i64 4096, .slice none 0 0]).alloc _).alloc _, ?_, ?_, OwnD.nil _ _ _ _, fun _ _ => (OwnBS.zero _ _ _ 0).b, fun _ _ => (OwnBS.zero _ _ _ 0).b, Dk.Sr.start, below_new (below_new (below_new hb _) _) _⟩
  · have := (Blk.new (x.alloc (.cells #[.int .i64 4096, .slice none 0 0] 24)) 46 #[.slice none 0 0, .slice none 0 0, .slice none 0 0, .slice none 0 0]).alloc (.cells #[.slice none 0 0, .slice none 0 0, .slice none 0 0, .slice none 0 0] 46)
    rw [show (x.alloc (.cells #[.int .i64 4096, .slice none 0 0] 24)).heap.size = x.heap.size + 1 from by simp] at this
    exact this
  · have := Blk.new ((x.alloc (.cells #[.int .i64 4096, .slice none 0 0] 24)).alloc (.cells #[.slice none 0 0, .slice none 0 0, .slice none 0 0, .slice none 0 0] 46)) 46 #[.slice none 0 0, .slice none 0 0, .slice none 0 0, .slice none 0 0]
    rw [show ((x.alloc (.cells #[.int .i64 4096, .slice none 0 0] 24)).alloc (.cells #[.slice none 0 0, .slice none 0 0, .slice none 0 0, .slice none 0 0] 46)).heap.size = x.heap.size + 1 + 1 from by simp] at this
    exact this
/-- All is synced: the disk is another one, and what is sure is all. -/
theorem SureM.sync (h : SureM D n w w1 A c M a s) {A2 : Option Addr} {c2 : Nat} {M2 : List Fc} {base : Nat} (hp : Put3 D n w1 w2) (ho : OwnD w1 base 43 5 (.slice A2 M2.length c2) M2) (hb : D + 3 ≤ base) (hf : M2.map Fc.fi = (M.map Fc.fi).map Dk.syn1)
    (e0 : Blk w2 D 24 #[.int .i64 4096, .slice A2 M2.length c2]) (e1 : Blk w2 (D + 1) 46 (arrV a)) (e2 : Blk w2 (D + 1 + 1) 46 (arrV a)) : SureM D n w w2 A2 c2 M2 a a :=
  ⟨h.hn, e0, e1, e2, (ho.lower hb).above hp.kept (Nat.le_refl _), fun k hk => (h.ea k hk).above hp.kept (Nat.le_refl _), fun k hk => (h.ea k hk).above hp.kept (Nat.le_refl _), by rw [hf]; exact h.sr.sync, hp.low h.low⟩
theorem SureM.synced (h : SureM D n w w1 A c M a s) {A2 : Option Addr} {c2 : Nat} {M2 : List Fc} {base : Nat} (ho : OwnD w1 base 43 5 (.slice A2 M2.length c2) M2) (hb : D + 3 ≤ base) (hf : M2.map Fc.fi = (M.map Fc.fi).map Dk.syn1) :
    SureM D n w ((((((w1.setCell ⟨D, 0, none⟩ (.int .i64 4096)).setCell ⟨D, 1, none⟩ (.slice A2 M2.length c2)).setCell ⟨D + 1, 0, none⟩ (sv (a 0))).setCell ⟨D + 1, 1, none⟩ (sv (a 1))).setCell ⟨D + 1, 2, none⟩ (sv (a 2))).setCell ⟨D + 1, 3, none⟩ (sv (a 3))).drew A2 c2 M2 a a := by
  have hn := h.hn
  have p0 : D < D + 3 := by omega
  have p1 : D + 1 < D + 3 := by omega
  have p2 : D ≤ D + 1 := by omega
  have e1 : D + 1 ≠ D := by omega
  have e2 : D + 1 + 1 ≠ D := by omega
  have e3 : D + 1 + 1 ≠ D + 1 := by omega
  have e4 : D ≠ D + 1 := by omega
  refine SureM.drew (h.sync ((((((((Put3.refl D n w1).put hn (Nat.le_refl _) p0 _).put hn (Nat.le_refl _) p0 _).put hn p2 p1 _).put hn p2 p1 _).put hn p2 p1 _).put hn p2 p1 _)) ho hb hf ?_ ?_ ?_)
  · exact (((((((h.d.put 0 _).put 1 _).far (p := ⟨D + 1, 0, none⟩) e4 _).far (p := ⟨D + 1, 1, none⟩) e4 _).far (p := ⟨D + 1, 2, none⟩) e4 _).far (p := ⟨D + 1, 3, none⟩) e4 _))
  · exact ((((((h.su.far (p := ⟨D, 0, none⟩) e1 _).far (p := ⟨D, 1, none⟩) e1 _).put 0 (sv (a 0))).put 1 (sv (a 1))).put 2 (sv (a 2))).put 3 (sv (a 3)))
  · exact ((((((h.al.far (p := ⟨D, 0, none⟩) e2 _).far (p := ⟨D, 1, none⟩) e2 _).far (p := ⟨D + 1, 0, none⟩) e3 _).far (p := ⟨D + 1, 1, none⟩) e3 _).far (p := ⟨D + 1, 2, none⟩) e3 _).far (p := ⟨D + 1, 3, none⟩) e3 _)
/-- Bytes are appended: the disk is another one, one of all is another one. -/
theorem SureM.app (h : SureM D n w w1 A c M a s) {A2 : Option Addr} {c2 : Nat} {M2 : List Fc} {base k : Nat} {x : Fc} {b : List Int} (hp : Put3 D n w1 w2) (ho : OwnD w1 base 43 5 (.slice A2 M2.length c2) M2) (hb : D + 3 ≤ base) (hk : k < 4) (hl : (b.length : Int) ≤ 4096 - Dk.used (M.map Fc.fi))
    (hf : M2.map Fc.fi = (Dk.ins (M.map Fc.fi) (k : Int)).map (Dk.app1 (k : Int) b)) (hx : OwnB w2 (D + 3) 5 x) (hxl : x.l = (a k).l ++ b)
    (e0 : Blk w2 D 24 #[.int .i64 4096, .slice A2 M2.length c2]) (e1 : Blk w2 (D + 1) 46 (arrV s)) (e2 : Blk w2 (D + 1 + 1) 46 (arrV (put1 a k x))) : SureM D n w w2 A2 c2 M2 (put1 a k x) s := by
  refine ⟨h.hn, e0, e1, e2, (ho.lower hb).above hp.kept (Nat.le_refl _), fun j hj => ?_, fun j hj => (h.es j hj).above hp.kept (Nat.le_refl _), ?_, hp.low h.low⟩
  · unfold put1
    split
    · exact hx
    · exact (h.ea j hj).above hp.kept (Nat.le_refl _)
  · have h1 := h.sr.app hk hl
    rw [hf]
    have e : (fun j => (put1 a k x j).l) = (fun j => if j = k then (a k).l ++ b else (a j).l) := by
      funext j
      unfold put1
      split
      · exact hxl
      · rfl
    rw [e]
    exact h1
theorem Put3.later {w2 : World} (h : Put3 D n w w1) (hn : n ≤ w1.heap.size) (hb : Below w1.heap.size w1 w2) : Put3 D n w w2 :=
  ⟨fun hu => (h.low hu).trans (hb.mono hn), Nat.le_trans h.kept.size hb.size, fun k hk ho => (hb.block k (by have := h.kept.size; omega)).trans (h.kept.same k hk ho)⟩
/-- The disk is another one; then, in memory that is new, all of one file; then this is stored. -/
theorem SureM.appended (h : SureM D n w w1 A c M a s) {A2 : Option Addr} {c2 : Nat} {M2 : List Fc} {base k : Nat} {b : List Int} (ho : OwnD w1 base 43 5 (.slice A2 M2.length c2) M2) (hb : D + 3 ≤ base) (hk : k < 4) (hl : (b.length : Int) ≤ 4096 - Dk.used (M.map Fc.fi))
    (hf : M2.map Fc.fi = (Dk.ins (M.map Fc.fi) (k : Int)).map (Dk.app1 (k : Int) b)) (hbb : ∀ y ∈ b, isB y) {W5 : World} (hb5 : Below ((w1.setCell ⟨D, 0, none⟩ (.int .i64 4096)).setCell ⟨D, 1, none⟩ (.slice A2 M2.length c2)).heap.size ((w1.setCell ⟨D, 0, none⟩ (.int .i64 4096)).setCell ⟨D, 1, none⟩ (.slice A2 M2.length c2)) W5) {X : Option Addr} {cx : Nat}
    (hr : W5.ownsRow ((w1.setCell ⟨D, 0, none⟩ (.int .i64 4096)).setCell ⟨D, 1, none⟩ (.slice A2 M2.length c2)).heap.size 5 1 (.slice X ((a k).l.length + b.length) cx) ((a k).l.length + b.length) (bCells (a k).l ++ bCells b)) :
    SureM D n w (W5.setCell ⟨D + 1 + 1, k, none⟩ (.slice X ((a k).l.length + b.length) cx)) A2 c2 M2 (put1 a k ⟨0, X, cx, (a k).l ++ b, 0⟩) s ∧ W5.cell? ⟨D + 1 + 1, k, none⟩ = some (.slice (a k).X (a k).l.length (a k).c) ∧ W5.frozen? ⟨D + 1 + 1, k, none⟩ = false := by
  have hn := h.hn
  have hlt := h.lt
  have hsz : ((w1.setCell ⟨D, 0, none⟩ (.int .i64 4096)).setCell ⟨D, 1, none⟩ (.slice A2 M2.length c2)).heap.size = w1.heap.size := by simp
  have p0 : D < D + 3 := by omega
  have p1 : D + 1 + 1 < D + 3 := by omega
  have p2 : D ≤ D + 1 + 1 := by omega
  have e1 : D + 1 ≠ D := by omega
  have e2 : D + 1 + 1 ≠ D := by omega
  have e3 : D + 1 ≠ D + 1 + 1 := by omega
  have e4 : D ≠ D + 1 + 1 := by omega
  have hp := (((Put3.refl D n w1).put hn (Nat.le_refl _) p0 (p := ⟨D, 0, none⟩) (.int .i64 4096)).put hn (Nat.le_refl _) p0 (p := ⟨D, 1, none⟩) (.slice A2 M2.length c2)).later (by omega) hb5
  have d5 := Blk.later (((h.d.put 0 (.int .i64 4096)).put 1 (.slice A2 M2.length c2))) hb5
  have s5 := Blk.later ((h.su.far (p := ⟨D, 0, none⟩) e1 (.int .i64 4096)).far (p := ⟨D, 1, none⟩) e1 (.slice A2 M2.length c2)) hb5
  have a5 := Blk.later ((h.al.far (p := ⟨D, 0, none⟩) e2 (.int .i64 4096)).far (p := ⟨D, 1, none⟩) e2 (.slice A2 M2.length c2)) hb5
  have hkb : ∀ y ∈ (a k).l ++ b, isB y := fun y hy => (List.mem_append.1 hy).elim ((h.ea k hk).byte y) (hbb y)
  rw [← bCells_append, ← List.length_append] at hr
  rw [← List.length_append]
  have ob := (OwnB.of_own (f := ⟨0, X, cx, (a k).l ++ b, 0⟩) hr hkb).lower (base' := D + 3) (by omega)
  have hxb : (⟨0, X, cx, (a k).l ++ b, 0⟩ : Fc).blk ≠ some (D + 1 + 1) := ob.off a5 (by decide)
  have a6 := a5.put k (sv ⟨0, X, cx, (a k).l ++ b, 0⟩)
  rw [arrV_put a ⟨0, X, cx, (a k).l ++ b, 0⟩ k hk] at a6
  refine ⟨h.app (hp.put hn (p := ⟨D + 1 + 1, k, none⟩) p2 p1 _) ho hb hk hl hf (ob.far (p := ⟨D + 1 + 1, k, none⟩) hxb _) rfl (d5.far (p := ⟨D + 1 + 1, k, none⟩) e4 _) (s5.far (p := ⟨D + 1 + 1, k, none⟩) e3 _) a6, a5.cell (arrV_get a k hk), a5.free k⟩
/-- Files stay where a block of another kind is turned. -/
theorem OwnD.aside {w w' : World} {base : Nat} {t e : TypeId} {A : Option Addr} {N c g d : Nat} {cs : Array Value} {L : List Fc} (h : OwnD w base t e (.slice A N c) L) (hY : Blk w g d cs) (h1 : d ≠ t) (h2 : d ≠ e) (hs : ∀ b, b ≠ g → w'.heap[b]? = w.heap[b]?) : OwnD w' base t e (.slice A N c) L := by
  refine ⟨own_stays h.row fun k hk => hs k (fun e2 => ?_), fun f hf => (h.each f hf).stays fun k hk => hs k (fun e2 => ?_), h.apart⟩
  · subst e2
    rcases h.row.2 with ⟨hv, _⟩ | ⟨g', cap', cur', hv, _⟩
    · rw [hv] at hk; cases hk
    · have hr := h
      rw [hv] at hk hr
      have : g' = k := by injection hk
      subst this
      injection hv with _ h4 h5
      exact OwnD.off hr hY h1 rfl
  · subst e2
    exact (h.each f hf).off hY h2 hk
/-- What each operation of 'x, e := disk.Append(..)' leaves, where e is boxed behind it. -/
def SaF (B : Nat) (rm kr : Int) (fs2 : List Fi) (K : Nat → Value) : Nat → (Nat → Value) → World → Prop
  | 7, v, w => ∃ A2 c2 M2, v 7 = .tuple #[.agg #[.int .i64 rm, .slice A2 (List.length M2) c2], .int .i64 kr] ∧ OwnD w B 43 5 (.slice A2 M2.length c2) M2 ∧ M2.map Fc.fi = fs2
  | 8, v, w => ∃ A2 c2 M2, v 8 = .tuple #[.agg #[.int .i64 rm, .slice A2 (List.length M2) c2], .int .i64 kr] ∧ OwnD w B 43 5 (.slice A2 M2.length c2) M2 ∧ M2.map Fc.fi = fs2
  | 9, v, w => ∃ A2 c2 M2, v 9 = .agg #[.int .i64 rm, .slice A2 (List.length M2) c2] ∧ OwnD w B 43 5 (.slice A2 M2.length c2) M2 ∧ M2.map Fc.fi = fs2
  | 11, v, w => ∃ g u0 u1, v 11 = .pointer (some ⟨g, 0, none⟩) ∧ B ≤ g ∧ Blk w g 24 #[u0, u1]
  | 12, v, w => ∃ g A2 c2 M2, v 11 = .pointer (some ⟨g, 0, none⟩) ∧ B ≤ g ∧ Blk w g 24 #[.int .i64 rm, .slice A2 (List.length M2) c2] ∧ OwnD w B 43 5 (.slice A2 M2.length c2) M2 ∧ M2.map Fc.fi = fs2
  | i, v, _ => v i = K i
section
variable {B : Nat} {rm kr : Int} {fs2 : List Fi} {K : Nat → Value} {v : Nat → Value} {w' : World}
theorem SaF.loc {i k : Nat} {x : Value} (hk : k ≠ i) (h11 : i = 12 → k ≠ 11) (h : SaF B rm kr fs2 K i v w) : SaF B rm kr fs2 K i (upd v k x) w := by
  unfold SaF at h ⊢
  split at h <;> first
    | (rw [upd_other v k x (fun e => hk e.symm)]; exact h)
    | (rw [upd_other v k x (fun e => h11 rfl e.symm)]; exact h)
theorem SaF.later (hb : Below w.heap.size w w') {i : Nat} (h : SaF B rm kr fs2 K i v w) : SaF B rm kr fs2 K i v w' := by
  unfold SaF at h ⊢
  split at h
  · obtain ⟨A2, c2, M2, h1, h2, h3⟩ := h; exact ⟨A2, c2, M2, h1, h2.later hb, h3⟩
  · obtain ⟨A2, c2, M2, h1, h2, h3⟩ := h; exact ⟨A2, c2, M2, h1, h2.later hb, h3⟩
  · obtain ⟨A2, c2, M2, h1, h2, h3⟩ := h; exact ⟨A2, c2, M2, h1, h2.later hb, h3⟩
  · obtain ⟨g, u0, u1, h1, h2, h3⟩ := h; exact ⟨g, u0, u1, h1, h2, h3.later hb⟩
  · obtain ⟨g, A2, c2, M2, h1, h2, h3, h4, h5⟩ := h; exact ⟨g, A2, c2, M2, h1, h2, h3.later hb, h4.later hb, h5⟩
  · exact h
theorem SaF.stored {g : Nat} {cs : Array Value} {u0 u1 : Value} (hY : Blk w g 24 cs) {i : Nat} (hi : i ≠ 12) (h : SaF B rm kr fs2 K i v w) : SaF B rm kr fs2 K i v ((w.setCell ⟨g, 0, none⟩ u0).setCell ⟨g, 1, none⟩ u1) := by
  have hs : ∀ b, b ≠ g → ((w.setCell ⟨g, 0, none⟩ u0).setCell ⟨g, 1, none⟩ u1).heap[b]? = w.heap[b]? := fun b hb => (Below.heap_setCell _ _ _ _ hb).trans (Below.heap_setCell _ _ _ _ hb)
  unfold SaF at h ⊢
  split at h
  · obtain ⟨A2, c2, M2, h1, h2, h3⟩ := h; exact ⟨A2, c2, M2, h1, h2.aside hY (by decide) (by decide) hs, h3⟩
  · obtain ⟨A2, c2, M2, h1, h2, h3⟩ := h; exact ⟨A2, c2, M2, h1, h2.aside hY (by decide) (by decide) hs, h3⟩
  · obtain ⟨A2, c2, M2, h1, h2, h3⟩ := h; exact ⟨A2, c2, M2, h1, h2.aside hY (by decide) (by decide) hs, h3⟩
  · obtain ⟨g2, v0, v1, h1, h2, h3⟩ := h
    by_cases e : g2 = g
    · subst e
      exact ⟨g2, u0, u1, h1, h2, (h3.put 0 u0).put 1 u1⟩
    · exact ⟨g2, v0, v1, h1, h2, (hs g2 e).trans h3⟩
  · exact absurd rfl hi
  · exact h
end
end
/-- What is known while 'all[k] = append(Copy(all[k]), data...)' goes on: the copy lies whole until it is appended to. -/
structure SaI (W : World) (K : Nat → Option Value) (l bl : List Int) (L : Nat → Bool) (v : Nat → Value) (w : World) : Prop where
  low : Below W.heap.size W w
  k : ∀ i x, K i = some x → L i = true → v i = x
  ord : L 10 = true → L 4 = true
  copy : L 4 = true → ∃ X c, v 4 = .slice X l.length c ∧ (L 10 = false → w.ownsRow W.heap.size 5 1 (.slice X l.length c) l.length (bCells l))
  app : L 10 = true → ∃ X c, v 10 = .slice X (l.length + bl.length) c ∧ w.ownsRow W.heap.size 5 1 (.slice X (l.length + bl.length) c) (l.length + bl.length) (bCells l ++ bCells bl)
section
variable {W w w' : World} {K : Nat → Option Value} {l bl : List Int} {L : Nat → Bool} {v : Nat → Value}
theorem SaI.start {n : Nat} (hn : 10 < n) (hK : ∀ i x, K i = some x → i < n) (L : Nat → Bool) (h : ∀ i, i < n → L i = false) : SaI W K l bl L v W.drew :=
  ⟨Below.drew (Below.refl _ _), (fun i x h1 h2 => by rw [h i (hK i x h1)] at h2; cases h2), (fun h1 => by rw [h 10 hn] at h1; cases h1), (fun h1 => by rw [h 4 (by omega)] at h1; cases h1), (fun h1 => by rw [h 10 hn] at h1; cases h1)⟩
theorem SaI.still (h : SaI W K l bl L v w) {i : Nat} {x : Value} (hK : K i = some x) (h4 : i ≠ 4) (h10 : i ≠ 10) : SaI W K l bl (fun j => if j = i then true else L j) (upd v i x) w := by
  refine ⟨h.low, fun j y hj hl => ?_, fun hl => ?_, fun hl => ?_, fun hl => ?_⟩
  · by_cases e : j = i
    · subst e; rw [upd_same]; rw [hK] at hj; injection hj
    · rw [upd_other v i x e]; rw [if_neg e] at hl; exact h.k j y hj hl
  · rw [if_neg (fun e => h10 e.symm)] at hl; rw [if_neg (fun e => h4 e.symm)]; exact h.ord hl
  · rw [if_neg (fun e => h4 e.symm)] at hl; rw [upd_other v i x (fun e => h4 e.symm), if_neg (fun e => h10 e.symm)]; exact h.copy hl
  · rw [if_neg (fun e => h10 e.symm)] at hl; rw [upd_other v i x (fun e => h10 e.symm)]; exact h.app hl
theorem SaI.copied (h : SaI W K l bl L v w) (hK4 : K 4 = none) (hun : L 4 = false) (hb : Below w.heap.size w w') {X : Option Addr} {c : Nat} (ho : w'.ownsRow w.heap.size 5 1 (.slice X l.length c) l.length (bCells l)) : SaI W K l bl (fun j => if j = 4 then true else L j) (upd v 4 (.slice X l.length c)) w' := by
  have hL : L 10 = false := by
    cases hl : L 10 with
    | false => rfl
    | true => rw [h.ord hl] at hun; cases hun
  have hs := h.low.size
  refine ⟨h.low.trans (hb.mono hs), fun j y hj hl => ?_, fun _ => rfl, fun _ => ⟨X, c, upd_same v 4 _, fun _ => own_base ho hs⟩, fun hl => ?_⟩
  · have e : j ≠ 4 := fun e => by subst e; rw [hK4] at hj; cases hj
    rw [upd_other v 4 _ e]; rw [if_neg e] at hl; exact h.k j y hj hl
  · rw [if_neg (by decide), hL] at hl; cases hl
theorem SaI.grown (h : SaI W K l bl L v w) (hK : K 10 = none) (h4 : L 4 = true) {X : Option Addr} {c : Nat} {y : Value} (hy : ∀ k, y.ownBlock = some k → W.heap.size ≤ k) (hg : w.grownBy w' y.ownBlock) (ho : w'.ownsRow W.heap.size 5 1 (.slice X (l.length + bl.length) c) (l.length + bl.length) (bCells l ++ bCells bl)) :
    SaI W K l bl (fun j => if j = 10 then true else L j) (upd v 10 (.slice X (l.length + bl.length) c)) w' := by
  refine ⟨h.low.grown hg h.low.size hy, fun j z hj hl => ?_, fun _ => by rw [if_neg (by decide)]; exact h4, fun _ => ?_, fun _ => ⟨X, c, upd_same v 10 _, ho⟩⟩
  · have e : j ≠ 10 := fun e => by subst e; rw [hK] at hj; cases hj
    rw [upd_other v 10 _ e]; rw [if_neg e] at hl; exact h.k j z hj hl
  · obtain ⟨X4, c4, h1, -⟩ := h.copy h4
    exact ⟨X4, c4, by rw [upd_other v 10 _ (by decide)]; exact h1, fun hl => by rw [if_pos rfl] at hl; cases hl⟩
end
/-- Behind the crash: what lies at D, D + 1, D + 2. -/
structure SureC (D n m : Nat) (w wr : World) (A : Option Addr) (c : Nat) (M : List Fc) (a s : Nat → Fc) : Prop where
  d : Blk wr D 24 #[.int .i64 4096, .slice A M.length c]
  su : Blk wr (D + 1) 46 (arrV s)
  al : Blk wr (D + 1 + 1) 46 (arrV a)
  one : OneD wr A c M
  ea : ∀ k, k < 4 → OneB wr (a k).X (a k).c (a k).l
  es : ∀ k, k < 4 → OneB wr (s k).X (s k).c (s k).l
  cr : Dk.Cr (M.map Fc.fi) (fun k => (a k).l) (fun k => (s k).l) m
  low : Below n w wr
  hn : n ≤ wr.heap.size
section
variable {D n m : Nat} {w w1 w2 wr : World} {A : Option Addr} {c : Nat} {M : List Fc} {a s : Nat → Fc}
theorem SureC.later (h : SureC D n m w wr A c M a s) (hb : Below wr.heap.size wr w1) : SureC D n m w w1 A c M a s :=
  ⟨h.d.later hb, h.su.later hb, h.al.later hb, h.one.later hb, fun k hk => (h.ea k hk).later hb, fun k hk => (h.es k hk).later hb, h.cr, h.low.trans (hb.mono h.hn), Nat.le_trans h.hn hb.size⟩
theorem SureM.crashed (h : SureM D n w w1 A c M a s) {A2 : Option Addr} {c2 : Nat} {M2 : List Fc} {base : Nat} (ho : OwnD w1 base 43 5 (.slice A2 M2.length c2) M2) (hb : D + 3 ≤ base) (hf : Dk.Cr (M2.map Fc.fi) (fun k => (a k).l) (fun k => (s k).l) m) :
    SureC D n m w ((w1.setCell ⟨D, 0, none⟩ (.int .i64 4096)).setCell ⟨D, 1, none⟩ (.slice A2 M2.length c2)) A2 c2 M2 a s := by
  have hn := h.hn
  have hlt := h.lt
  have p0 : D < D + 3 := by omega
  have e1 : D + 1 ≠ D := by omega
  have e2 : D + 1 + 1 ≠ D := by omega
  have hp := ((Put3.refl D n w1).put hn (Nat.le_refl _) p0 (p := ⟨D, 0, none⟩) (.int .i64 4096)).put hn (Nat.le_refl _) p0 (p := ⟨D, 1, none⟩) (.slice A2 M2.length c2)
  exact ⟨(h.d.put 0 (.int .i64 4096)).put 1 (.slice A2 M2.length c2), (h.su.far (p := ⟨D, 0, none⟩) e1 (.int .i64 4096)).far (p := ⟨D, 1, none⟩) e1 (.slice A2 M2.length c2), (h.al.far (p := ⟨D, 0, none⟩) e2 (.int .i64 4096)).far (p := ⟨D, 1, none⟩) e2 (.slice A2 M2.length c2),
    ((ho.lower hb).above hp.kept (Nat.le_refl _)).oneD, fun k hk => ((h.ea k hk).above hp.kept (Nat.le_refl _)).one, fun k hk => ((h.es k hk).above hp.kept (Nat.le_refl _)).one, hf, hp.low h.low, by simp; omega⟩
end
end Go.Proofs.Ytgjcpdcepmgafaa
namespace Go.Proofs.Ytgjcpdcepmgafaa
open Go.RowKit

set_option maxRecDepth 100000 in
set_option maxHeartbeats 6400000 in
theorem lawDiskSure_any (A : Option Addr) (c : Nat) (L : List De) (keep turn : Int) (w : World) (h : OneDe w A c L) (hk : 0 ≤ keep ∧ keep ≤ 65535) (ht : 0 ≤ turn ∧ turn ≤ 255) :
    Calls Try.prog 7 #[.slice A L.length c, .int .u16 keep, .int .u8 turn] w (Says (.bool true) w) := by
  have HD0 := Lib.hid h
  have hll := h.le
  have hcm := h.cap
  unfold maxLen at hcm
  clear h
  go_enter Try.func7, Try.ntmps7
  have NN := Lib.hid (dalive_any w)
  go_wp2_with fail
  refine NN.out.mono ?_
  clear NN
  rintro e x1 ⟨rfl, bz⟩
  have BB1 := Lib.hid bz
  clear bz
  by_cases h60 : 60 < L.length
  · have d60 : decide (60 < L.length) = true := decide_eq_true h60
    have d60' : decide ((60 : Int) < (L.length : Int)) = true := decide_eq_true (by omega)
    go_wp2
    go_ret
    exact ⟨rfl, BB1.out⟩
  · have d60 : decide (60 < L.length) = false := decide_eq_false h60
    have d60' : decide ((60 : Int) < (L.length : Int)) = false := decide_eq_false (by omega)
    go_wp2_with fail
    have INI := Lib.hid (SureM.start x1 BB1.out)
    obtain ⟨W0, hW0⟩ : ∃ W0, (((x1.alloc (.cells #[.int .i64 4096, .slice none 0 0] 24)).alloc (.cells #[.slice none 0 0, .slice none 0 0, .slice none 0 0, .slice none 0 0] 46)).alloc (.cells #[.slice none 0 0, .slice none 0 0, .slice none 0 0, .slice none 0 0] 46)) = W0 := ⟨_, rfl⟩
    rw [hW0] at INI ⊢
    clear hW0
    have HWD := Lib.hid BB1.out.size
    obtain ⟨D, hD⟩ : ∃ D, x1.heap.size = D := ⟨_, rfl⟩
    rw [hD] at INI HWD ⊢
    clear hD BB1 d60 d60'
    go_loopw [10] (fun s10 wr => ∃ (i : Nat) (V : Option Addr) (cv : Nat) (M : List Fc) (a s : Nat → Fc), i ≤ L.length ∧ s10 = .int .i64 (i : Int) ∧ SureM D w.heap.size w wr V cv M a s) (fun s10 _ => L.length - (intOf s10).toNat)
    case atStart => exact ⟨0, _, _, _, _, _, Nat.zero_le _, rfl, INI.out⟩
    case round =>
      obtain ⟨i, V, cv, M, a, s, hi, rfl, hS⟩ := hrel
      clear INI
      have HS := Lib.hid hS
      have hwlt := hS.lt
      by_cases hil : i < L.length
      · have hne : L ≠ [] := fun e => by subst e; simp at hil
        obtain ⟨b, off, hA, hc⟩ := HD0.out.at hne
        obtain ⟨x, hx⟩ : ∃ x, L[i]? = some x := ⟨L[i], List.getElem?_eq_getElem hil⟩
        obtain ⟨u0, u1, u2⟩ := hc i x hx
        have e0 := cell_later hS.low u0
        have e1 := cell_later hS.low u1
        have e2 := cell_later hS.low u2
        have XO := Lib.hid ((HD0.out.later hS.low).each x (List.mem_of_getElem? hx))
        have EVER := Lib.hid (fun (w' : World) (hb : Below w.heap.size w w') => And.intro (cell_later hb u2) ((HD0.out.each x (List.mem_of_getElem? hx)).later hb))
        clear u0 u1 u2
        subst hA
        have hi0 : (0 : Int) ≤ (i : Int) := by omega
        have hi1 : (i : Int) < (L.length : Int) := by omega
        have d0 := hS.d.cell (i := 0) rfl
        have d1 := hS.d.cell (i := 1) rfl
        clear hS hc hne hx
        cases hsy : x.sync with
        | true =>
          rw [hsy] at e0
          clear hsy
          have SY := dsync_any 4096 V cv M _ HS.out.own.oneD
          rw [show Dk.synR 4096 (M.map Fc.fi) = (4096, (M.map Fc.fi).map Dk.syn1, 0) from by unfold Dk.synR; rw [if_pos HS.out.sr.fm]] at SY
          have NN := Lib.hid SY
          clear SY
          go_wp2_with fail
          refine NN.out.mono ?_
          clear NN
          intro e w1 h
          obtain ⟨A2, c2, M2, rfl, hO, hf, b1⟩ := h.open
          clear h
          have HS1 := Lib.hid (HS.out.later b1)
          have HO := Lib.hid hO; have HF := Lib.hid hf
          clear hO hf d0 d1 e0 e1 e2
          go_upto_region 15 with (fail)
          obtain ⟨W1, hW1⟩ : ∃ W1, w1.alloc (.cells #[.int .i64 4096, .slice A2 M2.length c2] 24) = W1 := ⟨_, rfl⟩
          rw [hW1]
          have b2 := below_new (Below.refl w1.heap.size w1) (.cells #[.int .i64 4096, .slice A2 M2.length c2] 24)
          have xb := Blk.new w1 24 #[.int .i64 4096, .slice A2 M2.length c2]
          rw [hW1] at b2 xb
          have hS2 := HS1.out.later b2
          have HO2 := Lib.hid (HO.out.later b2)
          have x0 := xb.cell (i := 0) rfl
          have x1 := xb.cell (i := 1) rfl
          have q0 := hS2.d.cell (i := 0) rfl
          have q1 := hS2.d.cell (i := 1) rfl
          have qf0 := hS2.d.free 0
          have qf1 := hS2.d.free 1
          have s0 : W1.cell? ⟨D + 1, 0, none⟩ = some (.slice (s 0).X (s 0).l.length (s 0).c) := hS2.su.cell (i := 0) rfl
          have s1 : W1.cell? ⟨D + 1, 1, none⟩ = some (.slice (s 1).X (s 1).l.length (s 1).c) := hS2.su.cell (i := 1) rfl
          have s2 : W1.cell? ⟨D + 1, 2, none⟩ = some (.slice (s 2).X (s 2).l.length (s 2).c) := hS2.su.cell (i := 2) rfl
          have s3 : W1.cell? ⟨D + 1, 3, none⟩ = some (.slice (s 3).X (s 3).l.length (s 3).c) := hS2.su.cell (i := 3) rfl
          have sf0 := hS2.su.free 0
          have sf1 := hS2.su.free 1
          have sf2 := hS2.su.free 2
          have sf3 := hS2.su.free 3
          have a0 : W1.cell? ⟨D + 1 + 1, 0, none⟩ = some (.slice (a 0).X (a 0).l.length (a 0).c) := hS2.al.cell (i := 0) rfl
          have a1 : W1.cell? ⟨D + 1 + 1, 1, none⟩ = some (.slice (a 1).X (a 1).l.length (a 1).c) := hS2.al.cell (i := 1) rfl
          have a2 : W1.cell? ⟨D + 1 + 1, 2, none⟩ = some (.slice (a 2).X (a 2).l.length (a 2).c) := hS2.al.cell (i := 2) rfl
          have a3 : W1.cell? ⟨D + 1 + 1, 3, none⟩ = some (.slice (a 3).X (a 3).l.length (a 3).c) := hS2.al.cell (i := 3) rfl
          have FIN := Lib.hid (SureM.synced hS2 HO2.out (show D + 3 ≤ wr.heap.size from hwlt) HF.out)
          clear hW1 b2 xb hS2 HO HO2 HF HS1 HS
          go_region
          all_goals
            go_wp2_with fail
            go_roundw
            case rel => exact ⟨i + 1, A2, c2, M2, a, a, by omega, by first | rfl | go_num, FIN.out⟩
            case measure => simp [intOf]; omega
        | false =>
          rw [hsy] at e0
          clear hsy
          go_upto_region 17 with (fail)
          obtain ⟨kk, hk4, hkk⟩ := mod4 x.n
          rw [hkk]
          clear hkk
          obtain ⟨⟨rm, fs2, kr⟩, hR⟩ : ∃ r, Dk.appR 4096 (M.map Fc.fi) (kk : Int) x.l = r := ⟨_, rfl⟩
          have HR := Lib.hid hR
          have E2 := Lib.hid e2
          have D0 := Lib.hid d0
          have D1 := Lib.hid d1
          have EE0 := Lib.hid e0
          clear hR e0 e1 e2 d0 d1
          have CL := Lib.hid (fun (w' : World) (hb : Below wr.heap.size wr w') => (show Calls Try.prog 10 #[.agg #[.int .i64 4096, .slice V M.length cv], .int .i64 (kk : Int), .slice x.X x.l.length x.c] w' (GivesDE (rm, fs2, kr) w') from by
            have := dappend_any 4096 (kk : Int) V x.X cv x.c M x.l w' (HS.out.later hb).own.oneD (XO.out.later hb)
            rw [HR.out] at this
            exact this))
          refine wp_region_facts3 13 (by kernel_rfl) (by kernel_rfl)
            (fun v => { tmps := #[.slice (some ⟨b, off, none⟩) L.length c, .int .u16 keep, .int .u8 turn, undef, undef, undef, u6, .pointer (some ⟨D, 0, none⟩), .pointer (some ⟨D + 1, 0, none⟩), .pointer (some ⟨D + 1 + 1, 0, none⟩), .int .i64 (i : Int), u11, u12, .int .i64 (kk : Int), v 11, u15, undef, undef, undef, undef, undef, undef, .bool true, .bool false, .slice (some ⟨b, off, none⟩) L.length c, .int .i64 (L.length : Int), .bool false, .agg #[.int .i64 4096, .slice none 0 0], .agg #[.slice none 0 0, .slice none 0 0, .slice none 0 0, .slice none 0 0], .agg #[.slice none 0 0, .slice none 0 0, .slice none 0 0, .slice none 0 0], .int .i64 (i : Int), .slice (some ⟨b, off, none⟩) L.length c, .int .i64 (L.length : Int), .bool true, u34, u35, .slice (some ⟨b, off, none⟩) L.length c, .int .i64 (i : Int), .pointer (some ⟨b, off + i * 3, none⟩), .pointer (some ⟨b, off + i * 3, none⟩), .bool false, u41, u42, u43, u44, u45, u46, u47, u48, u49, .slice (some ⟨b, off, none⟩) L.length c, .int .i64 (i : Int), .pointer (some ⟨b, off + i * 3, none⟩), .pointer (some ⟨b, off + i * 3 + 1, none⟩), .int .i64 x.n, .int .u64 (IntKind.u64.wrap x.n), .int .u64 ((IntKind.u64.wrap x.n).tmod 4), .int .i64 (kk : Int), v 8, v 0, v 1, v 2, v 3, v 4, v 5, v 6, v 7, v 9, v 10, u69, u70, u71, u72, u73, u74, u75, u76, u77, u78, u79, u80, u81, u82, u83, u84, u85, u86, u87, u88, u89, u90, u91, u92, u93, u94, u95, undef, undef, undef, undef, undef, undef, undef, undef, undef, undef, undef, undef, undef, undef, undef, undef, undef, undef, undef, undef, undef, undef, undef, undef, undef, undef, undef, undef, undef, undef, undef, undef, undef, undef, undef, undef, undef, undef, undef, undef, undef, undef, undef, undef, undef, undef, undef, undef, undef, undef, undef, undef, undef, undef, undef, undef, undef, undef, undef, undef, undef, undef, undef, undef, undef, undef, undef, undef, undef, undef, undef, undef, undef, undef, undef, undef, undef, undef, undef, undef, undef, undef, undef, undef, undef, undef, undef], defers := [] }) (fun i_ => match i_ with | 0 => u59 | 1 => u60 | 2 => u61 | 3 => u62 | 4 => u63 | 5 => u64 | 6 => u65 | 7 => u66 | 8 => u58 | 9 => u67 | 10 => u68 | 11 => u14 | _ => undef)
            (SaF wr.heap.size rm kr fs2 (fun i_ => match i_ with | 0 => .agg #[.int .i64 4096, .slice V M.length cv] | 1 => .int .i64 (kk : Int) | 2 => .slice (some ⟨b, off, none⟩) L.length c | 3 => .int .i64 (i : Int) | 4 => .pointer (some ⟨b, off + i * 3, none⟩) | 5 => .pointer (some ⟨b, off + i * 3 + 2, none⟩) | 6 => .slice x.X x.l.length x.c | 10 => .int .i64 kr | _ => undef))
            (fun w1 w2 => Below wr.heap.size w1 w2) (fun h1 h2 => h1.trans h2) (fun _ => Below.refl _ _) (Below.drew (Below.refl _ _)) ?loc ?step ?done
          case loc =>
            intro i_ k v x_ wx hk hd h
            exact SaF.loc hk (fun e h8 => by subst e; subst h8; exact hd (List.elem_iff.1 (by kernel_rfl))) h
          case step =>
            intro i_ hi_ v w' hb hd
            match i_, hi_ with
            | 0, _ =>
              refine wpOp_oneK rfl (fun KK hKK => ?_)
              have HKK := Lib.hid hKK
              clear hKK hd
              have q0 := cell_later (hb.mono (Nat.le_refl _)) D0.out
              have q1 := cell_later (hb.mono (Nat.le_refl _)) D1.out
              go_wp2
              exact HKK.out _ _ ⟨_, (by simp [upd]; done), Below.refl _ _, rfl, fun _ _ _ h => h⟩
            | 1, _ =>
              refine wpOp_oneK rfl (fun KK hKK => ?_)
              have HKK := Lib.hid hKK
              clear hKK hd
              go_wp2
              exact HKK.out _ _ ⟨_, (by simp [upd]; done), Below.refl _ _, rfl, fun _ _ _ h => h⟩
            | 2, _ =>
              refine wpOp_oneK rfl (fun KK hKK => ?_)
              have HKK := Lib.hid hKK
              clear hKK hd
              go_wp2
              exact HKK.out _ _ ⟨_, (by simp [upd]; done), Below.refl _ _, rfl, fun _ _ _ h => h⟩
            | 3, _ =>
              refine wpOp_oneK rfl (fun KK hKK => ?_)
              have HKK := Lib.hid hKK
              clear hKK hd
              go_wp2
              exact HKK.out _ _ ⟨_, (by simp [upd]; done), Below.refl _ _, rfl, fun _ _ _ h => h⟩
            | 4, _ =>
              have h2 : v 2 = .slice (some ⟨b, off, none⟩) L.length c := hd 2 (List.elem_iff.1 (by kernel_rfl))
              have h3 : v 3 = .int .i64 (i : Int) := hd 3 (List.elem_iff.1 (by kernel_rfl))
              refine wpOp_oneK rfl (fun KK hKK => ?_)
              have HKK := Lib.hid hKK
              clear hKK hd
              rw [h2, h3]
              go_wp2
              exact HKK.out _ _ ⟨_, (by simp [upd, h2, h3]; done), Below.refl _ _, rfl, fun _ _ _ h => h⟩
            | 5, _ =>
              have h4 : v 4 = .pointer (some ⟨b, off + i * 3, none⟩) := hd 4 (List.elem_iff.1 (by kernel_rfl))
              refine wpOp_oneK rfl (fun KK hKK => ?_)
              have HKK := Lib.hid hKK
              clear hKK hd
              rw [h4]
              go_wp2
              exact HKK.out _ _ ⟨_, (by simp [upd, h4]; done), Below.refl _ _, rfl, fun _ _ _ h => h⟩
            | 6, _ =>
              have h5 : v 5 = .pointer (some ⟨b, off + i * 3 + 2, none⟩) := hd 5 (List.elem_iff.1 (by kernel_rfl))
              refine wpOp_oneK rfl (fun KK hKK => ?_)
              have HKK := Lib.hid hKK
              clear hKK hd
              rw [h5]
              have q0 := cell_later (hb.mono (Nat.le_refl _)) E2.out
              go_wp2
              exact HKK.out _ _ ⟨_, (by simp [upd, h5]; done), Below.refl _ _, rfl, fun _ _ _ h => h⟩
            | 7, _ =>
              have h0 : v 0 = .agg #[.int .i64 4096, .slice V M.length cv] := hd 0 (List.elem_iff.1 (by kernel_rfl))
              have h1 : v 1 = .int .i64 (kk : Int) := hd 1 (List.elem_iff.1 (by kernel_rfl))
              have h6 : v 6 = .slice x.X x.l.length x.c := hd 6 (List.elem_iff.1 (by kernel_rfl))
              refine wpOp_oneK rfl (fun KK hKK => ?_)
              have HKK := Lib.hid hKK
              clear hKK hd
              rw [h0, h1, h6]
              have hsz := hb.size
              go_wp2_with fail
              refine (CL.out _ hb).mono ?_
              intro e w'' h
              obtain ⟨A2, c2, M2, rfl, hO, hf, b2⟩ := h.open
              clear h
              go_wp2
              exact HKK.out _ _ ⟨_, (by simp [upd, h0, h1, h6]; done), b2.mono hsz, ⟨A2, c2, M2, rfl, hO.lower hsz, hf⟩, fun _ _ _ h => h.later b2⟩
            | 8, _ =>
              have g7 : ∃ A2 c2 M2, v 7 = .tuple #[.agg #[.int .i64 rm, .slice A2 (List.length M2) c2], .int .i64 kr] ∧ OwnD w' wr.heap.size 43 5 (.slice A2 M2.length c2) M2 ∧ M2.map Fc.fi = fs2 := hd 7 (List.elem_iff.1 (by kernel_rfl))
              obtain ⟨A7, c7, M7, h7, o7, f7⟩ := g7
              refine wpOp_oneK rfl (fun KK hKK => ?_)
              have HKK := Lib.hid hKK
              clear hKK hd
              rw [h7]
              go_wp2
              exact HKK.out _ _ ⟨_, (by simp [upd, h7]; done), Below.refl _ _, ⟨A7, c7, M7, rfl, o7, f7⟩, fun _ _ _ h => h⟩
            | 9, _ =>
              have g8 : ∃ A2 c2 M2, v 8 = .tuple #[.agg #[.int .i64 rm, .slice A2 (List.length M2) c2], .int .i64 kr] ∧ OwnD w' wr.heap.size 43 5 (.slice A2 M2.length c2) M2 ∧ M2.map Fc.fi = fs2 := hd 8 (List.elem_iff.1 (by kernel_rfl))
              obtain ⟨A8, c8, M8, h8, o8, f8⟩ := g8
              refine wpOp_oneK rfl (fun KK hKK => ?_)
              have HKK := Lib.hid hKK
              clear hKK hd
              rw [h8]
              go_wp2
              exact HKK.out _ _ ⟨_, (by simp [upd, h8]; done), Below.refl _ _, ⟨A8, c8, M8, rfl, o8, f8⟩, fun _ _ _ h => h⟩
            | 10, _ =>
              have g8 : ∃ A2 c2 M2, v 8 = .tuple #[.agg #[.int .i64 rm, .slice A2 (List.length M2) c2], .int .i64 kr] ∧ OwnD w' wr.heap.size 43 5 (.slice A2 M2.length c2) M2 ∧ M2.map Fc.fi = fs2 := hd 8 (List.elem_iff.1 (by kernel_rfl))
              obtain ⟨A8, c8, M8, h8, o8, f8⟩ := g8
              refine wpOp_oneK rfl (fun KK hKK => ?_)
              have HKK := Lib.hid hKK
              clear hKK hd
              rw [h8]
              go_wp2
              exact HKK.out _ _ ⟨_, (by simp [upd, h8]; done), Below.refl _ _, rfl, fun _ _ _ h => h⟩
            | 11, _ =>
              refine wpOp_oneK rfl (fun KK hKK => ?_)
              have HKK := Lib.hid hKK
              clear hKK hd
              have hbn := below_new (Below.refl w'.heap.size w') (.cells #[.int .i64 0, .slice none 0 0] 24)
              have KK2 := Lib.hid (Blk.new w' 24 #[.int .i64 0, .slice none 0 0])
              have hsz := hb.size
              go_wp2
              exact HKK.out _ _ ⟨_, (by simp [upd]; done), hbn.mono hsz, ⟨w'.heap.size, _, _, rfl, hsz, KK2.out⟩, fun _ _ _ h => h.later hbn⟩
            | 12, _ =>
              have g9 : ∃ A2 c2 M2, v 9 = .agg #[.int .i64 rm, .slice A2 (List.length M2) c2] ∧ OwnD w' wr.heap.size 43 5 (.slice A2 M2.length c2) M2 ∧ M2.map Fc.fi = fs2 := hd 9 (List.elem_iff.1 (by kernel_rfl))
              obtain ⟨A9, c9, M9, h9, o9, f9⟩ := g9
              have g11 : ∃ g u0 u1, v 11 = .pointer (some ⟨g, 0, none⟩) ∧ wr.heap.size ≤ g ∧ Blk w' g 24 #[u0, u1] := hd 11 (List.elem_iff.1 (by kernel_rfl))
              obtain ⟨g, y0, y1, h11, l11, B11⟩ := g11
              refine wpOp_oneK rfl (fun KK hKK => ?_)
              have HKK := Lib.hid hKK
              clear hKK hd
              rw [h9, h11]
              have z0 := B11.cell (i := 0) rfl
              have z1 := B11.cell (i := 1) rfl
              have zf0 := B11.free 0
              have zf1 := B11.free 1
              have BB := Lib.hid B11
              have OO := Lib.hid o9
              have FF := Lib.hid f9
              clear B11 o9 f9
              go_wp2
              exact HKK.out _ _ ⟨undef, (by simp [upd, h9, h11]; done), ((Below.refl _ _).setCell l11 _).setCell l11 _, ⟨g, A9, c9, M9, h11, l11, (BB.out.put 0 _).put 1 _, OO.out.aside BB.out (by decide) (by decide) (fun b hb => (Below.heap_setCell _ _ _ _ hb).trans (Below.heap_setCell _ _ _ _ hb)), FF.out⟩, fun _ _ hj h => SaF.stored BB.out hj h⟩
            | k + 13, hk => exact absurd hk (by omega)
          case done =>
            intro vv w' hb2 hf
            have h10 : vv 10 = .int .i64 kr := hf 10 (by omega)
            have g12 : ∃ g A2 c2 M2, vv 11 = .pointer (some ⟨g, 0, none⟩) ∧ wr.heap.size ≤ g ∧ Blk w' g 24 #[.int .i64 rm, .slice A2 (List.length M2) c2] ∧ OwnD w' wr.heap.size 43 5 (.slice A2 M2.length c2) M2 ∧ M2.map Fc.fi = fs2 := hf 12 (by omega)
            obtain ⟨g, A2, c2, M2, h11, l11, B11, o9, f9⟩ := g12
            clear hf
            simp only [List.drop_succ_cons, List.drop_zero]
            rw [h10, h11]
            clear h10 h11
            have HS2 := Lib.hid (HS.out.later hb2)
            have HBW := Lib.hid hb2
            have HO := Lib.hid o9
            have HF := Lib.hid f9
            have HG := Lib.hid B11
            have HLG := Lib.hid l11
            have HD2 := Lib.hid (HD0.out.later (HS.out.low.trans (hb2.mono (by have := hwlt; have := HWD.out; omega))))
            clear o9 f9 B11 hb2 CL
            have r2 := Lib.hid (cell_later HBW.out E2.out)
            have r0 := Lib.hid (cell_later HBW.out EE0.out)
            have q0 := HS2.out.d.cell (i := 0) rfl
            have q1 := HS2.out.d.cell (i := 1) rfl
            by_cases hsp : (x.l.length : Int) > 4096 - Dk.used (M.map Fc.fi)
            · have hR7 : ((0 : Int), ([] : List Fi), (7 : Int)) = (rm, fs2, kr) := by rw [← HR.out]; unfold Dk.appR; rw [if_pos ⟨HS.out.sr.fm, decide_eq_true (by omega)⟩, if_pos hsp]
              injection hR7 with e1 e2
              injection e2 with e2 e3
              have e1 := e1.symm; have e2 := e2.symm; have e3 := e3.symm
              subst e1 e2 e3
              have UL := Lib.hid (fun d os => Lib.hid (Calls.regrown_of (dused_any 4096 V cv M (Sort.grow (redrawn w' d) os) (HS2.out.own.oneD.later (below_regrown w' d os)))))
              obtain ⟨u, hu⟩ : ∃ u, Dk.usd 4096 (M.map Fc.fi) = u := ⟨_, rfl⟩
              have hu2 : u = Dk.used (M.map Fc.fi) := by rw [← hu, Dk.usd_yes HS2.out.sr.fm]
              have hu3 : 0 ≤ u ∧ u ≤ 4096 := by rw [hu2]; exact ⟨Dk.used_nonneg _, (Dk.fmd_facts HS2.out.sr.fm).use⟩
              have hle : decide ((x.l.length : Int) ≤ 4096 - u) = false := decide_eq_false (by omega)
              have UL2 := UL.out
              rw [hu] at UL2
              have k0 := fun d os => cell_regrown (d := d) (os := os) q0
              have k1 := fun d os => cell_regrown (d := d) (os := os) q1
              have k2 := fun d os => cell_regrown (d := d) (os := os) r2.out
              clear hu2 hu UL q0 q1
              go_upto_region 19 with (fail)
              refine wp_region_quiet_below (by kernel_rfl) (by kernel_rfl) ?_
              repeat (first | go_big_quiet_step (with_reducible exact (UL2 _ _).out) | quiet_step (with_reducible exact (UL2 _ _).out))
              refine wpQuiet_nil ?_
              intro _ hw'
              obtain ⟨⟨dq, osq⟩, hw''⟩ := hw'
              subst hw''
              have HS3 := Lib.hid (HS2.out.later (below_regrown w' dq osq))
              clear k0 k1 k2 UL2
              go_wp2_with fail
              go_roundw
              case rel => exact ⟨i + 1, V, cv, M, a, s, by omega, by first | rfl | go_num, HS3.out⟩
              case measure => simp [intOf]; omega
            · have hR0 : ((4096 : Int), (Dk.ins (M.map Fc.fi) (kk : Int)).map (Dk.app1 (kk : Int) x.l), (0 : Int)) = (rm, fs2, kr) := by rw [← HR.out]; unfold Dk.appR; rw [if_pos ⟨HS.out.sr.fm, decide_eq_true (by omega)⟩, if_neg hsp]
              injection hR0 with e1 e2
              injection e2 with e2 e3
              have e1 := e1.symm; have e2 := e2.symm; have e3 := e3.symm
              subst e1 e2 e3
              have hsp := Int.not_lt.1 hsp
              have qf0 := HS2.out.d.free 0
              have qf1 := HS2.out.d.free 1
              have g0 := HG.out.cell (i := 0) rfl
              have g1 := HG.out.cell (i := 1) rfl
              go_upto_region 24 with (fail)
              have hwn := Lib.hid (show D + 3 ≤ wr.heap.size from hwlt)
              have APP := Lib.hid (fun (W5 : World) (X : Option Addr) (cx : Nat) hb5 hr => SureM.appended HS2.out HO.out hwn.out hk4 hsp HF.out XO.out.byte (W5 := W5) (X := X) (cx := cx) hb5 hr)
              have hb4 := (HS2.out.low.setCell (p := ⟨D, 0, none⟩) (by exact HWD.out) (.int .i64 4096)).setCell (p := ⟨D, 1, none⟩) (by exact HWD.out) (.slice A2 M2.length c2)
              have ak := ((HS2.out.al.far (p := ⟨D, 0, none⟩) (show D + 1 + 1 ≠ D by omega) (.int .i64 4096)).far (p := ⟨D, 1, none⟩) (show D + 1 + 1 ≠ D by omega) (.slice A2 M2.length c2)).cell (i := kk) (arrV_get a kk hk4)
              have oa := (HS2.out.ea kk hk4).above (Put3.put (Put3.put (Put3.refl D w.heap.size w') HS2.out.hn (Nat.le_refl D) (show D < D + 3 by omega) (p := ⟨D, 0, none⟩) (.int .i64 4096)) HS2.out.hn (Nat.le_refl D) (show D < D + 3 by omega) (p := ⟨D, 1, none⟩) (.slice A2 M2.length c2)).kept (Nat.le_refl _)
              have hal := HS2.out.sr.le hk4
              obtain ⟨W4, hW4⟩ : ∃ W4, (w'.setCell ⟨D, 0, none⟩ (.int .i64 4096)).setCell ⟨D, 1, none⟩ (.slice A2 M2.length c2) = W4 := ⟨_, rfl⟩
              rw [hW4] at APP hb4 ak oa ⊢
              have AK := Lib.hid (show W4.cell? ⟨D + 1 + 1, kk, none⟩ = some (.slice (a kk).X (a kk).l.length (a kk).c) from ak)
              have OA := Lib.hid oa.one
              have EV := Lib.hid (EVER.out W4 hb4)
              have HB4 := Lib.hid hb4
              have hal1 : (a kk).l.length ≤ 4096 := hal.1
              have hxl : (x.l.length : Int) ≤ 4096 := by have := Dk.used_nonneg (M.map Fc.fi); omega
              have hkk0 : (0 : Int) ≤ (kk : Int) := by omega
              have hkk4 : (kk : Int) < 4 := by omega
              obtain ⟨i0, hI, hz0, hz1, hz2⟩ := info_parts infoBy
              clear hW4 ak oa hal hb4 qf0 qf1 g0 g1 q0 q1 hsp HS HS2 HO HF HG HLG HR E2 D0 D1 EE0 r2 r0 HBW
              refine wp_region_gen 11 (by kernel_rfl) (by kernel_rfl)
                (fun v => { tmps := #[.slice (some ⟨b, off, none⟩) L.length c, .int .u16 keep, .int .u8 turn, undef, undef, undef, u6, .pointer (some ⟨D, 0, none⟩), .pointer (some ⟨D + 1, 0, none⟩), .pointer (some ⟨D + 1 + 1, 0, none⟩), .int .i64 (i : Int), u11, u12, .int .i64 (kk : Int), .pointer (some ⟨g, 0, none⟩), .int .i64 0, undef, undef, undef, undef, undef, undef, .bool true, .bool false, .slice (some ⟨b, off, none⟩) L.length c, .int .i64 (L.length : Int), .bool false, .agg #[.int .i64 4096, .slice none 0 0], .agg #[.slice none 0 0, .slice none 0 0, .slice none 0 0, .slice none 0 0], .agg #[.slice none 0 0, .slice none 0 0, .slice none 0 0, .slice none 0 0], .int .i64 (i : Int), .slice (some ⟨b, off, none⟩) L.length c, .int .i64 (L.length : Int), .bool true, u34, u35, .slice (some ⟨b, off, none⟩) L.length c, .int .i64 (i : Int), .pointer (some ⟨b, off + i * 3, none⟩), .pointer (some ⟨b, off + i * 3, none⟩), .bool false, u41, u42, u43, u44, u45, u46, u47, u48, u49, .slice (some ⟨b, off, none⟩) L.length c, .int .i64 (i : Int), .pointer (some ⟨b, off + i * 3, none⟩), .pointer (some ⟨b, off + i * 3 + 1, none⟩), .int .i64 x.n, .int .u64 (IntKind.u64.wrap x.n), .int .u64 ((IntKind.u64.wrap x.n).tmod 4), .int .i64 (kk : Int), vv 8, vv 0, vv 1, vv 2, vv 3, vv 4, vv 5, vv 6, vv 7, vv 9, .int .i64 0, .int .i64 0, .bool false, u71, u72, u73, u74, u75, u76, u77, u78, u79, u80, .int .i64 0, .bool false, .agg #[.int .i64 4096, .slice A2 M2.length c2], v 0, v 1, v 2, v 3, v 4, v 5, v 6, v 7, v 8, v 9, v 10, u95, undef, undef, undef, undef, undef, undef, undef, undef, undef, undef, undef, undef, undef, undef, undef, undef, undef, undef, undef, undef, undef, undef, undef, undef, undef, undef, undef, undef, undef, undef, undef, undef, undef, undef, undef, undef, undef, undef, undef, undef, undef, undef, undef, undef, undef, undef, undef, undef, undef, undef, undef, undef, undef, undef, undef, undef, undef, undef, undef, undef, undef, undef, undef, undef, undef, undef, undef, undef, undef, undef, undef, undef, undef, undef, undef, undef, undef, undef, undef, undef, undef, undef, undef, undef, undef, undef, undef], defers := [] }) (fun i_ => match i_ with | 0 => u84 | 1 => u85 | 2 => u86 | 3 => u87 | 4 => u88 | 5 => u89 | 6 => u90 | 7 => u91 | 8 => u92 | 9 => u93 | 10 => u94 | _ => undef)
                (SaI W4 (fun i_ => match i_ with | 0 => some (.int .i64 (kk : Int)) | 1 => some (.int .i64 (kk : Int)) | 2 => some (.pointer (some ⟨D + 1 + 1, kk, none⟩)) | 3 => some (.slice (a kk).X (a kk).l.length (a kk).c) | 5 => some (.slice (some ⟨b, off, none⟩) L.length c) | 6 => some (.int .i64 (i : Int)) | 7 => some (.pointer (some ⟨b, off + i * 3, none⟩)) | 8 => some (.pointer (some ⟨b, off + i * 3 + 2, none⟩)) | 9 => some (.slice x.X x.l.length x.c) | _ => none) (a kk).l x.l) ?start ?step ?done
              case start =>
                intro L_ hL
                refine SaI.start (n := 11) (by decide) (fun i_ x_ h => ?_) L_ hL
                match i_, h with
                | 0, _ => exact by decide
                | 1, _ => exact by decide
                | 2, _ => exact by decide
                | 3, _ => exact by decide
                | 4, _ => exact by decide
                | 5, _ => exact by decide
                | 6, _ => exact by decide
                | 7, _ => exact by decide
                | 8, _ => exact by decide
                | 9, _ => exact by decide
                | 10, _ => exact by decide
                | k + 11, h => cases h
              case step =>
                intro i_ hi_ L_ v w5 hI5 hun hd
                match i_, hi_ with
                | 0, _ =>
                  have ST := Lib.hid (hI5.still (i := 0) (x := .int .i64 (kk : Int)) rfl (by decide) (by decide))
                  refine wpOp_oneK rfl (fun KK hKK => ?_)
                  have HKK := Lib.hid hKK
                  clear hKK hd hI5
                  go_wp2
                  exact HKK.out _ _ ⟨_, (by simp [upd]; done), ST.out⟩
                | 1, _ =>
                  have ST := Lib.hid (hI5.still (i := 1) (x := .int .i64 (kk : Int)) rfl (by decide) (by decide))
                  refine wpOp_oneK rfl (fun KK hKK => ?_)
                  have HKK := Lib.hid hKK
                  clear hKK hd hI5
                  go_wp2
                  exact HKK.out _ _ ⟨_, (by simp [upd]; done), ST.out⟩
                | 2, _ =>
                  have l1 : L_ 1 = true := hd 1 (List.elem_iff.1 (by kernel_rfl))
                  have h1 : v 1 = .int .i64 (kk : Int) := hI5.k 1 _ rfl l1
                  have ST := Lib.hid (hI5.still (i := 2) (x := .pointer (some ⟨D + 1 + 1, kk, none⟩)) rfl (by decide) (by decide))
                  refine wpOp_oneK rfl (fun KK hKK => ?_)
                  have HKK := Lib.hid hKK
                  clear hKK hd hI5
                  rw [h1]
                  go_wp2
                  exact HKK.out _ _ ⟨_, (by simp [upd, h1]; done), ST.out⟩
                | 3, _ =>
                  have l2 : L_ 2 = true := hd 2 (List.elem_iff.1 (by kernel_rfl))
                  have h2 : v 2 = .pointer (some ⟨D + 1 + 1, kk, none⟩) := hI5.k 2 _ rfl l2
                  have ST := Lib.hid (hI5.still (i := 3) (x := .slice (a kk).X (a kk).l.length (a kk).c) rfl (by decide) (by decide))
                  have q0 := cell_later hI5.low AK.out
                  refine wpOp_oneK rfl (fun KK hKK => ?_)
                  have HKK := Lib.hid hKK
                  clear hKK hd hI5
                  rw [h2]
                  go_wp2
                  exact HKK.out _ _ ⟨_, (by simp [upd, h2]; done), ST.out⟩
                | 4, _ =>
                  have l3 : L_ 3 = true := hd 3 (List.elem_iff.1 (by kernel_rfl))
                  have h3 : v 3 = .slice (a kk).X (a kk).l.length (a kk).c := hI5.k 3 _ rfl l3
                  have CP := Lib.hid (bcopy_any (a kk).X (a kk).c (a kk).l w5 (by omega) (OA.out.later hI5.low))
                  have ST := Lib.hid (fun (w6 : World) (X : Option Addr) (cx : Nat) hb ho => hI5.copied (w' := w6) rfl hun hb (X := X) (c := cx) ho)
                  refine wpOp_oneK rfl (fun KK hKK => ?_)
                  have HKK := Lib.hid hKK
                  clear hKK hd hI5
                  rw [h3]
                  go_wp2_with fail
                  refine CP.out.mono ?_
                  rintro e w6 ⟨v2, rfl, ho, hb⟩
                  obtain ⟨X, cx, rfl, -, -, -, -⟩ := own_form ho
                  have ST2 := Lib.hid (ST.out w6 X cx hb ho)
                  clear ho hb ST CP
                  go_wp2
                  exact HKK.out _ _ ⟨_, (by simp [upd, h3]; done), ST2.out⟩
                | 5, _ =>
                  have ST := Lib.hid (hI5.still (i := 5) (x := .slice (some ⟨b, off, none⟩) L.length c) rfl (by decide) (by decide))
                  refine wpOp_oneK rfl (fun KK hKK => ?_)
                  have HKK := Lib.hid hKK
                  clear hKK hd hI5
                  go_wp2
                  exact HKK.out _ _ ⟨_, (by simp [upd]; done), ST.out⟩
                | 6, _ =>
                  have ST := Lib.hid (hI5.still (i := 6) (x := .int .i64 (i : Int)) rfl (by decide) (by decide))
                  refine wpOp_oneK rfl (fun KK hKK => ?_)
                  have HKK := Lib.hid hKK
                  clear hKK hd hI5
                  go_wp2
                  exact HKK.out _ _ ⟨_, (by simp [upd]; done), ST.out⟩
                | 7, _ =>
                  have l5 : L_ 5 = true := hd 5 (List.elem_iff.1 (by kernel_rfl))
                  have h5 : v 5 = .slice (some ⟨b, off, none⟩) L.length c := hI5.k 5 _ rfl l5
                  have l6 : L_ 6 = true := hd 6 (List.elem_iff.1 (by kernel_rfl))
                  have h6 : v 6 = .int .i64 (i : Int) := hI5.k 6 _ rfl l6
                  have ST := Lib.hid (hI5.still (i := 7) (x := .pointer (some ⟨b, off + i * 3, none⟩)) rfl (by decide) (by decide))
                  refine wpOp_oneK rfl (fun KK hKK => ?_)
                  have HKK := Lib.hid hKK
                  clear hKK hd hI5
                  rw [h5, h6]
                  go_wp2
                  exact HKK.out _ _ ⟨_, (by simp [upd, h5, h6]; done), ST.out⟩
                | 8, _ =>
                  have l7 : L_ 7 = true := hd 7 (List.elem_iff.1 (by kernel_rfl))
                  have h7 : v 7 = .pointer (some ⟨b, off + i * 3, none⟩) := hI5.k 7 _ rfl l7
                  have ST := Lib.hid (hI5.still (i := 8) (x := .pointer (some ⟨b, off + i * 3 + 2, none⟩)) rfl (by decide) (by decide))
                  refine wpOp_oneK rfl (fun KK hKK => ?_)
                  have HKK := Lib.hid hKK
                  clear hKK hd hI5
                  rw [h7]
                  go_wp2
                  exact HKK.out _ _ ⟨_, (by simp [upd, h7]; done), ST.out⟩
                | 9, _ =>
                  have l8 : L_ 8 = true := hd 8 (List.elem_iff.1 (by kernel_rfl))
                  have h8 : v 8 = .pointer (some ⟨b, off + i * 3 + 2, none⟩) := hI5.k 8 _ rfl l8
                  have ST := Lib.hid (hI5.still (i := 9) (x := .slice x.X x.l.length x.c) rfl (by decide) (by decide))
                  have q0 := cell_later hI5.low EV.out.1
                  refine wpOp_oneK rfl (fun KK hKK => ?_)
                  have HKK := Lib.hid hKK
                  clear hKK hd hI5
                  rw [h8]
                  go_wp2
                  exact HKK.out _ _ ⟨_, (by simp [upd, h8]; done), ST.out⟩
                | 10, _ =>
                  have l4 : L_ 4 = true := hd 4 (List.elem_iff.1 (by kernel_rfl))
                  have l9 : L_ 9 = true := hd 9 (List.elem_iff.1 (by kernel_rfl))
                  have h9 : v 9 = .slice x.X x.l.length x.c := hI5.k 9 _ rfl l9
                  obtain ⟨X4, c4, h4, o4⟩ := hI5.copy l4
                  have od := o4 hun
                  have hbs := hI5.low.size
                  have ob := EV.out.2.later hI5.low
                  have hge := own_ge od
                  have ST := Lib.hid (fun (w6 : World) (X : Option Addr) (cx : Nat) hg ho => hI5.grown (w' := w6) rfl l4 (y := .slice X4 (a kk).l.length c4) hge hg (X := X) (c := cx) ho)
                  refine wpOp_oneK rfl (fun KK hKK => ?_)
                  have HKK := Lib.hid hKK
                  clear hKK hd hI5 o4
                  rw [h4, h9]
                  refine wpList_append_lies _ rfl _ _ 25 rfl W4.heap.size 5 i0 (.int .u8 0) 1 1 Try.underlying25 hI hz0 hz1 hz2 rfl (by decide) _ (a kk).l.length (bCells (a kk).l) rfl od x.X x.l.length x.c ob.noA (bCells x.l) rfl (by rw [bCells_length, Nat.mul_one]) ob.lies (bCells_one _) ?c3 ?c4 ?c5 ?_
                  case c3 => unfold maxLen; omega
                  case c4 => omega
                  case c5 => exact hbs
                  intro v2 w6 ho2 hg2 _
                  obtain ⟨X, cx, rfl, -, -, -, -⟩ := own_form ho2
                  have ST2 := Lib.hid (ST.out w6 X cx hg2 ho2)
                  clear ho2 hg2 od ob hge ST
                  go_wp2
                  exact HKK.out _ _ ⟨_, (by simp [upd, h4, h9]; done), ST2.out⟩
                | k + 11, hk => exact absurd hk (by omega)
              case done =>
                intro L_ v w5 hI5 hall
                have h0 : v 0 = .int .i64 (kk : Int) := hI5.k 0 _ rfl (hall 0 (by omega))
                obtain ⟨X, cx, h10, o10⟩ := hI5.app (hall 10 (by omega))
                have NX := Lib.hid (APP.out w5 X cx hI5.low o10)
                clear hI5 hall o10 APP
                simp only [List.drop_succ_cons, List.drop_zero]
                rw [h0, h10]
                have n1 := NX.out.2.1
                have n2 := NX.out.2.2
                go_wp2_with fail
                go_roundw
                case rel => exact ⟨i + 1, A2, c2, M2, _, s, by omega, by first | rfl | go_num, NX.out.1⟩
                case measure => simp [intOf]; omega
      · have hd : decide ((i : Int) < (L.length : Int)) = false := decide_eq_false (by omega)
        obtain ⟨fs', m, hcr, hCr⟩ := HS.out.sr.crash keep turn hk.1 ht
        have SY := dcrash_any 4096 keep turn V cv M _ HS.out.own.oneD (by omega)
        rw [hcr] at SY
        have NN := Lib.hid SY
        have HCR := Lib.hid hCr
        have q0 := HS.out.d.cell (i := 0) rfl
        have q1 := HS.out.d.cell (i := 1) rfl
        have hk0 := hk.1
        have hk1 := hk.2
        have ht0 := ht.1
        have ht1 := ht.2
        clear SY hcr hCr hS
        go_wp2_with fail
        refine NN.out.mono ?_
        clear NN
        intro e w1 h
        obtain ⟨A2, c2, M2, rfl, hO, hf, b1⟩ := h.open
        clear h q0 q1
        have HS1 := Lib.hid (HS.out.later b1)
        have CR2 := Lib.hid (HS1.out.crashed hO hwlt (m := m) (by rw [hf]; exact HCR.out))
        clear hO hf b1
        have q0 := HS1.out.d.cell (i := 0) rfl
        have q1 := HS1.out.d.cell (i := 1) rfl
        have qf0 := HS1.out.d.free 0
        have qf1 := HS1.out.d.free 1
        go_upto_region 26 with (fail)
        obtain ⟨W5, hW5⟩ : ∃ W5, (w1.setCell ⟨D, 0, none⟩ (.int .i64 4096)).setCell ⟨D, 1, none⟩ (.slice A2 M2.length c2) = W5 := ⟨_, rfl⟩
        rw [hW5] at CR2 ⊢
        clear hW5 q0 q1 qf0 qf1 HS1 HS HCR
        have q0 := CR2.out.d.cell (i := 0) rfl
        have q1 := CR2.out.d.cell (i := 1) rfl
        have FO := dformed_any 4096 A2 c2 M2 W5 CR2.out.one
        rw [CR2.out.cr.fm] at FO
        have NN := Lib.hid FO
        clear FO
        go_wp2_with fail
        refine NN.out.mono ?_
        clear NN
        rintro e w6 ⟨rfl, b6⟩
        have CR := Lib.hid (CR2.out.later b6)
        clear q0 q1 b6 CR2
        go_wp2_with fail
        go_loopw [17, 18] (fun s17 s18 wq => ∃ (k od : Nat), k ≤ 4 ∧ s17 = .int .i64 (od : Int) ∧ s18 = .int .i64 (k : Int) ∧ od ≤ 1 ∧ (k ≤ m → od = 0) ∧ SureC D w.heap.size m w wq A2 c2 M2 a s) (fun _ s18 _ => 4 - (intOf s18).toNat)
        case atStart => exact ⟨0, 0, by omega, rfl, rfl, by omega, fun _ => rfl, CR.out⟩
        case round =>
          obtain ⟨k, od, hk4, rfl, rfl, hod, hodk, hC⟩ := hrel
          have HC := Lib.hid hC
          have HODK := Lib.hid hodk
          by_cases hkl : k < 4
          · have q0 := hC.d.cell (i := 0) rfl
            have q1 := hC.d.cell (i := 1) rfl
            have hk0' : (0 : Int) ≤ (k : Int) := by omega
            have hk4' : (k : Int) < 4 := by omega
            have GT := dget_any 4096 (k : Int) A2 c2 M2 _ hC.one
            clear hC hodk
            cases hfd : Dk.fnd (k : Int) (M2.map Fc.fi) with
            | none =>
              rw [show Dk.getR 4096 (M2.map Fc.fi) (k : Int) = ([], 16) from by unfold Dk.getR; rw [if_pos HC.out.cr.fm, hfd]] at GT
              have hnil := HC.out.cr.non k hkl hfd
              have NN := Lib.hid GT
              clear GT hfd
              go_wp2_with fail
              refine NN.out.mono ?_
              clear NN
              rintro e w7 ⟨v, rfl, ho, -, b7⟩
              obtain ⟨Ab, cb, rfl, -, -, -, -⟩ := own_form ho
              have C7 := Lib.hid (HC.out.later b7)
              clear ho b7 HC q0 q1
              have ak : w7.cell? ⟨D + 1 + 1, k, none⟩ = some (.slice (a k).X 0 (a k).c) := by
                have := C7.out.al.cell (i := k) (arrV_get a k hkl)
                rw [this]
                unfold sv
                rw [show (a k).l = [] from hnil]
                rfl
              clear hnil
              go_wp2_with fail
              go_roundw
              case rel => exact ⟨k + 1, od, by omega, rfl, by first | rfl | go_num, hod, fun h => HODK.out (by omega), C7.out⟩
              case measure => simp [intOf]; omega
            | some f =>
              rw [show Dk.getR 4096 (M2.map Fc.fi) (k : Int) = (f.2.1, 0) from by unfold Dk.getR; rw [if_pos HC.out.cr.fm, hfd]] at GT
              obtain ⟨h1, h2, h3⟩ := HC.out.cr.has k f hkl hfd
              obtain ⟨bl, hbl⟩ : ∃ bl, f.2.1 = bl := ⟨_, rfl⟩
              rw [hbl] at GT h1 h2 h3
              have H1 := Lib.hid h1
              have H2 := Lib.hid h2
              have H3 := Lib.hid h3
              have NN := Lib.hid GT
              clear GT hfd hbl h1 h2 h3
              go_wp2_with fail
              refine NN.out.mono ?_
              clear NN
              rintro e w7 ⟨v, rfl, ho, hbb, b7⟩
              obtain ⟨Ab, cb, rfl, hO⟩ := OneB.of_own ho hbb
              have C7 := Lib.hid (HC.out.later b7)
              have OB := Lib.hid hO
              clear ho b7 HC q0 q1 hO hbb
              have ak := C7.out.al.cell (i := k) (arrV_get a k hkl)
              have sk := C7.out.su.cell (i := k) (arrV_get s k hkl)
              unfold sv at ak sk
              have h1 : (s k).l.length ≤ bl.length := H1.out
              have h2 : bl.length ≤ (a k).l.length := H2.out
              have d1 : decide ((bl.length : Int) < ((s k).l.length : Int)) = false := decide_eq_false (by omega)
              have d2 : decide (((a k).l.length : Int) < (bl.length : Int)) = false := decide_eq_false (by omega)
              have d1' : decide (bl.length < (s k).l.length) = false := decide_eq_false (by omega)
              have d2' : decide ((a k).l.length < bl.length) = false := decide_eq_false (by omega)
              go_wp2_with fail
              clear ak sk d1 d2 d1' d2'
              go_loopw [17, 21] (fun s17 s21 wq => ∃ (j od2 : Nat), j ≤ bl.length ∧ s17 = .int .i64 (od2 : Int) ∧ s21 = .int .i64 (j : Int) ∧ od2 ≤ 1 ∧ (k < m ∨ (k = m ∧ j < bl.length) → od2 = 0) ∧ SureC D w.heap.size m w wq A2 c2 M2 a s ∧ OneB wq Ab cb bl) (fun _ s21 _ => bl.length - (intOf s21).toNat)
              case atStart => exact ⟨0, od, by omega, rfl, rfl, hod, fun h => HODK.out (by omega), C7.out, OB.out⟩
              case round =>
                obtain ⟨j, od2, hjl, rfl, rfl, hod2, hodj, hC3, hO3⟩ := hrel
                have HODJ := Lib.hid hodj
                have hbc := hO3.len
                by_cases hj : j < bl.length
                · have hneb : bl ≠ [] := fun e => by have h4 := congrArg List.length e; rw [List.length_nil] at h4; omega
                  have hnea : (a k).l ≠ [] := fun e => by have h4 := congrArg List.length e; rw [List.length_nil] at h4; omega
                  obtain ⟨b2, off2, hX2, hcb⟩ := hO3.at hneb
                  obtain ⟨b3, off3, hX3, hca⟩ := (hC3.ea k hkl).at hnea
                  have x0 := hcb j hj
                  have y0 := hca j (by omega)
                  have hh := H3.out j hj
                  obtain ⟨xb, hxb⟩ : ∃ xb, bl.getD j 0 = xb := ⟨_, rfl⟩
                  obtain ⟨yb, hyb⟩ : ∃ yb, (a k).l.getD j 0 = yb := ⟨_, rfl⟩
                  rw [hxb] at x0 hh
                  rw [hyb] at y0 hh
                  have HH := Lib.hid hh
                  have ak := hC3.al.cell (i := k) (arrV_get a k hkl)
                  have sk := hC3.su.cell (i := k) (arrV_get s k hkl)
                  unfold sv at ak sk
                  rw [hX3] at ak
                  subst hX2
                  have hj0 : (0 : Int) ≤ (j : Int) := by omega
                  have hj1 : (j : Int) < (bl.length : Int) := by omega
                  have hj2 : (j : Int) < ((a k).l.length : Int) := by omega
                  have FA := Lib.hid (fun nq => hC3.later (below_drewN (Below.refl _ _) nq))
                  have FB := Lib.hid (fun nq => hO3.later (below_drewN (Below.refl _ _) nq))
                  clear hcb hca hxb hyb hh hX3 hneb hnea hC3 hO3 hodj
                  by_cases hxy : xb = yb
                  · subst hxy
                    have E1 : (xb == xb) = true := by simp
                    have E2 : (xb != xb) = false := by simp
                    go_upto_region 41 with (fail)
                    go_quiet (fail)
                    go_wp2_with fail
                    go_roundw
                    case rel => exact ⟨j + 1, od2, by omega, rfl, by first | rfl | go_num, hod2, fun h => HODJ.out (by omega), FA.out _, FB.out _⟩
                    case measure => simp [intOf]; omega
                  · have E1 : (xb == yb) = false := by simp [hxy]
                    have E2 : (xb != yb) = true := by simp [hxy]
                    obtain ⟨hkm, hsj, hjb⟩ := HH.out hxy
                    have HOD0 := Lib.hid (HODJ.out (.inr ⟨hkm, hj⟩))
                    have HKM := Lib.hid hkm
                    have HJB := Lib.hid hjb
                    have hsj2 : decide ((j : Int) < ((s k).l.length : Int)) = false := decide_eq_false (by omega)
                    have hsj3 : decide (j < (s k).l.length) = false := decide_eq_false (by omega)
                    have hq : (bl.length : Int) - 1 = (j : Int) := by omega
                    clear hkm hjb
                    go_upto_region 41 with (fail)
                    go_quiet (fail)
                    go_wp2_with fail
                    go_roundw
                    case rel => exact ⟨j + 1, od2 + 1, by omega, by first | rfl | go_num, by first | rfl | go_num, by have := HOD0.out; omega, fun h => by have h5 := HKM.out; have h6 := HJB.out; omega, FA.out _, FB.out _⟩
                    case measure => simp [intOf]; omega
                · have hd3 : decide ((j : Int) < (bl.length : Int)) = false := decide_eq_false (by omega)
                  have hd3' : decide (j < bl.length) = false := decide_eq_false hj
                  clear hodj
                  go_wp2_with fail
                  go_roundw
                  case rel => exact ⟨k + 1, od2, by omega, rfl, by first | rfl | go_num, hod2, fun h => HODJ.out (by omega), hC3⟩
                  case measure => simp [intOf]; omega
          · have hd : decide ((k : Int) < 4) = false := decide_eq_false (by omega)
            have hd' : decide (k < 4) = false := decide_eq_false (by omega)
            have hod1 : decide ((od : Int) ≤ 1) = true := decide_eq_true (by omega)
            have hod1' : decide (od ≤ 1) = true := decide_eq_true (by omega)
            have LOW := Lib.hid hC.low
            clear hC hodk HC HODK
            go_wp2
            go_ret
            exact ⟨rfl, LOW.out⟩
end Go.Proofs.Ytgjcpdcepmgafaa
namespace Go.Proofs.Ytgjcpdcepmgafaa
open Go.ChangeShapes Go.WideShapes Go.RowKit Go.Deep

set_option maxRecDepth 100000
section
variable {H : Type} {enc : TypeId × Value → H} {w : World}
theorem deBool : Try.prog.cellsOf 4 = 1 := by kernel_rfl
theorem deDeed : Try.prog.cellsOf 48 = 3 := by kernel_rfl
theorem de_deedE (fuel : Nat) (cs : List Value) (x : DataW H × List MemPlace) (h : DataW.trod enc Try.prog w 0 (fun _ => true) true fuel 48 cs = some x) : ∃ f : De, cs = deCells [f] ∧ OneB w f.X f.c f.l := by
  obtain ⟨y0, y1, y2, m, hx, hl, q0, q1, q2⟩ := trod_struct3 Try.underlying48 h
  rw [deDeed] at hl
  obtain ⟨a0, a1, a2, rfl⟩ := list3 hl
  dsimp only at q0 q1 q2
  rw [deBool] at q0
  rw [dkInt] at q1
  rw [dkLB] at q2
  obtain ⟨b, e0, _⟩ := DataW.trod_bool Try.underlying4 q0
  obtain ⟨n, e1, _, _⟩ := DataW.trod_int Try.underlying3 q1
  obtain ⟨X, c, l, e2, o1, _⟩ := dk_bytesE q2
  simp at e0 e1 e2
  subst e0 e1 e2
  exact ⟨⟨b, n, X, c, l⟩, rfl, o1⟩
theorem deCells_flat (l : List De) : l.flatMap (fun f => deCells [f]) = deCells l := by
  induction l with
  | nil => rfl
  | cons s r ih =>
    rw [List.flatMap_cons, ih]
    rfl
/-- A list of deeds. -/
theorem open_deeds {r : Reach} {b0 : Nat} {v : Value} {d : DataW H} {p : List MemPlace} (hv : Value.okWide Try.prog w r b0 44 v) (h : DataW.Trod enc Try.prog w 0 (fun _ => true) true 44 v d p) :
    ∃ (A : Option Addr) (c : Nat) (L : List De), v = .slice A L.length c ∧ OneDe w A c L := by
  obtain ⟨A, c, L, e1, h2, h3, h4, h5, h6, _⟩ := open_list (⟨false, 0, none, 0, []⟩ : De) (fun f => deCells [f]) (fun f => OneB w f.X f.c f.l) (size := 3) (fun _ => rfl) Try.underlying44 deDeed (by decide) (fun fuel cs x h => de_deedE fuel cs x h) hv h
  rw [deCells_flat] at h5
  exact ⟨A, c, L, e1, ⟨h2, h3, h4, h5, h6⟩⟩
end
end Go.Proofs.Ytgjcpdcepmgafaa
namespace Go.Proofs.Ytgjcpdcepmgafaa.diskSure
open Go.ChangeShapes Go.WideShapes Go.ChangeAt Go.RowKit

theorem cells : Try.prog.cellsOf 5 = 1 := by kernel_rfl
theorem own : ownKnob Try.prog.godebug = none := by kernel_rfl
theorem laidOut : laidOutB Try.prog = true := by kernel_rfl
theorem reads : ∀ t ∈ Try.f7.params.toList, Try.prog.readableRec t = true ∧ t < Try.prog.types.size := by
  intro t ht
  rw [Try.params7] at ht
  have : t = 44 ∨ t = 45 ∨ t = 5 := by simpa using ht
  rcases this with rfl | rfl | rfl <;> exact ⟨by kernel_rfl, of_decide_eq_true (by kernel_rfl)⟩

set_option maxRecDepth 100000 in
theorem lifted (os : Os) (started : os.Started) (H : Type) (enc : TypeId × Value → H) :
    ReturnsInHanded {} Try.checked os 7 .any (Rows.diskSureSpec.pre6 enc Try.prog Try.f7 Rows.diskSureRow.domain false) (Rows.diskSureSpec.post enc Try.prog Try.f7 false true false false) := by
  refine returnsInHanded_of_change (C := Try.checked) own started (by kernel_rfl) Try.func7
    (ChangeSpec.witness6 (enc := enc) (C := Try.checked) false ⟨#[], #[.slice none 0 0, .int .u16 0, .int .u8 0], []⟩ 8 (by kernel_rfl) (by kernel_rfl) (by kernel_rfl) (by kernel_rfl)) ?_
  intro W base args ds gs before hval0 hW _ _
  have hval : ∀ (j : Nat) t v, Try.f7.params[j]? = some t → args[j]? = some v → Value.okWide Try.prog W .any base t v := hval0
  have hW' := hW
  obtain ⟨p, q, hA0, hV, rfl, hfz, hnd⟩ := hW
  have hA : DataW.TrodAll enc Try.prog W 0 (fun _ => true) true Try.f7.params.toList args.toList ds p := hA0
  rw [Try.params7] at hA hval
  obtain ⟨v0, vs0, d0, ds0, p0, q0, hargs, rfl, rfl, h0, r0⟩ := trodAll_cons hA
  obtain ⟨v1, vs1, d1, ds1, p1, q1, rfl, rfl, rfl, h1, r1⟩ := trodAll_cons r0
  obtain ⟨v2, vs2, d2, ds2, p2, q2, rfl, rfl, rfl, h2, r2⟩ := trodAll_cons r1
  obtain ⟨rfl, rfl, rfl⟩ := trodAll_nil r2
  obtain rfl : args = #[v0, v1, v2] := by cases args; simp_all
  obtain ⟨rfl, rfl⟩ := trodVars_none hV
  obtain ⟨A0, c0, L0, rfl, o0⟩ := open_deeds (hval 0 44 v0 rfl rfl) h0
  obtain ⟨a1, rfl, rfl, rfl, w1⟩ := open_int Try.underlying45 (hval 1 45 v1 rfl rfl) h1
  have y1 : 0 ≤ a1 ∧ a1 ≤ 65535 := by
    have hb : IntKind.u16.min ≤ a1 ∧ a1 ≤ IntKind.u16.max := by simpa [Lit.wf] using w1
    have e1 : IntKind.u16.min = 0 := by decide
    have e2 : IntKind.u16.max = 65535 := by decide
    rw [e1, e2] at hb
    exact hb
  obtain ⟨a2, rfl, rfl, rfl, w2⟩ := open_int Try.underlying5 (hval 2 5 v2 rfl rfl) h2
  have y2 : 0 ≤ a2 ∧ a2 ≤ 255 := by
    have hb : IntKind.u8.min ≤ a2 ∧ a2 ≤ IntKind.u8.max := by simpa [Lit.wf] using w2
    have e1 : IntKind.u8.min = 0 := by decide
    have e2 : IntKind.u8.max = 255 := by decide
    rw [e1, e2] at hb
    exact hb
  clear hA0 hval0
  refine (lawDiskSure_any A0 c0 L0 a1 a2 W o0 y1 y2).mono fun e W' ⟨he, hg⟩ => ?_
  subst he
  exact ⟨_, rfl, law_post laidOut hW' rfl rfl (by kernel_rfl) Try.underlying4 reads hg⟩

theorem over : Rows.diskSureRow.holds Try.pinned (OpenSpec.ofChange Rows.diskSureSpec) :=
  OpenClaim.holds_of_wide 7 Try.f7 rfl rfl rfl rfl rfl rfl rfl ⟨rfl, rfl, rfl, rfl, rfl⟩ rfl rfl rfl rfl rfl (by kernel_rfl) Try.func7 (by kernel_rfl)
    (of_decide_eq_true (by kernel_rfl)) (by unfold Func.isWrapper; first | (rw [if_pos (by decide +kernel)]; kernel_rfl) | (rw [if_neg (by decide +kernel)]; exact ⟨rfl, rfl⟩))
    (fun os started H enc _ => lifted os started H enc)

/-- The statement. -/
theorem proved : Rows.DiskSureSaid :=
  over

end Go.Proofs.Ytgjcpdcepmgafaa.diskSure
