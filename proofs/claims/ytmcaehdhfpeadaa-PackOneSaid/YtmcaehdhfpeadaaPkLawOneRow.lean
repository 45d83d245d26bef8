/-
  The law PackOne's last way (a number and a row that are read), and all ways together. (Its last region is written by mkonerow.py.)
-/
import Derived.Test.YtmcaehdhfpeadaaPkLawOne
import Derived.Test.YtmcaehdhfpeadaaRegion
namespace Go.Proofs.Ytmcaehdhfpeadaa
open Go.RowKit

set_option maxHeartbeats 3200000 in
theorem lawPOne_row (SP : PackSpec) (A : Option Addr) (c : Nat) (l : List Int) (v0 k : Nat) (q : List Int) (j : Nat) (w : World) (hl : l.length + 10 ≤ 140737488355328) (h : OneB w A c l) (hn : Pk.num l = ((v0 : Int), (k : Int), 0)) (hk1 : 1 ≤ k) (hkl : k ≤ l.length) (hk9 : k ≤ 9) (hv : v0 ≤ 9223372036854775807)
    (hr : Pk.row l (l.length : Int) = (q, (j : Int), 0)) (hq : Pk.laid q = l.take j) (hj : j ≤ l.length) (hqb : ∀ x ∈ q, isB x) (hqj : q.length + 1 ≤ j) :
    Calls Try.prog 8 #[.slice A l.length c] w (Says (.bool true) w) := by
  have N0 := Lib.hid (fun wx => palive_any SP wx)
  have NN := Lib.hid (fun wx (hx : OneB wx A c l) => (show Calls Try.prog 16 #[.slice A l.length c] wx (Says (.tuple #[.int .i64 (v0 : Int), .int .i64 (k : Int), .int .i64 0]) wx) from by
    have k := SP.number A c l wx hx
    rw [hn] at k
    exact k))
  have NR := Lib.hid (fun wx (hx : OneB wx A c l) => (show Calls Try.prog 19 #[.slice A l.length c, .int .i64 (l.length : Int)] wx (GivesB3 q (j : Int) 0 wx) from by
    have k := SP.row A c l (l.length : Int) wx (by omega) hx
    rw [hr] at k
    exact k))
  have NA := Lib.hid (fun wx => (show Calls Try.prog 11 #[.slice none 0 0, .int .i64 (v0 : Int)] wx (AnsB2 (l.take k) 0 wx) from by
    have q := SP.appn none 0 [] (v0 : Int) wx (by omega) (by omega) (by simp) (OneB.nil wx)
    rw [show Pk.appn [] (v0 : Int) = (l.take k, 0) from by unfold Pk.appn; rw [if_neg (by omega), Int.toNat_natCast, Pk.num_back l h.byte v0 k hn]; rfl] at q
    exact q))
  have NP := Lib.hid (fun Y d wx (hx : OneB wx Y d q) => (show Calls Try.prog 21 #[.slice none 0 0, .slice Y q.length d] wx (AnsB (l.take j) wx) from by
    have k := SP.appr none 0 [] Y d q wx (by simp; omega) (OneB.nil wx) hx
    rw [List.nil_append, hq] at k
    exact k))
  obtain ⟨b, off, hA, -⟩ := h.at (fun e => by rw [e] at hkl; simp at hkl; omega)
  subst hA
  have hcap := h.le
  have hcm := h.cap
  unfold maxLen at hcm
  have same : ∀ i, i ≤ l.length → ∀ X d wx, OneB wx X d (l.take i) → OneB wx (some ⟨b, off, none⟩) c l → Calls Try.prog 15 #[.slice X i d, .slice (some ⟨b, off, none⟩) i c] wx fun e w' => e = .returned (.bool true) ∧ Below wx.heap.size wx w' := fun i hi X d wx h1 h2 => by
    have q := bsame_any X (some ⟨b, off, none⟩) d c (l.take i) (l.take i) wx h1 (h2.upto i hi)
    rw [decide_eq_true rfl] at q
    rwa [show (l.take i).length = i from by rw [List.length_take]; omega] at q
  have NS := Lib.hid (same k hkl)
  have NT := Lib.hid (same j hj)
  have H := Lib.hid h
  have d1 : decide ((k : Int) < 1) = false := decide_eq_false (by omega)
  have d2 : decide ((l.length : Int) < (k : Int)) = false := decide_eq_false (by omega)
  have d5 : decide (l.length < k) = false := decide_eq_false (by omega)
  have d3 : decide (9 < (k : Int)) = false := decide_eq_false (by omega)
  have d6 : decide (j ≤ l.length) = true := decide_eq_true (by omega)
  have d4 : decide ((j : Int) ≤ (l.length : Int)) = true := decide_eq_true (by omega)
  have HQ := Lib.hid hqb
  clear h hn hr same hq hqb
  go_enter Try.func8, Try.ntmps8
  go_wp2_with fail
  refine (N0.out _).mono ?_
  rintro e w1 ⟨rfl, b1⟩
  go_wp2_with fail
  refine (NN.out _ (H.out.later b1)).mono ?_
  rintro e w2 ⟨rfl, b2⟩
  have bb2 := below_on b1 b2
  go_wp2_with fail
  refine (NA.out _).mono ?_
  rintro e w3 ⟨X, d, rfl, hX, b3⟩
  have bb3 := below_on bb2 b3
  go_wp2_with fail
  refine (NS.out X d _ hX (H.out.later bb3)).mono ?_
  rintro e w4 ⟨rfl, b4⟩
  have bb4 := below_on bb3 b4
  clear hX
  go_wp2_with fail
  refine (NR.out _ (H.out.later bb4)).mono ?_
  rintro e w5 hg
  obtain ⟨Y, d', rfl, hY, b5⟩ := hg.one HQ.out
  have bb5 := below_on bb4 b5
  have HY := Lib.hid hY
  have JL := Lib.hid (show (l.take j).length = j from by rw [List.length_take]; omega)
  clear hY hg
  go_wp2_with fail
  refine wp_region_facts 12 (by kernel_rfl) (by kernel_rfl)
    (fun v => { tmps := #[Value.slice (some ⟨b, off, none⟩) l.length c, undef, Value.bool false, Value.int IntKind.i64 (v0 : Int), Value.int IntKind.i64 (k : Int), Value.int IntKind.i64 0, Value.slice X k d, Value.int IntKind.i64 0, Value.slice Y q.length d', Value.int IntKind.i64 (j : Int), Value.int IntKind.i64 0, Value.bool true, Value.bool false, Value.tuple #[Value.int IntKind.i64 (v0 : Int), Value.int IntKind.i64 (k : Int), Value.int IntKind.i64 0], Value.slice (some ⟨b, off, none⟩) l.length c, Value.tuple #[Value.int IntKind.i64 (v0 : Int), Value.int IntKind.i64 (k : Int), Value.int IntKind.i64 0], Value.int IntKind.i64 (v0 : Int), Value.int IntKind.i64 (k : Int), Value.int IntKind.i64 0, Value.int IntKind.i64 0, Value.bool true, Value.tuple #[Value.slice X k d, Value.int IntKind.i64 0], Value.int IntKind.i64 (v0 : Int), Value.tuple #[Value.slice X k d, Value.int IntKind.i64 0], Value.slice X k d, Value.int IntKind.i64 0, Value.int IntKind.i64 0, Value.bool false, Value.bool false, Value.int IntKind.i64 (k : Int), Value.bool false, Value.bool false, Value.bool false, Value.int IntKind.i64 (k : Int), Value.slice (some ⟨b, off, none⟩) l.length c, Value.int IntKind.i64 (l.length : Int), Value.bool false, Value.bool false, Value.bool false, Value.int IntKind.i64 (k : Int), Value.bool false, Value.bool false, Value.bool false, Value.slice X k d, Value.slice (some ⟨b, off, none⟩) l.length c, Value.int IntKind.i64 (k : Int), Value.slice (some ⟨b, off, none⟩) k c, Value.bool true, Value.bool false, Value.bool false, Value.tuple #[Value.slice Y q.length d', Value.int IntKind.i64 (j : Int), Value.int IntKind.i64 0], Value.slice (some ⟨b, off, none⟩) l.length c, Value.slice (some ⟨b, off, none⟩) l.length c, Value.int IntKind.i64 (l.length : Int), Value.tuple #[Value.slice Y q.length d', Value.int IntKind.i64 (j : Int), Value.int IntKind.i64 0], Value.slice Y q.length d', Value.int IntKind.i64 (j : Int), Value.int IntKind.i64 0, Value.int IntKind.i64 0, Value.bool false, undef, undef, undef, undef, undef, undef, undef, v 0, v 1, v 2, v 3, v 4, v 5, v 6, v 7, v 8, v 9, v 10, v 11], defers := [] }) (fun _ => undef)
    (fun i x wx => match i with
      | 0 => x = .int .i64 (j : Int)
      | 1 => x = .slice (some ⟨b, off, none⟩) l.length c
      | 2 => x = .int .i64 (l.length : Int)
      | 3 => x = .bool true
      | 4 => x = .bool true
      | 5 => x = .slice Y q.length d'
      | 6 => ∃ A e, x = .slice A j e ∧ OneB wx A e (l.take j)
      | 7 => x = .slice (some ⟨b, off, none⟩) l.length c
      | 8 => x = .int .i64 (j : Int)
      | 9 => x = .slice (some ⟨b, off, none⟩) j c
      | 10 => x = .bool true
      | 11 => x = .bool true
      | _ => True)
    (fun w1 w2 => Below w1.heap.size w1 w2) (fun h1 h2 => below_on h1 h2) (fun _ => Below.refl _ _) (Below.drew (Below.refl _ _)) ?stab ?step ?done
  case stab =>
    rintro i x w1 w2 h hb
    match i, h with
    | 0, h => exact h
    | 1, h => exact h
    | 2, h => exact h
    | 3, h => exact h
    | 4, h => exact h
    | 5, h => exact h
    | 6, h => obtain ⟨A, e, h1, h2⟩ := h; exact ⟨A, e, h1, h2.later hb⟩
    | 7, h => exact h
    | 8, h => exact h
    | 9, h => exact h
    | 10, h => exact h
    | 11, h => exact h
    | i + 12, _ => trivial
  case step =>
    intro i hi v w' hb hd
    match i, hi with
    | 0, _ =>
      refine wpOp_one rfl ?_
      clear hd
      go_wp2
      first | exact ⟨_, (by simp [upd]; done), Below.refl _ _, rfl⟩ | exact ⟨(by simp [upd]; done), Below.refl _ _⟩
    | 1, _ =>
      refine wpOp_one rfl ?_
      clear hd
      go_wp2
      first | exact ⟨_, (by simp [upd]; done), Below.refl _ _, rfl⟩ | exact ⟨(by simp [upd]; done), Below.refl _ _⟩
    | 2, _ =>
      have h1 : v 1 = _ := hd 1 (List.elem_iff.1 (by kernel_rfl))
      refine wpOp_one rfl ?_
      clear hd
      rw [h1]
      go_wp2
      first | exact ⟨_, (by simp [upd, h1]; done), Below.refl _ _, rfl⟩ | exact ⟨(by simp [upd, h1]; done), Below.refl _ _⟩
    | 3, _ =>
      have h0 : v 0 = _ := hd 0 (List.elem_iff.1 (by kernel_rfl))
      have h2 : v 2 = _ := hd 2 (List.elem_iff.1 (by kernel_rfl))
      refine wpOp_one rfl ?_
      clear hd
      rw [h0, h2]
      go_wp2
      first | exact ⟨_, (by simp [upd, h0, h2]; done), Below.refl _ _, rfl⟩ | exact ⟨(by simp [upd, h0, h2]; done), Below.refl _ _⟩
    | 4, _ =>
      have h3 : v 3 = _ := hd 3 (List.elem_iff.1 (by kernel_rfl))
      refine wpOp_one rfl ?_
      clear hd
      rw [h3]
      go_wp2
      first | exact ⟨_, (by simp [upd, h3]; done), Below.refl _ _, rfl⟩ | exact ⟨(by simp [upd, h3]; done), Below.refl _ _⟩
    | 5, _ =>
      have h4 : v 4 = _ := hd 4 (List.elem_iff.1 (by kernel_rfl))
      refine wpOp_one rfl ?_
      clear hd
      rw [h4]
      go_wp2
      first | exact ⟨_, (by simp [upd, h4]; done), Below.refl _ _, rfl⟩ | exact ⟨(by simp [upd, h4]; done), Below.refl _ _⟩
    | 6, _ =>
      have h4 : v 4 = _ := hd 4 (List.elem_iff.1 (by kernel_rfl))
      have h5 : v 5 = _ := hd 5 (List.elem_iff.1 (by kernel_rfl))
      refine wpOp_one rfl ?_
      clear hd
      rw [h4, h5]
      go_wp2_with fail
      refine (NP.out Y d' _ (HY.out.later hb)).mono ?_
      rintro e w'' hg
      obtain ⟨A, ca, rfl, ho, bb⟩ := hg
      rw [JL.out]
      go_wp2
      exact ⟨_, (by simp [upd, h4, h5]; done), bb, A, ca, rfl, ho⟩
    | 7, _ =>
      have h4 : v 4 = _ := hd 4 (List.elem_iff.1 (by kernel_rfl))
      refine wpOp_one rfl ?_
      clear hd
      rw [h4]
      go_wp2
      first | exact ⟨_, (by simp [upd, h4]; done), Below.refl _ _, rfl⟩ | exact ⟨(by simp [upd, h4]; done), Below.refl _ _⟩
    | 8, _ =>
      have h4 : v 4 = _ := hd 4 (List.elem_iff.1 (by kernel_rfl))
      refine wpOp_one rfl ?_
      clear hd
      rw [h4]
      go_wp2
      first | exact ⟨_, (by simp [upd, h4]; done), Below.refl _ _, rfl⟩ | exact ⟨(by simp [upd, h4]; done), Below.refl _ _⟩
    | 9, _ =>
      have h4 : v 4 = _ := hd 4 (List.elem_iff.1 (by kernel_rfl))
      have h7 : v 7 = _ := hd 7 (List.elem_iff.1 (by kernel_rfl))
      have h8 : v 8 = _ := hd 8 (List.elem_iff.1 (by kernel_rfl))
      refine wpOp_one rfl ?_
      clear hd
      rw [h4, h7, h8]
      go_wp2
      first | exact ⟨_, (by simp [upd, h4, h7, h8]; done), Below.refl _ _, rfl⟩ | exact ⟨(by simp [upd, h4, h7, h8]; done), Below.refl _ _⟩
    | 10, _ =>
      have h4 : v 4 = _ := hd 4 (List.elem_iff.1 (by kernel_rfl))
      obtain ⟨A6, e6, h6, o6⟩ := hd 6 (List.elem_iff.1 (by kernel_rfl))
      have h9 : v 9 = _ := hd 9 (List.elem_iff.1 (by kernel_rfl))
      refine wpOp_one rfl ?_
      clear hd
      rw [h4, h6, h9]
      go_wp2_with fail
      refine (NT.out A6 e6 _ o6 (H.out.later (below_on bb5 hb))).mono ?_
      rintro e w'' ⟨rfl, bb⟩
      go_wp2
      first | exact ⟨_, (by simp [upd, h4, h6, h9]; done), bb, rfl⟩ | exact ⟨(by simp [upd, h4, h6, h9]; done), bb⟩
    | 11, _ =>
      have h4 : v 4 = _ := hd 4 (List.elem_iff.1 (by kernel_rfl))
      have h10 : v 10 = _ := hd 10 (List.elem_iff.1 (by kernel_rfl))
      refine wpOp_one rfl ?_
      clear hd
      rw [h4, h10]
      go_wp2
      first | exact ⟨_, (by simp [upd, h4, h10]; done), Below.refl _ _, rfl⟩ | exact ⟨(by simp [upd, h4, h10]; done), Below.refl _ _⟩
    | k + 12, hk => exact absurd hk (by omega)
  case done =>
    intro v w' hb hf
    have h11 : v 11 = _ := hf 11 (by omega)
    clear hf
    go_wp2
    go_ret
    exact ⟨by first | rfl | simp, below_on bb5 hb⟩

theorem lawPOne_any (SP : PackSpec) (A : Option Addr) (c : Nat) (l : List Int) (w : World) (hl : l.length + 10 ≤ 140737488355328) (h : OneB w A c l) :
    Calls Try.prog 8 #[.slice A l.length c] w (Says (.bool true) w) := by
  rcases Pk.num_ways l h.byte with (hw | hw) | ⟨v, k, hw, hk1, hkl, hk9, hv⟩
  · exact lawPOne_err SP A c l 4 w hl h (.inl rfl) hw
  · exact lawPOne_err SP A c l 5 w hl h (.inr rfl) hw
  · rcases Pk.row_ways l (l.length : Int) h.byte with ⟨e, he, hr⟩ | ⟨q, j, hr, hq, hj, hqb, hqj⟩
    · exact lawPOne_num SP A c l v k e w hl h hw hk1 hkl hk9 hv he hr
    · exact lawPOne_row SP A c l v k q j w hl h hw hk1 hkl hk9 hv hr hq hj hqb hqj

end Go.Proofs.Ytmcaehdhfpeadaa
