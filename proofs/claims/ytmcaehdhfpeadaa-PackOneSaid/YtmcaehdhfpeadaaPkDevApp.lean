/-
  What bytes.Clone, pack's AppendNumber and AppendRow answer.
-/
import Derived.Test.YtmcaehdhfpeadaaPkDevNb
import Derived.Test.YtmcaehdhfpeadaaPkDevConcat
import Derived.Lib.SliceRun
namespace Go.Proofs.Ytmcaehdhfpeadaa
open Go.RowKit

namespace Pk
theorem nb_le : ∀ f n, n < 128 ^ (f + 1) → (nb (f + 1) n).length ≤ f + 1
  | 0, n, h => by
    unfold nb
    rw [if_pos (by simpa using h)]
    simp
  | f + 1, n, h => by
    unfold nb
    split
    · simp
    · have := nb_le f (n / 128) (by
        rw [Nat.div_lt_iff_lt_mul (by omega)]
        rw [Nat.pow_succ] at h
        exact h)
      simp
      omega
end Pk
theorem bytesOf_le9 (n : Nat) (h : n ≤ 9223372036854775807) : (Pk.bytesOf n).length ≤ 9 := Pk.nb_le 8 n (Nat.lt_of_le_of_lt h (by decide))

set_option maxHeartbeats 800000 in
theorem cloneB_any (A : Option Addr) (c1 : Nat) (l : List Int) (w : World) (hl : l.length ≤ 140737488355328) (h1 : OneB w A c1 l) :
    Calls Try.prog 26 #[.slice A l.length c1] w (GivesB l w) := by
  obtain ⟨i0, hi, hz0, hz1, hz2⟩ := info_parts infoBy
  cases A with
  | none =>
    obtain ⟨h0, hc⟩ := h1.noA rfl
    have hl0 : l = [] := List.eq_nil_of_length_eq_zero h0
    subst hl0
    subst hc
    clear h1
    have heq := fun wx => Lib.run_eql_slice_nil (P := Try.prog) wx 22 5 none 0 0 0 0 Try.underlying22
    go_enter Try.func26, Try.ntmps26
    go_wp2
    go_ret
    exact ⟨_, rfl, ⟨rfl, .inl ⟨rfl, rfl⟩⟩, Below.refl _ _⟩
  | some a =>
    have hown : (w.alloc (.cells #[] 5)).ownsRow w.heap.size 5 1 (.slice (some ⟨w.heap.size, 0, none⟩) 0 0) 0 [] :=
      ⟨rfl, .inr ⟨w.heap.size, 0, #[], rfl, Nat.le_refl _, heap_alloc_new w _, Nat.le_refl _, Nat.zero_le _, rfl, rfl⟩⟩
    have HA := Lib.hid h1.noA
    have heq := fun wx => Lib.run_eql_slice_nil (P := Try.prog) wx 22 5 (some a) l.length c1 0 0 Try.underlying22
    go_enter Try.func26, Try.ntmps26
    go_wp2_with (at_builtin; refine wpList_append_lies _ rfl _ _ 22 rfl w.heap.size 5 i0 (.int .u8 0) 1 1 Try.underlying22 hi hz0 hz1 hz2 rfl (by decide) _ 0 [] rfl hown (some a) l.length c1 HA.out (bCells l) rfl (by rw [bCells_length, Nat.mul_one]) (h1.lies.alloc _) (bCells_one l) ?c3 ?c4 ?c5 ?_)
    case c3 => unfold maxLen; omega
    case c4 => omega
    case c5 => simp
    intro v' w1 hown1 hg1 _
    have hbw : Below w.heap.size w w1 := (below_new (Below.refl _ _) (.cells #[] 5)).grown hg1 (by simp) (by intro k hk; simp [Value.ownBlock] at hk; omega)
    try simp only [Nat.zero_add, List.nil_append] at hown1
    have HO := Lib.hid hown1
    clear hown hown1 hg1
    go_wp2
    go_ret
    exact ⟨_, rfl, HO.out, hbw⟩

set_option maxHeartbeats 1600000 in
theorem dappn_any (A : Option Addr) (c : Nat) (l : List Int) (n : Int) (w : World) (h0 : -9223372036854775808 ≤ n) (h1 : n ≤ 9223372036854775807) (hl : l.length + 9 ≤ 140737488355328) (h : OneB w A c l) :
    Calls Try.prog 11 #[.slice A l.length c, .int .i64 n] w (AnsB2 (Pk.appn l n).1 (Pk.appn l n).2 w) := by
  by_cases hn : n < 0
  · have hd : decide (n < 0) = true := decide_eq_true hn
    have he : Pk.appn l n = ([], 1) := by unfold Pk.appn; rw [if_pos hn]
    rw [he]
    clear he h
    go_enter Try.func11, Try.ntmps11
    go_wp2
    go_ret2
    exact ⟨none, 0, rfl, OneB.nil _, Below.refl _ _⟩
  · have hd : decide (n < 0) = false := decide_eq_false hn
    obtain ⟨m, rfl⟩ := Int.eq_ofNat_of_zero_le (show 0 ≤ n by omega)
    have he : Pk.appn l (m : Int) = (l ++ Pk.bytesOf m, 0) := by unfold Pk.appn; rw [if_neg hn, Int.toNat_natCast]
    rw [he]
    have hm : m ≤ 9223372036854775807 := by omega
    have hq9 : (Pk.bytesOf m).length ≤ 9 := bytesOf_le9 m hm
    have hqb := bytesOf_byte m hm
    have N1 := Lib.hid (fun w => dnb_any m w hm)
    clear he
    obtain ⟨q, hq⟩ : ∃ q, Pk.bytesOf m = q := ⟨_, rfl⟩
    rw [hq] at hq9 hqb N1 ⊢
    have HB := Lib.hid hqb
    have H := Lib.hid h
    clear hq hqb h
    go_enter Try.func11, Try.ntmps11
    go_wp2_with fail
    refine (N1.out _).mono ?_
    rintro e w1 hg
    obtain ⟨B, d, rfl, hO, b1⟩ := GivesB.one hg HB.out
    clear hg
    have hb2 := below_new b1 (.cells #[.slice A l.length c, .slice B q.length d] 22)
    have HK := Lib.hid (concatB_any w1.heap.size 2 (by omega) [(A, c), (B, d)] [l, q] (w1.alloc (.cells #[.slice A l.length c, .slice B q.length d] 22)) rfl rfl (Blk.new w1 22 _) (fun k hk => by
      match k, hk with
      | 0, _ => exact H.out.later hb2
      | 1, _ => exact hO.later (below_new (Below.refl _ _) _)
      | k + 2, hk => exact absurd hk (by simp)) (by simp; omega))
    have hfl : [l, q].flatten = l ++ q := by simp
    rw [hfl] at HK
    have HP := Lib.hid (fun x (hx : x ∈ l ++ q) => (List.mem_append.1 hx).elim (H.out.byte x) (HB.out x))
    clear hO hfl
    go_wp2_with fail
    refine HK.out.mono ?_
    rintro e w2 hg
    obtain ⟨C, f, rfl, hC, b2⟩ := GivesB.one hg HP.out
    have HC := Lib.hid hC
    clear hg hC HK
    go_wp2
    go_ret2
    exact ⟨C, f, by first | rfl | (simp only [List.length_append]; rfl), HC.out, below_on hb2 b2⟩

set_option maxHeartbeats 1600000 in
theorem dappro_any (A : Option Addr) (c : Nat) (l : List Int) (B : Option Addr) (d : Nat) (r : List Int) (w : World) (hl : l.length + r.length + 9 ≤ 140737488355328) (h : OneB w A c l) (h' : OneB w B d r) :
    Calls Try.prog 21 #[.slice A l.length c, .slice B r.length d] w (GivesB (l ++ Pk.laid r) w) := by
  have hm : r.length ≤ 9223372036854775807 := by omega
  have hq9 : (Pk.bytesOf r.length).length ≤ 9 := bytesOf_le9 r.length hm
  have hqb := bytesOf_byte r.length hm
  have N1 := Lib.hid (fun w => dnb_any r.length w hm)
  unfold Pk.laid
  obtain ⟨q, hq⟩ : ∃ q, Pk.bytesOf r.length = q := ⟨_, rfl⟩
  rw [hq] at hq9 hqb N1 ⊢
  have HB := Lib.hid hqb
  have H := Lib.hid h
  have H' := Lib.hid h'
  clear hq hqb h h'
  go_enter Try.func21, Try.ntmps21
  go_wp2_with fail
  refine (N1.out _).mono ?_
  rintro e w1 hg
  obtain ⟨E, f, rfl, hO, b1⟩ := GivesB.one hg HB.out
  clear hg
  have hb2 := below_new b1 (.cells #[.slice A l.length c, .slice E q.length f, .slice B r.length d] 22)
  have HK := Lib.hid (concatB_any w1.heap.size 3 (by omega) [(A, c), (E, f), (B, d)] [l, q, r] (w1.alloc (.cells #[.slice A l.length c, .slice E q.length f, .slice B r.length d] 22)) rfl rfl (Blk.new w1 22 _) (fun k hk => by
    match k, hk with
    | 0, _ => exact H.out.later hb2
    | 1, _ => exact hO.later (below_new (Below.refl _ _) _)
    | 2, _ => exact H'.out.later hb2
    | k + 3, hk => exact absurd hk (by simp)) (by simp; omega))
  have hfl : [l, q, r].flatten = l ++ (q ++ r) := by simp
  rw [hfl] at HK
  clear hO hfl
  go_wp2_with fail
  refine HK.out.mono ?_
  rintro e w2 ⟨v, rfl, hC, b2⟩
  have HC := Lib.hid (own_base hC hb2.size)
  clear hC HK
  go_wp2
  go_ret
  exact ⟨v, rfl, HC.out, below_on hb2 b2⟩

theorem dappr_any (A : Option Addr) (c : Nat) (l : List Int) (B : Option Addr) (d : Nat) (r : List Int) (w : World) (hl : l.length + r.length + 9 ≤ 140737488355328) (h : OneB w A c l) (h' : OneB w B d r) :
    Calls Try.prog 21 #[.slice A l.length c, .slice B r.length d] w (AnsB (l ++ Pk.laid r) w) :=
  (dappro_any A c l B d r w hl h h').mono fun _ _ hg => GivesB.one hg (fun x hx => (List.mem_append.1 hx).elim (h.byte x) (fun hx => (List.mem_append.1 hx).elim (bytesOf_byte r.length (by omega) x) (h'.byte x)))

end Go.Proofs.Ytmcaehdhfpeadaa
