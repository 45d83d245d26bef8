/-
  What bytes.Clone, pack's AppendNumber and AppendRow answer.
  What pack's Number answers.
  What pack's Row answers.
  wire's own reader in memory; what its fail and its number answer.
-/
import Derived.Test.YtbbmngabbbehcaaG11
import Derived.Lib.SliceRun
import Derived.Laws.BitsLemmas
import Derived.Test.YtbbmngabbbehcaaG10
namespace Go.Proofs.Ytbbmngabbbehcaa
open Go.RowKit

namespace Pk
theorem nb_le : ∀ f n, n < 128 ^ (f + 1) → (nb (f + 1) n).length ≤ f + 1
  | 0, n, h => by
    unfold nb
    rw [if_pos (by simpa using h)]
    simp
  | f + 1, n, h => by
    unfold nb
    split
    · simp
    · have := nb_le f (n / 128) (by
        rw [Nat.div_lt_iff_lt_mul (by omega)]
        rw [Nat.pow_succ] at h
        exact h)
      simp
      omega
end Pk
theorem bytesOf_le9 (n : Nat) (h : n ≤ 9223372036854775807) : (Pk.bytesOf n).length ≤ 9 := Pk.nb_le 8 n (Nat.lt_of_le_of_lt h (by decide))

set_option maxHeartbeats 800000 in
theorem cloneB_any (A : Option Addr) (c1 : Nat) (l : List Int) (w : World) (hl : l.length ≤ 140737488355328) (h1 : OneB w A c1 l) :
    Calls Try.prog 85 #[.slice A l.length c1] w (GivesB l w) := by
  obtain ⟨i0, hi, hz0, hz1, hz2⟩ := info_parts infoBy
  cases A with
  | none =>
    obtain ⟨h0, hc⟩ := h1.noA rfl
    have hl0 : l = [] := List.eq_nil_of_length_eq_zero h0
    subst hl0
    subst hc
    clear h1
    have heq := fun wx => Lib.run_eql_slice_nil (P := Try.prog) wx 23 5 none 0 0 0 0 Try.underlying23
    go_enter Try.func85, Try.ntmps85
    go_wp2
    go_ret
    exact ⟨_, rfl, ⟨rfl, .inl ⟨rfl, rfl⟩⟩, Below.refl _ _⟩
  | some a =>
    have hown : (w.alloc (.cells #[] 5)).ownsRow w.heap.size 5 1 (.slice (some ⟨w.heap.size, 0, none⟩) 0 0) 0 [] :=
      ⟨rfl, .inr ⟨w.heap.size, 0, #[], rfl, Nat.le_refl _, heap_alloc_new w _, Nat.le_refl _, Nat.zero_le _, rfl, rfl⟩⟩
    have HA := Lib.hid h1.noA
    have heq := fun wx => Lib.run_eql_slice_nil (P := Try.prog) wx 23 5 (some a) l.length c1 0 0 Try.underlying23
    go_enter Try.func85, Try.ntmps85
    go_wp2_with (at_builtin; refine wpList_append_lies _ rfl _ _ 23 rfl w.heap.size 5 i0 (.int .u8 0) 1 1 Try.underlying23 hi hz0 hz1 hz2 rfl (by decide) _ 0 [] rfl hown (some a) l.length c1 HA.out (bCells l) rfl (by rw [bCells_length, Nat.mul_one]) (h1.lies.alloc _) (bCells_one l) ?c3 ?c4 ?c5 ?_)
    case c3 => unfold maxLen; omega
    case c4 => omega
    case c5 => simp
    intro v' w1 hown1 hg1 _
    have hbw : Below w.heap.size w w1 := (below_new (Below.refl _ _) (.cells #[] 5)).grown hg1 (by simp) (by intro k hk; simp [Value.ownBlock] at hk; omega)
    try simp only [Nat.zero_add, List.nil_append] at hown1
    have HO := Lib.hid hown1
    clear hown hown1 hg1
    go_wp2
    go_ret
    exact ⟨_, rfl, HO.out, hbw⟩

set_option maxHeartbeats 1600000 in
theorem dappn_any (A : Option Addr) (c : Nat) (l : List Int) (n : Int) (w : World) (h0 : -9223372036854775808 ≤ n) (h1 : n ≤ 9223372036854775807) (hl : l.length + 9 ≤ 140737488355328) (h : OneB w A c l) :
    Calls Try.prog 122 #[.slice A l.length c, .int .i64 n] w (AnsB2 (Pk.appn l n).1 (Pk.appn l n).2 w) := by
  by_cases hn : n < 0
  · have hd : decide (n < 0) = true := decide_eq_true hn
    have he : Pk.appn l n = ([], 1) := by unfold Pk.appn; rw [if_pos hn]
    rw [he]
    clear he h
    go_enter Try.func122, Try.ntmps122
    go_wp2
    go_ret2
    exact ⟨none, 0, rfl, OneB.nil _, Below.refl _ _⟩
  · have hd : decide (n < 0) = false := decide_eq_false hn
    obtain ⟨m, rfl⟩ := Int.eq_ofNat_of_zero_le (show 0 ≤ n by omega)
    have he : Pk.appn l (m : Int) = (l ++ Pk.bytesOf m, 0) := by unfold Pk.appn; rw [if_neg hn, Int.toNat_natCast]
    rw [he]
    have hm : m ≤ 9223372036854775807 := by omega
    have hq9 : (Pk.bytesOf m).length ≤ 9 := bytesOf_le9 m hm
    have hqb := bytesOf_byte m hm
    have N1 := Lib.hid (fun w => dnb_any m w hm)
    clear he
    obtain ⟨q, hq⟩ : ∃ q, Pk.bytesOf m = q := ⟨_, rfl⟩
    rw [hq] at hq9 hqb N1 ⊢
    have HB := Lib.hid hqb
    have H := Lib.hid h
    clear hq hqb h
    go_enter Try.func122, Try.ntmps122
    go_wp2_with fail
    refine (N1.out _).mono ?_
    rintro e w1 hg
    obtain ⟨B, d, rfl, hO, b1⟩ := GivesB.one hg HB.out
    clear hg
    have hb2 := below_new b1 (.cells #[.slice A l.length c, .slice B q.length d] 23)
    have HK := Lib.hid (concatB_any w1.heap.size 2 (by omega) [(A, c), (B, d)] [l, q] (w1.alloc (.cells #[.slice A l.length c, .slice B q.length d] 23)) rfl rfl (Blk.new w1 23 _) (fun k hk => by
      match k, hk with
      | 0, _ => exact H.out.later hb2
      | 1, _ => exact hO.later (below_new (Below.refl _ _) _)
      | k + 2, hk => exact absurd hk (by simp)) (by simp; omega))
    have hfl : [l, q].flatten = l ++ q := by simp
    rw [hfl] at HK
    have HP := Lib.hid (fun x (hx : x ∈ l ++ q) => (List.mem_append.1 hx).elim (H.out.byte x) (HB.out x))
    clear hO hfl
    go_wp2_with fail
    refine HK.out.mono ?_
    rintro e w2 hg
    obtain ⟨C, f, rfl, hC, b2⟩ := GivesB.one hg HP.out
    have HC := Lib.hid hC
    clear hg hC HK
    go_wp2
    go_ret2
    exact ⟨C, f, by first | rfl | (simp only [List.length_append]; rfl), HC.out, below_on hb2 b2⟩

set_option maxHeartbeats 1600000 in
theorem dappro_any (A : Option Addr) (c : Nat) (l : List Int) (B : Option Addr) (d : Nat) (r : List Int) (w : World) (hl : l.length + r.length + 9 ≤ 140737488355328) (h : OneB w A c l) (h' : OneB w B d r) :
    Calls Try.prog 107 #[.slice A l.length c, .slice B r.length d] w (GivesB (l ++ Pk.laid r) w) := by
  have hm : r.length ≤ 9223372036854775807 := by omega
  have hq9 : (Pk.bytesOf r.length).length ≤ 9 := bytesOf_le9 r.length hm
  have hqb := bytesOf_byte r.length hm
  have N1 := Lib.hid (fun w => dnb_any r.length w hm)
  unfold Pk.laid
  obtain ⟨q, hq⟩ : ∃ q, Pk.bytesOf r.length = q := ⟨_, rfl⟩
  rw [hq] at hq9 hqb N1 ⊢
  have HB := Lib.hid hqb
  have H := Lib.hid h
  have H' := Lib.hid h'
  clear hq hqb h h'
  go_enter Try.func107, Try.ntmps107
  go_wp2_with fail
  refine (N1.out _).mono ?_
  rintro e w1 hg
  obtain ⟨E, f, rfl, hO, b1⟩ := GivesB.one hg HB.out
  clear hg
  have hb2 := below_new b1 (.cells #[.slice A l.length c, .slice E q.length f, .slice B r.length d] 23)
  have HK := Lib.hid (concatB_any w1.heap.size 3 (by omega) [(A, c), (E, f), (B, d)] [l, q, r] (w1.alloc (.cells #[.slice A l.length c, .slice E q.length f, .slice B r.length d] 23)) rfl rfl (Blk.new w1 23 _) (fun k hk => by
    match k, hk with
    | 0, _ => exact H.out.later hb2
    | 1, _ => exact hO.later (below_new (Below.refl _ _) _)
    | 2, _ => exact H'.out.later hb2
    | k + 3, hk => exact absurd hk (by simp)) (by simp; omega))
  have hfl : [l, q, r].flatten = l ++ (q ++ r) := by simp
  rw [hfl] at HK
  clear hO hfl
  go_wp2_with fail
  refine HK.out.mono ?_
  rintro e w2 ⟨v, rfl, hC, b2⟩
  have HC := Lib.hid (own_base hC hb2.size)
  clear hC HK
  go_wp2
  go_ret
  exact ⟨v, rfl, HC.out, below_on hb2 b2⟩

theorem dappr_any (A : Option Addr) (c : Nat) (l : List Int) (B : Option Addr) (d : Nat) (r : List Int) (w : World) (hl : l.length + r.length + 9 ≤ 140737488355328) (h : OneB w A c l) (h' : OneB w B d r) :
    Calls Try.prog 107 #[.slice A l.length c, .slice B r.length d] w (AnsB (l ++ Pk.laid r) w) :=
  (dappro_any A c l B d r w hl h h').mono fun _ _ hg => GivesB.one hg (fun x hx => (List.mem_append.1 hx).elim (h.byte x) (fun hx => (List.mem_append.1 hx).elim (bytesOf_byte r.length (by omega) x) (h'.byte x)))

end Go.Proofs.Ytbbmngabbbehcaa
namespace Go.Proofs.Ytbbmngabbbehcaa
open Go.RowKit

namespace Pk
theorem val_take : ∀ (l : List Int) (i : Nat), i < l.length → val (l.take (i + 1)) = val (l.take i) + l.getD i 0 % 128 * 128 ^ i
  | [], i, h => by simp at h
  | b :: r, 0, _ => by
    show 0 * 128 + b % 128 = 0 + b % 128 * 128 ^ 0
    omega
  | b :: r, i + 1, h => by
    have ih := val_take r i (by simpa using h)
    show val (r.take (i + 1)) * 128 + b % 128 = val (r.take i) * 128 + b % 128 + r.getD i 0 % 128 * 128 ^ (i + 1)
    rw [ih, Int.pow_succ, Int.add_mul, ← Int.mul_assoc]
    omega
theorem val_bd0 (l : List Int) (i : Nat) (h : ∀ x ∈ l, isB x) (hi : i ≤ l.length) : 0 ≤ val (l.take i) ∧ val (l.take i) < 128 ^ i := by
  obtain ⟨v, h1, h2⟩ := val_nat (l.take i) (fun x hx => h x (List.mem_of_mem_take hx))
  rw [List.length_take, Nat.min_eq_left hi] at h2
  rw [h1]
  exact ⟨by omega, by exact_mod_cast h2⟩
theorem lead_done (k : Nat) (l : List Int) (i : Nat) (hi : i < k) (hl : i < l.length) (h : ∀ j, j < i → 128 ≤ l.getD j 0) (h2 : l.getD i 0 < 128) : lead k l = i := by
  have h1 := lead_at k l i (by omega) (by omega) h
  rcases Nat.lt_or_ge i (lead k l) with h3 | h3
  · have := lead_high k l i h3
    omega
  · omega
theorem and_127 (x : Int) (h0 : 0 ≤ x) (h1 : x < 256) : bits BinOp.and IntKind.u8 x 127 = x % 128 := bits_mask .u8 8 (by decide) wraps_u8 7 (by decide) x h0 (by omega)
theorem wraps63 (n : Int) (h0 : 0 ≤ n) (h1 : n < 2 ^ 63) : IntKind.i64.wrap n = n := by
  have e : (2 : Int) ^ 63 = 9223372036854775808 := by decide
  rw [e] at h1
  rw [IntKind.wrap_i64]
  omega
theorem or_low (i : Nat) (v y : Int) (hv0 : 0 ≤ v) (hv1 : v < 2 ^ i) (hy0 : 0 ≤ y) (hm : y % 2 ^ i = 0) (hy1 : y < 2 ^ 63) (hv : v < 2 ^ 63) : bits BinOp.or IntKind.i64 v y = v + y := by
  obtain ⟨a, rfl⟩ := Int.eq_ofNat_of_zero_le hv0
  obtain ⟨b, rfl⟩ := Int.eq_ofNat_of_zero_le hy0
  have e : (2 : Int) ^ 63 = 9223372036854775808 := by decide
  have e' : (2 : Nat) ^ 63 = 9223372036854775808 := by decide
  have h1 := (bits_nat .i64 63 (by decide) wraps63 a b (by omega) (by omega)).2
  have h2 := (bits_nat .i64 63 (by decide) wraps63 b a (by omega) (by omega)).2
  have h3 := bits_join .i64 63 (by decide) wraps63 i (b : Int) (a : Int) hy0 hm hy1 hv0 hv1 hv
  rw [h1, Nat.or_comm, ← h2, h3]
  omega
theorem group (i : Nat) (hi : i ≤ 8) (v x : Int) (hv0 : 0 ≤ v) (hv1 : v < 128 ^ i) (hx0 : 0 ≤ x) (hx1 : x < 256) : bits BinOp.or IntKind.i64 v (wrap64 (wrap64 (bits BinOp.and IntKind.u8 x 127) * 2 ^ (i * 7))) = v + x % 128 * 128 ^ i := by
  have hp : (2 : Int) ^ (i * 7) = 128 ^ i := by rw [Nat.mul_comm, Int.pow_mul]; rfl
  rw [and_127 x hx0 hx1, IntWalk.wrap64_in (x % 128) (by omega), hp]
  have e : (2 : Int) ^ 63 = 9223372036854775808 := by decide
  have hb : ∀ j : Nat, j ≤ 8 → (128 : Int) ^ j ≤ 72057594037927936 ∧ 1 ≤ (128 : Int) ^ j := by decide
  have hbi := hb i hi
  have hmul : x % 128 * 128 ^ i ≤ 127 * 72057594037927936 := Int.mul_le_mul (by omega) hbi.1 (by omega) (by omega)
  have hnn : 0 ≤ x % 128 * 128 ^ i := Int.mul_nonneg (by omega) (by omega)
  rw [IntWalk.wrap64_in _ (by omega)]
  refine or_low (i * 7) v _ hv0 (by rw [hp]; exact hv1) hnn (by rw [hp]; exact Int.mul_emod_left _ _) (by omega) (by omega)
end Pk

set_option maxHeartbeats 3200000 in
set_option maxRecDepth 100000 in
theorem dnum_any (A : Option Addr) (c1 : Nat) (l : List Int) (w : World) (h1 : OneB w A c1 l) :
    Calls Try.prog 125 #[.slice A l.length c1] w (Says (Pk.numV (Pk.num l)) w) := by
  by_cases hne : l = []
  · subst hne
    have hA := h1.noA
    clear h1
    cases A with
    | none =>
      obtain ⟨-, rfl⟩ := hA rfl
      go_enter Try.func125, Try.ntmps125
      go_wp2
      go_loopw [13] (fun s13 wr => s13 = .int .i64 0 ∧ wr = w) (fun _ _ => 0)
      case atStart => exact ⟨rfl, rfl⟩
      case round =>
        obtain ⟨rfl, rfl⟩ := hrel
        go_wp2
        go_ret3
        exact ⟨rfl, Below.refl _ _⟩
    | some a =>
      clear hA
      go_enter Try.func125, Try.ntmps125
      go_wp2
      go_loopw [13] (fun s13 wr => s13 = .int .i64 0 ∧ wr = w) (fun _ _ => 0)
      case atStart => exact ⟨rfl, rfl⟩
      case round =>
        obtain ⟨rfl, rfl⟩ := hrel
        go_wp2
        go_ret3
        exact ⟨rfl, Below.refl _ _⟩
  · obtain ⟨b, off, hA, hcell⟩ := h1.at hne
    subst hA
    have hbyte := h1.byte
    have hle := h1.le
    have hlen := h1.len
    have hcap := h1.cap
    unfold maxLen at hcap
    have HB := Lib.hid hbyte
    have HC := Lib.hid hcell
    have HN := Lib.hid hne
    clear h1 hbyte hcell hne
    by_cases h9 : (l.length : Int) ≤ 9
    · have hd9 : decide ((l.length : Int) ≤ 9) = true := decide_eq_true h9
      go_enter Try.func125, Try.ntmps125
      go_wp2_with fail
      go_loopw [2, 5, 6, 13] (fun s2 s5 s6 s13 wr => ∃ i : Nat, i ≤ l.length ∧ s13 = .int .i64 (i : Int) ∧ s2 = .int .i64 (Pk.val (l.take i)) ∧ (∀ j, j < i → 128 ≤ l.getD j 0) ∧ w = wr) (fun _ _ _ s13 _ => l.length - (intOf s13).toNat)
      case atStart => exact ⟨0, by omega, rfl, rfl, fun j hj => by omega, rfl⟩
      case round =>
        obtain ⟨i, hi, rfl, rfl, hhi, hwr⟩ := hrel
        subst hwr
        by_cases him : i < l.length
        · have hd : decide ((i : Int) < (l.length : Int)) = true := decide_eq_true (by omega)
          have c0 := HC.out i (by omega)
          have hil : i < l.length := by omega
          have hxb : isB (l.getD i 0) := HB.out _ (by rw [List.getD_eq_getElem?_getD, List.getElem?_eq_getElem hil]; exact List.getElem_mem hil)
          have hstep := Pk.val_take l i hil
          have hbd := Pk.val_bd0 l i HB.out (by omega)
          have hlead := Pk.lead_at 9 l i (by omega) (by omega) hhi
          have hdone := fun (h : l.getD i 0 < 128) => Pk.lead_done 9 l i (by omega) hil hhi h
          obtain ⟨x, hx⟩ : ∃ x, l.getD i 0 = x := ⟨_, rfl⟩
          rw [hx] at c0 hxb hstep hdone
          unfold isB at hxb
          have HX := Lib.hid hx
          have HG := Lib.hid (Pk.group i (by omega) (Pk.val (l.take i)) x hbd.1 hbd.2 hxb.1 hxb.2)
          have HST := Lib.hid hstep
          have HHI := Lib.hid hhi
          have HD := Lib.hid hdone
          obtain ⟨v, hv⟩ : ∃ v, Pk.val (l.take i) = v := ⟨_, rfl⟩
          rw [hv] at HG HST
          rw [hv]
          clear hhi hstep hbd hx hdone hlead hv
          rcases Int.lt_or_le x 128 with hx8 | hx8
          · have hd8 : decide (x < 128) = true := decide_eq_true hx8
            by_cases hz : x = 0 ∧ 0 < i
            · obtain ⟨hz1, hz2⟩ := hz
              have hnum : Pk.num l = (0, 0, 4) := Pk.num_zero (by rw [HD.out hx8]; omega) (by rw [HD.out hx8]; omega) (by rw [HD.out hx8, HX.out]; exact hz1) (by rw [HD.out hx8]; omega)
              have HN2 := Lib.hid hnum
              clear hnum HG HST
              subst hz1
              have hdi : decide ((0 : Int) < (i : Int)) = true := decide_eq_true (by omega)
              go_wp2
              go_ret3
              exact ⟨by rw [HN2.out]; rfl, Below.refl _ _⟩
            · have hnum : Pk.num l = (v + x % 128 * 128 ^ i, (i : Int) + 1, 0) := by rw [Pk.num_yes (by rw [HD.out hx8]; omega) (by rw [HD.out hx8]; omega) (by rw [HD.out hx8, HX.out]; exact hz), HD.out hx8, HST.out]
              have HN2 := Lib.hid hnum
              clear hnum HST
              by_cases hx0 : x = 0
              · have hI0 : i = 0 := by
                  rcases Nat.eq_zero_or_pos i with h | h
                  · exact h
                  · exact absurd ⟨hx0, h⟩ hz
                have HI0 := Lib.hid hI0
                subst hx0
                clear hz hI0
                go_wp2
                · rename_i hp
                  have := HI0.out
                  omega
                · go_ret3
                  exact ⟨by rw [HN2.out, ← HG.out]; rfl, Below.refl _ _⟩
              · have hdx : decide (x = 0) = false := decide_eq_false hx0
                clear hz
                go_wp2
                go_ret3
                exact ⟨by rw [HN2.out, ← HG.out]; rfl, Below.refl _ _⟩
          · have hd8 : decide (x < 128) = false := decide_eq_false (by omega)
            have hx0 : ¬ x = 0 := by omega
            have hdx : decide (x = 0) = false := decide_eq_false hx0
            go_wp2_with fail
            go_roundw
            case rel => exact ⟨i + 1, by omega, by first | rfl | (congr 1; omega), by rw [HG.out, HST.out], fun j hj => by
              rcases Nat.lt_or_ge j i with h | h
              · exact HHI.out j h
              · obtain rfl : j = i := by omega
                rw [HX.out]
                exact hx8, by first | rfl | trivial⟩
            case measure => simp [intOf]; omega
        · obtain rfl : i = l.length := by omega
          have hlead := Pk.lead_at 9 l _ (by omega) (by omega) hhi
          have hll := Pk.lead_le 9 l
          have hd : decide ((l.length : Int) < (l.length : Int)) = false := decide_eq_false (by omega)
          rcases Nat.lt_or_ge l.length 9 with h8 | h8
          · have hd2 : decide ((l.length : Int) < 9) = true := decide_eq_true (by omega)
            have HN2 := Lib.hid (Pk.num_short (l := l) (by omega) (by omega))
            clear hlead hll hhi
            go_wp2
            go_ret3
            exact ⟨by rw [HN2.out]; rfl, Below.refl _ _⟩
          · have hd2 : decide ((l.length : Int) < 9) = false := decide_eq_false (by omega)
            have HN2 := Lib.hid (Pk.num_nine (l := l) (by omega))
            clear hlead hll hhi
            go_wp2
            go_ret3
            exact ⟨by rw [HN2.out]; rfl, Below.refl _ _⟩
    · have hd9 : decide ((l.length : Int) ≤ 9) = false := decide_eq_false h9
      go_enter Try.func125, Try.ntmps125
      go_wp2_with fail
      go_loopw [2, 5, 6, 13] (fun s2 s5 s6 s13 wr => ∃ i : Nat, i ≤ 9 ∧ s13 = .int .i64 (i : Int) ∧ s2 = .int .i64 (Pk.val (l.take i)) ∧ (∀ j, j < i → 128 ≤ l.getD j 0) ∧ w = wr) (fun _ _ _ s13 _ => 9 - (intOf s13).toNat)
      case atStart => exact ⟨0, by omega, rfl, rfl, fun j hj => by omega, rfl⟩
      case round =>
        obtain ⟨i, hi, rfl, rfl, hhi, hwr⟩ := hrel
        subst hwr
        by_cases him : i < 9
        · have hd : decide ((i : Int) < (9 : Int)) = true := decide_eq_true (by omega)
          have c0 := HC.out i (by omega)
          have hil : i < l.length := by omega
          have hxb : isB (l.getD i 0) := HB.out _ (by rw [List.getD_eq_getElem?_getD, List.getElem?_eq_getElem hil]; exact List.getElem_mem hil)
          have hstep := Pk.val_take l i hil
          have hbd := Pk.val_bd0 l i HB.out (by omega)
          have hlead := Pk.lead_at 9 l i (by omega) (by omega) hhi
          have hdone := fun (h : l.getD i 0 < 128) => Pk.lead_done 9 l i (by omega) hil hhi h
          obtain ⟨x, hx⟩ : ∃ x, l.getD i 0 = x := ⟨_, rfl⟩
          rw [hx] at c0 hxb hstep hdone
          unfold isB at hxb
          have HX := Lib.hid hx
          have HG := Lib.hid (Pk.group i (by omega) (Pk.val (l.take i)) x hbd.1 hbd.2 hxb.1 hxb.2)
          have HST := Lib.hid hstep
          have HHI := Lib.hid hhi
          have HD := Lib.hid hdone
          obtain ⟨v, hv⟩ : ∃ v, Pk.val (l.take i) = v := ⟨_, rfl⟩
          rw [hv] at HG HST
          rw [hv]
          clear hhi hstep hbd hx hdone hlead hv
          rcases Int.lt_or_le x 128 with hx8 | hx8
          · have hd8 : decide (x < 128) = true := decide_eq_true hx8
            by_cases hz : x = 0 ∧ 0 < i
            · obtain ⟨hz1, hz2⟩ := hz
              have hnum : Pk.num l = (0, 0, 4) := Pk.num_zero (by rw [HD.out hx8]; omega) (by rw [HD.out hx8]; omega) (by rw [HD.out hx8, HX.out]; exact hz1) (by rw [HD.out hx8]; omega)
              have HN2 := Lib.hid hnum
              clear hnum HG HST
              subst hz1
              have hdi : decide ((0 : Int) < (i : Int)) = true := decide_eq_true (by omega)
              go_wp2
              go_ret3
              exact ⟨by rw [HN2.out]; rfl, Below.refl _ _⟩
            · have hnum : Pk.num l = (v + x % 128 * 128 ^ i, (i : Int) + 1, 0) := by rw [Pk.num_yes (by rw [HD.out hx8]; omega) (by rw [HD.out hx8]; omega) (by rw [HD.out hx8, HX.out]; exact hz), HD.out hx8, HST.out]
              have HN2 := Lib.hid hnum
              clear hnum HST
              by_cases hx0 : x = 0
              · have hI0 : i = 0 := by
                  rcases Nat.eq_zero_or_pos i with h | h
                  · exact h
                  · exact absurd ⟨hx0, h⟩ hz
                have HI0 := Lib.hid hI0
                subst hx0
                clear hz hI0
                go_wp2
                · rename_i hp
                  have := HI0.out
                  omega
                · go_ret3
                  exact ⟨by rw [HN2.out, ← HG.out]; rfl, Below.refl _ _⟩
              · have hdx : decide (x = 0) = false := decide_eq_false hx0
                clear hz
                go_wp2
                go_ret3
                exact ⟨by rw [HN2.out, ← HG.out]; rfl, Below.refl _ _⟩
          · have hd8 : decide (x < 128) = false := decide_eq_false (by omega)
            have hx0 : ¬ x = 0 := by omega
            have hdx : decide (x = 0) = false := decide_eq_false hx0
            go_wp2_with fail
            go_roundw
            case rel => exact ⟨i + 1, by omega, by first | rfl | (congr 1; omega), by rw [HG.out, HST.out], fun j hj => by
              rcases Nat.lt_or_ge j i with h | h
              · exact HHI.out j h
              · obtain rfl : j = i := by omega
                rw [HX.out]
                exact hx8, by first | rfl | trivial⟩
            case measure => simp [intOf]; omega
        · obtain rfl : i = 9 := by omega
          have hlead := Pk.lead_at 9 l _ (by omega) (by omega) hhi
          have hll := Pk.lead_le 9 l
          have hd2 : decide ((l.length : Int) < 9) = false := decide_eq_false (by omega)
          have HN2 := Lib.hid (Pk.num_nine (l := l) (by omega))
          clear hlead hll hhi
          go_wp2
          go_ret3
          exact ⟨by rw [HN2.out]; rfl, Below.refl _ _⟩

end Go.Proofs.Ytbbmngabbbehcaa
namespace Go.Proofs.Ytbbmngabbbehcaa
open Go.RowKit

set_option maxHeartbeats 3200000 in
theorem drow_any (A : Option Addr) (c1 : Nat) (l : List Int) (most : Int) (w : World) (hl : l.length ≤ 140737488355328) (h1 : OneB w A c1 l) :
    Calls Try.prog 126 #[.slice A l.length c1, .int .i64 most] w (GivesB3 (Pk.row l most).1 (Pk.row l most).2.1 (Pk.row l most).2.2 w) := by
  have n1 := dnum_any A c1 l w h1
  have hw := Pk.num_ways l h1.byte
  have H1 := Lib.hid h1
  have hrow : Pk.row l most = if most < 0 then ([], 0, 1) else if (Pk.num l).2.2 ≠ 0 then ([], 0, (Pk.num l).2.2) else if most < (Pk.num l).1 then ([], 0, 4) else if (l.length : Int) - (Pk.num l).2.1 < (Pk.num l).1 then ([], 0, 5) else ((l.drop (Pk.num l).2.1.toNat).take (Pk.num l).1.toNat, (Pk.num l).2.1 + (Pk.num l).1, 0) := rfl
  clear h1
  by_cases hm : most < 0
  · rw [if_pos hm] at hrow
    rw [hrow]
    have hd : decide (most < 0) = true := decide_eq_true hm
    clear n1 hw hrow
    go_enter Try.func126, Try.ntmps126
    go_wp2
    go_ret3
    exact ⟨_, rfl, ⟨rfl, .inl ⟨rfl, rfl⟩⟩, Below.refl _ _⟩
  · rw [if_neg hm] at hrow
    have hd : decide (most < 0) = false := decide_eq_false hm
    rcases hw with (hw | hw) | ⟨v, k, hw, hk1, hkl, hk9, hv⟩
    · rw [hw] at n1 hrow
      rw [if_pos (by decide)] at hrow
      rw [hrow]
      have N1 := Lib.hid (show Calls Try.prog 125 #[.slice A l.length c1] w fun e w' => e = .returned (.tuple #[.int .i64 0, .int .i64 0, .int .i64 4]) ∧ Below w.heap.size w w' from n1)
      clear n1 hw hrow
      go_enter Try.func126, Try.ntmps126
      go_wp2_with fail
      refine N1.out.mono ?_
      rintro e w1 ⟨rfl, b1⟩
      go_wp2
      go_ret3
      exact ⟨_, rfl, ⟨rfl, .inl ⟨rfl, rfl⟩⟩, b1⟩
    · rw [hw] at n1 hrow
      rw [if_pos (by decide)] at hrow
      rw [hrow]
      have N1 := Lib.hid (show Calls Try.prog 125 #[.slice A l.length c1] w fun e w' => e = .returned (.tuple #[.int .i64 0, .int .i64 0, .int .i64 5]) ∧ Below w.heap.size w w' from n1)
      clear n1 hw hrow
      go_enter Try.func126, Try.ntmps126
      go_wp2_with fail
      refine N1.out.mono ?_
      rintro e w1 ⟨rfl, b1⟩
      go_wp2
      go_ret3
      exact ⟨_, rfl, ⟨rfl, .inl ⟨rfl, rfl⟩⟩, b1⟩
    · rw [hw] at n1 hrow
      rw [if_neg (by simp)] at hrow
      have hrow : Pk.row l most = if most < (v : Int) then ([], 0, 4) else if (l.length : Int) - (k : Int) < (v : Int) then ([], 0, 5) else ((l.drop k).take v, (k : Int) + (v : Int), 0) := hrow
      have N1 := Lib.hid (show Calls Try.prog 125 #[.slice A l.length c1] w fun e w' => e = .returned (.tuple #[.int .i64 (v : Int), .int .i64 (k : Int), .int .i64 0]) ∧ Below w.heap.size w w' from n1)
      clear n1 hw
      by_cases h2 : most < (v : Int)
      · rw [if_pos h2] at hrow
        rw [hrow]
        have hd2 : decide (most < (v : Int)) = true := decide_eq_true h2
        clear hrow
        go_enter Try.func126, Try.ntmps126
        go_wp2_with fail
        refine N1.out.mono ?_
        rintro e w1 ⟨rfl, b1⟩
        go_wp2
        go_ret3
        exact ⟨_, rfl, ⟨rfl, .inl ⟨rfl, rfl⟩⟩, b1⟩
      · rw [if_neg h2] at hrow
        have hd2 : decide (most < (v : Int)) = false := decide_eq_false h2
        by_cases h3 : (l.length : Int) - (k : Int) < (v : Int)
        · rw [if_pos h3] at hrow
          rw [hrow]
          have hd3 : decide ((l.length : Int) - (k : Int) < (v : Int)) = true := decide_eq_true h3
          clear hrow
          go_enter Try.func126, Try.ntmps126
          go_wp2_with fail
          refine N1.out.mono ?_
          rintro e w1 ⟨rfl, b1⟩
          go_wp2
          go_ret3
          exact ⟨_, rfl, ⟨rfl, .inl ⟨rfl, rfl⟩⟩, b1⟩
        · rw [if_neg h3] at hrow
          rw [hrow]
          have hd3 : decide ((l.length : Int) - (k : Int) < (v : Int)) = false := decide_eq_false h3
          have hkv : k + v ≤ l.length := by omega
          have hne : l ≠ [] := fun e => by subst e; simp at hkl; omega
          obtain ⟨b, off, hA, -⟩ := H1.out.at hne
          subst hA
          have hcap := H1.out.le
          have hplen : ((l.drop k).take v).length = v := by rw [List.length_take, List.length_drop]; omega
          have hcp := fun wx (hx : OneB wx (some ⟨b, off + k, none⟩) (c1 - k) ((l.drop k).take v)) => cloneB_any (some ⟨b, off + k, none⟩) (c1 - k) ((l.drop k).take v) wx (by rw [hplen]; omega) hx
          have hpb : ∀ x ∈ (l.drop k).take v, isB x := fun x hx => H1.out.byte x (List.mem_of_mem_drop (List.mem_of_mem_take hx))
          have hpt := fun wx (hx : OneB wx (some ⟨b, off, none⟩) c1 l) => hx.part k v hkv
          obtain ⟨q, hq⟩ : ∃ q, (l.drop k).take v = q := ⟨_, rfl⟩
          rw [hq] at hcp hplen hpb hpt ⊢
          have CP := Lib.hid hcp
          have PB := Lib.hid hpb
          have PT := Lib.hid hpt
          clear hrow hq hcp hpb hpt
          subst hplen
          have fin : ∀ D d w1, OneB w1 D d q → Calls Try.prog 85 #[.slice D q.length d] w1 (GivesB q w1) := fun D d w1 hx => cloneB_any D d q w1 (by have := hx.le; omega) hx
          have FIN := Lib.hid fin
          clear CP fin
          by_cases hck : c1 = k
          · have hq0 : q = [] := List.eq_nil_of_length_eq_zero (by omega)
            subst hq0
            have hkl2 : k = l.length := by simp at hkv; omega
            have hcl2 : c1 = l.length := by omega
            subst hkl2
            subst hcl2
            have F0 := Lib.hid (fun w1 => (show Calls Try.prog 85 #[.slice (some ⟨b, off, none⟩) 0 0] w1 (GivesB [] w1) from FIN.out (some ⟨b, off, none⟩) 0 w1 ⟨Nat.le_refl _, Nat.zero_le _, (fun h => by cases h), fun h => absurd rfl h, fun x hx => by cases hx⟩))
            have N2 := Lib.hid (show Calls Try.prog 125 #[.slice (some ⟨b, off, none⟩) l.length l.length] w fun e w' => e = .returned (.tuple #[.int .i64 0, .int .i64 (l.length : Int), .int .i64 0]) ∧ Below w.heap.size w w' from N1.out)
            have hlm : (l.length : Int) ≤ 140737488355328 := by omega
            clear PT N1 FIN hck hkv hd2 hd3 h2 h3 hcap
            have hd2 : decide (most < 0) = false := hd
            go_enter Try.func126, Try.ntmps126
            go_wp2_with fail
            refine N2.out.mono ?_
            rintro e w1 ⟨rfl, b1⟩
            go_wp2_with fail
            refine (F0.out w1).mono ?_
            rintro e w2 ⟨v, rfl, hO, b2⟩
            have HO := Lib.hid (own_base hO b1.size)
            clear hO
            go_wp2
            go_ret3
            exact ⟨v, by first | rfl | simp, HO.out, below_on b1 b2⟩
          · go_enter Try.func126, Try.ntmps126
            go_wp2_with fail
            refine N1.out.mono ?_
            rintro e w1 ⟨rfl, b1⟩
            go_wp2_with fail
            refine (FIN.out _ _ w1 (PT.out w1 (H1.out.later b1))).mono ?_
            rintro e w2 ⟨v, rfl, hO, b2⟩
            have HO := Lib.hid (own_base hO b1.size)
            clear hO
            go_wp2
            go_ret3
            exact ⟨v, by first | rfl | simp, HO.out, below_on b1 b2⟩

end Go.Proofs.Ytbbmngabbbehcaa
namespace Go.Proofs.Ytbbmngabbbehcaa
open Go.RowKit

/-- What is left to be read: from a place on, or nothing where something was wrong. -/
def Left (l r : List Int) (b : Bool) : Option Nat → Prop
  | some a => a ≤ l.length ∧ r = l.drop a ∧ b = false
  | none => r = [] ∧ b = true
/-- wire's reader in memory. -/
def DRd (w : World) (g : Nat) (l : List Int) (s : Option Nat) : Prop :=
  ∃ A c r b, Blk w g 126 #[.slice A r.length c, .bool b] ∧ OneB w A c r ∧ (r ≠ [] → ∀ ad, A = some ad → ad.block < g) ∧ Left l r b s
section
variable {w w1 : World} {g : Nat} {l : List Int} {s : Option Nat}
theorem dr_noU8 {A : Option Addr} {n c : Nat} {b : Bool} : ∀ x ∈ (#[.slice A n c, .bool b] : Array Value).toList, isU8 x = false := by
  intro x hx
  simp at hx
  rcases hx with rfl | rfl <;> rfl
theorem dr_noInt {A : Option Addr} {n c : Nat} {b : Bool} : ∀ x ∈ (#[.slice A n c, .bool b] : Array Value).toList, isInt x = false := by
  intro x hx
  simp at hx
  rcases hx with rfl | rfl <;> rfl
theorem DRd.later (h : DRd w g l s) (hb : Below w.heap.size w w1) : DRd w1 g l s := by
  obtain ⟨A, c, r, b, h1, h2, h3⟩ := h
  exact ⟨A, c, r, b, h1.later hb, h2.later hb, h3⟩
theorem DRd.lt (h : DRd w g l s) : g < w.heap.size := by
  obtain ⟨A, c, r, b, h1, _⟩ := h
  exact h1.lt
/-- Whatever turns beyond the reader. -/
theorem DRd.above (h : DRd w g l s) (hk : ∀ k, k ≤ g → w1.heap[k]? = w.heap[k]?) : DRd w1 g l s := by
  obtain ⟨A, c, r, b, h1, h2, h3, h4⟩ := h
  refine ⟨A, c, r, b, (hk g (Nat.le_refl _)).trans h1, ⟨h2.le, h2.cap, h2.noA, fun hne => ?_, h2.byte⟩, h3, h4⟩
  obtain ⟨b, off, hA, hl⟩ := h2.lies hne
  refine ⟨b, off, hA, fun j u hu => ?_⟩
  exact (World.cell?_of_block (a := ⟨b, off + j, none⟩) (hk b (Nat.le_of_lt (h3 (fun e => hne (by rw [e]; rfl)) _ hA)))).trans (hl j u hu)
theorem DRd.grown (h : DRd w g l s) {row : Option Nat} (hg : w.grownBy w1 row) (hr : ∀ k, row = some k → g < k) : DRd w1 g l s :=
  h.above fun k hk => hg.block k (by have := h.lt; omega) (fun e => by have := hr k e.symm; omega)
theorem DRd.set (h : DRd w g l s) {B : Nat} (hB : g < B) (i : Nat) (u : Value) : DRd (w.setCell ⟨B, i, none⟩ u) g l s :=
  h.above fun k hk => Below.heap_setCell w ⟨B, i, none⟩ u k (by show k ≠ B; omega)
/-- Where the reader alone was written anew. -/
theorem DRd.put {A A' : Option Addr} {c c' : Nat} {r r' : List Int} {b b' : Bool} (hB : Blk w g 126 #[.slice A r.length c, .bool b]) (hO : OneB w A' c' r') (hA : r' ≠ [] → ∀ ad, A' = some ad → ad.block < g) (hs : Left l r' b' s) :
    DRd ((w.setCell ⟨g, 0, none⟩ (.slice A' r'.length c')).setCell ⟨g, 1, none⟩ (.bool b')) g l s :=
  ⟨A', c', r', b', (hB.put 0 _).put 1 _, hO.only (((Only.refl g w).set 0 _).set 1 _) hB dr_noU8, hA, hs⟩
theorem DRd.put1 {A A' : Option Addr} {c c' : Nat} {r r' : List Int} {b : Bool} (hB : Blk w g 126 #[.slice A r.length c, .bool b]) (hO : OneB w A' c' r') (hA : r' ≠ [] → ∀ ad, A' = some ad → ad.block < g) (hs : Left l r' b s) :
    DRd (w.setCell ⟨g, 0, none⟩ (.slice A' r'.length c')) g l s :=
  ⟨A', c', r', b, hB.put 0 _, hO.only ((Only.refl g w).set 0 _) hB dr_noU8, hA, hs⟩
end
/-- Something was wrong. -/
def DFail (g : Nat) (l : List Int) (w : World) (e : Ending) (w' : World) : Prop := e = .returned (.tuple #[]) ∧ DRd w' g l none ∧ Only g w w'

set_option maxHeartbeats 1600000 in
theorem drfail_any (g : Nat) (l : List Int) (s : Option Nat) (w : World) (h : DRd w g l s) :
    Calls Try.prog 116 #[.pointer (some ⟨g, 0, none⟩)] w (DFail g l w) := by
  obtain ⟨A, c, r, b, hB, hO, hA, hL⟩ := h
  have c0 := hB.cell (i := 0) rfl
  have c1 := hB.cell (i := 1) rfl
  have f0 := hB.free 0
  have f1 := hB.free 1
  have HB := Lib.hid hB
  clear hB hO hA hL
  go_enter Try.func116, Try.ntmps116
  go_wp2
  go_end0
  exact ⟨rfl, DRd.put (r' := []) HB.out (OneB.nil w) (fun _ _ h => by cases h) ⟨rfl, rfl⟩, ((Only.refl g w).set 0 _).set 1 _⟩

/-- A number was read. -/
def DNum (g : Nat) (l : List Int) (s : Option Nat) (w : World) (e : Ending) (w' : World) : Prop :=
  ∃ n : Nat, e = .returned (.int .i64 (n : Int)) ∧ n ≤ 9223372036854775807 ∧ DRd w' g l (Wi.nxt (Wi.pnum l) s) ∧ Only g w w' ∧ Wi.Got (Wi.pnum l) s n
theorem pnum_no {l : List Int} {a : Nat} {e : Int} (h : Pk.num (l.drop a) = (0, 0, e)) (he : e ≠ 0) : Wi.pnum l a = none := by
  unfold Wi.pnum
  rw [h, if_neg he]
theorem pnum_yes {l : List Int} {a v k : Nat} (h : Pk.num (l.drop a) = ((v : Int), (k : Int), 0)) : Wi.pnum l a = some (v, a + k) := by
  unfold Wi.pnum
  rw [h, if_pos rfl]
  simp
theorem nxt_no {α : Type} {p : Nat → Option (α × Nat)} {s : Option Nat} (h : s.bind p = none) : Wi.nxt p s = none := by
  unfold Wi.nxt
  rw [h]
  rfl
theorem got_no {α : Type} {p : Nat → Option (α × Nat)} {s : Option Nat} {v : α} (h : s.bind p = none) : Wi.Got p s v := fun x a hx => by rw [h] at hx; cases hx

set_option maxHeartbeats 3200000 in
theorem drnum_no (g : Nat) (l : List Int) (s : Option Nat) (w : World) (A : Option Addr) (c : Nat) (r : List Int) (b : Bool) (e : Int) (he : e = 4 ∨ e = 5) (hB : Blk w g 126 #[.slice A r.length c, .bool b]) (hO : OneB w A c r) (hAg : r ≠ [] → ∀ ad, A = some ad → ad.block < g) (hL : Left l r b s) (hn : Pk.num r = (0, 0, e)) (hs : s.bind (Wi.pnum l) = none) :
    Calls Try.prog 109 #[.pointer (some ⟨g, 0, none⟩)] w (DNum g l s w) := by
  have c0 := hB.cell (i := 0) rfl
  have CN := Lib.hid (dnum_any A c r w hO)
  rw [hn] at CN
  unfold Pk.numV at CN
  have HD := Lib.hid (show DRd w g l s from ⟨A, c, r, b, hB, hO, hAg, hL⟩)
  have HS := Lib.hid hs
  have hez : (e == 0) = false := by rcases he with rfl | rfl <;> rfl
  have hez2 : (e != 0) = true := by rcases he with rfl | rfl <;> rfl
  have hez3 : ¬ e = 0 := by rcases he with rfl | rfl <;> decide
  clear hB hO hAg hL hn hs he
  go_enter Try.func109, Try.ntmps109
  go_wp2_with fail
  refine CN.out.mono ?_
  rintro e1 w1 ⟨rfl, b1⟩
  have CF := Lib.hid (drfail_any g l s w1 (HD.out.later b1))
  have B1 := Lib.hid b1
  clear b1 CN c0
  go_wp2_with fail
  refine CF.out.mono ?_
  rintro e2 w2 ⟨rfl, hd2, ho2⟩
  have HD2 := Lib.hid hd2; have HO2 := Lib.hid ho2
  clear hd2 ho2 CF
  go_wp2
  go_ret
  exact ⟨0, rfl, by omega, by rw [nxt_no HS.out]; exact HD2.out, (Only.of_below g B1.out).on HO2.out, got_no HS.out⟩

theorem left_drop {l : List Int} {a k : Nat} (hk : a + k ≤ l.length) : Left l (l.drop (a + k)) false (some (a + k)) := ⟨hk, rfl, rfl⟩

set_option maxHeartbeats 3200000 in
theorem drnum_yes (g : Nat) (l : List Int) (w : World) (A : Option Addr) (c a v k : Nat) (r : List Int) (hr : r = l.drop a) (ha : a ≤ l.length) (hB : Blk w g 126 #[.slice A r.length c, .bool false]) (hO : OneB w A c r) (hAg : r ≠ [] → ∀ ad, A = some ad → ad.block < g) (hn : Pk.num r = ((v : Int), (k : Int), 0)) (hk1 : 1 ≤ k) (hkl : k ≤ r.length) (hv : v ≤ 9223372036854775807) :
    Calls Try.prog 109 #[.pointer (some ⟨g, 0, none⟩)] w (DNum g l (some a) w) := by
  have hne : r ≠ [] := fun e => by rw [e] at hkl; simp at hkl; omega
  obtain ⟨bb, off, hA, -⟩ := hO.at hne
  subst hA
  have hbg : bb < g := hAg hne _ rfl
  have hle := hO.le
  have hcap := hO.cap
  unfold maxLen at hcap
  have hp : Wi.pnum l a = some (v, a + k) := pnum_yes (by rw [← hr]; exact hn)
  have hlk : a + k ≤ l.length := by rw [hr, List.length_drop] at hkl; omega
  have htl : OneB w (some ⟨bb, off + k, none⟩) (c - k) (r.drop k) := by simpa [Addr.add, show k ≠ 0 from by omega] using hO.tail hkl
  have hdd : r.drop k = l.drop (a + k) := by rw [hr, List.drop_drop]
  have hnx : Wi.nxt (Wi.pnum l) (some a) = some (a + k) := by
    show ((Wi.pnum l a).map (·.2)) = _
    rw [hp]; rfl
  have hgt : Wi.Got (Wi.pnum l) (some a) v := fun x y hx => by
    have hx : Wi.pnum l a = some (x, y) := hx
    rw [hp] at hx
    cases hx
    rfl
  have hrl : (r.drop k).length = r.length - k := List.length_drop
  clear hAg
  have c0 := hB.cell (i := 0) rfl
  have CN := Lib.hid (dnum_any (some ⟨bb, off, none⟩) c r w hO)
  rw [hn] at CN
  unfold Pk.numV at CN
  have HB := Lib.hid hB; have HT := Lib.hid htl; have HDD := Lib.hid hdd; have HG := Lib.hid hgt; have HNX := Lib.hid hnx; have HRL := Lib.hid hrl
  clear hB hO hn hr htl hdd hgt hnx hp hne hrl
  by_cases hck : c = k
  · subst hck
    have hre : r.length = c := by omega
    have HRE := Lib.hid hre
    clear hre
    go_enter Try.func109, Try.ntmps109
    go_wp2_with fail
    refine CN.out.mono ?_
    rintro e1 w1 ⟨rfl, b1⟩
    have hB1 := HB.out.later b1
    have k0 := hB1.cell (i := 0) rfl
    have f0 := hB1.free 0
    have HB1 := Lib.hid hB1; have B1 := Lib.hid b1
    clear b1 CN c0 hB1
    go_wp2
    go_ret
    have hr0 : r.drop c = [] := List.eq_nil_of_length_eq_zero (by rw [HRL.out, HRE.out]; omega)
    have hz : OneB w1 (some ⟨bb, off, none⟩) 0 [] := ⟨Nat.le_refl _, Nat.zero_le _, (fun h => by cases h), fun h => absurd rfl h, fun x hx => by cases hx⟩
    have hd := DRd.put1 (l := l) (s := some (a + c)) (r' := []) HB1.out hz (fun _ _ h => by cases h; exact hbg) ⟨hlk, by rw [← HDD.out, hr0], rfl⟩
    refine ⟨v, rfl, hv, ?_, ((Only.of_below g B1.out).set 0 _), HG.out⟩
    rw [HNX.out]
    have e0 : r.length - c = 0 := by rw [HRE.out]; omega
    first | exact hd | (simpa [e0] using hd) | (rw [e0]; exact hd)
  · go_enter Try.func109, Try.ntmps109
    go_wp2_with fail
    refine CN.out.mono ?_
    rintro e1 w1 ⟨rfl, b1⟩
    have hB1 := HB.out.later b1
    have k0 := hB1.cell (i := 0) rfl
    have f0 := hB1.free 0
    have HB1 := Lib.hid hB1; have B1 := Lib.hid b1
    clear b1 CN c0 hB1
    go_wp2
    go_ret
    have hd := DRd.put1 (l := l) (s := some (a + k)) (r' := r.drop k) HB1.out (HT.out.later B1.out) (fun _ _ h => by cases h; exact hbg) ⟨hlk, HDD.out, rfl⟩
    refine ⟨v, rfl, hv, ?_, ((Only.of_below g B1.out).set 0 _), HG.out⟩
    rw [HNX.out]
    rw [HRL.out] at hd
    exact hd

theorem drnum_any (g : Nat) (l : List Int) (s : Option Nat) (w : World) (h : DRd w g l s) :
    Calls Try.prog 109 #[.pointer (some ⟨g, 0, none⟩)] w (DNum g l s w) := by
  obtain ⟨A, c, r, b, hB, hO, hA, hL⟩ := h
  cases s with
  | none => exact drnum_no g l none w A c r b 5 (.inr rfl) hB hO hA hL (by rw [hL.1]; rfl) rfl
  | some a =>
    obtain ⟨ha, hr, rfl⟩ := hL
    rcases Pk.num_ways r hO.byte with (hw | hw) | ⟨v, k, hw, hk1, hkl, hk9, hv⟩
    · exact drnum_no g l (some a) w A c r false 4 (.inl rfl) hB hO hA ⟨ha, hr, rfl⟩ hw (pnum_no (by rw [← hr]; exact hw) (by decide))
    · exact drnum_no g l (some a) w A c r false 5 (.inr rfl) hB hO hA ⟨ha, hr, rfl⟩ hw (pnum_no (by rw [← hr]; exact hw) (by decide))
    · exact drnum_yes g l w A c a v k r hr ha hB hO hA hw hk1 hkl hv

end Go.Proofs.Ytbbmngabbbehcaa
