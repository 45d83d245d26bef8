/-
  SpanOfs walked from span's contracts.
-/
import Derived.Test.YtnnmcnbpnfegpaaSpLawTwos
namespace Go.Proofs.Ytnnmcnbpnfegpaa
open Go.RowKit

theorem infoI : (Try.prog.info? 3).map (fun i => (i.zero, i.size, i.bytes)) = some (some (.int .i64 0), 1, 8) := by kernel_rfl
theorem nums_one (xs : List Int) : ∀ u ∈ xs.map (Value.int .i64), u.oneCell' = true := by
  intro u hu
  obtain ⟨x, _, rfl⟩ := List.mem_map.1 hu
  rfl
theorem Nums.of_own {w : World} {base : Nat} {e : TypeId} {v : Value} {xs : List Int} (h : w.ownsRow base e 1 v xs.length (xs.map (Value.int .i64))) : ∃ A c, v = .slice A xs.length c ∧ Nums w A c xs := by
  obtain ⟨A, c, h1, h2, h3, h4, h5⟩ := own_form h
  exact ⟨A, c, h1, h2, h3, h4, h5⟩
theorem Nums.at {w : World} {A : Option Addr} {c : Nat} {xs : List Int} (h : Nums w A c xs) (hne : xs ≠ []) : ∃ b off, A = some ⟨b, off, none⟩ ∧ ∀ k, k < xs.length → w.cell? ⟨b, off + k, none⟩ = some (.int .i64 (xs.getD k 0)) := by
  obtain ⟨b, off, hA, hc⟩ := h.2.2.2 (fun e => hne (List.map_eq_nil_iff.1 e))
  refine ⟨b, off, hA, fun k hk => hc k _ ?_⟩
  rw [List.getElem?_map, List.getElem?_eq_getElem hk, List.getD_eq_getElem?_getD, List.getElem?_eq_getElem hk]
  rfl

set_option maxRecDepth 100000 in
set_option maxHeartbeats 3200000 in
theorem lawOfs_any (S : SpanSpec) (A : Option Addr) (c : Nat) (xs : List Int) (w : World) (hl : xs.length * 8 ≤ 140737488355328) (h1 : Nums w A c xs) :
    Calls Try.prog 4 #[.slice A xs.length c] w (Says (.bool true) w) := by
  obtain ⟨i0, hi, hz0, hz1, hz2⟩ := info_parts infoI
  have N0 := Lib.hid (salive_any S w)
  have hlen := h1.len
  have H1 := Lib.hid h1
  clear h1
  go_enter Try.func4, Try.ntmps4
  go_wp2_with fail
  refine N0.out.mono ?_
  rintro e w1 ⟨rfl, b1⟩
  have HA := Lib.hid (H1.out.later b1)
  clear N0 H1
  have hown : (w1.alloc (.cells #[] 3)).ownsRow w1.heap.size 3 1 (.slice (some ⟨w1.heap.size, 0, none⟩) 0 0) 0 [] :=
    ⟨rfl, .inr ⟨w1.heap.size, 0, #[], rfl, Nat.le_refl _, heap_alloc_new w1 _, Nat.le_refl _, Nat.zero_le _, rfl, rfl⟩⟩
  go_wp2_with (at_builtin; refine wpList_append_lies _ rfl _ _ 29 rfl w1.heap.size 3 i0 (.int .i64 0) 1 8 Try.underlying29 hi hz0 hz1 hz2 rfl (by decide) _ 0 [] rfl hown A xs.length c HA.out.2.2.1 (xs.map (Value.int .i64)) rfl (by simp) (HA.out.2.2.2.alloc _) (nums_one xs) ?c3 ?c4 ?c5 ?_)
  case c3 => unfold maxLen; omega
  case c4 => omega
  case c5 => simp
  intro v' w2 hown1 hg1 _
  have b2 : Below w1.heap.size w1 w2 := (below_new (Below.refl _ _) (.cells #[] 3)).grown hg1 (by simp) (by intro k hk; simp [Value.ownBlock] at hk; omega)
  try simp only [Nat.zero_add, List.nil_append] at hown1
  obtain ⟨X, cx, rfl, hX⟩ := Nums.of_own hown1
  have bb2 := below_on b1 b2
  have HX := Lib.hid hX
  have HA2 := Lib.hid (HA.out.later b2)
  have M0 := Lib.hid (S.of_ X cx xs w2 hX)
  clear hown hown1 hg1 HA hX
  go_wp2_with fail
  refine M0.out.mono ?_
  rintro e w3 ⟨D, k, rfl, ho, b3⟩
  have bb3 := below_on bb2 b3
  have HO := Lib.hid ho
  have HX3 := Lib.hid (HX.out.later b3)
  have HA3 := Lib.hid (HA2.out.later b3)
  clear ho HX HA2 M0
  go_wp2_with fail
  go_loopw [5] (fun s5 wr => ∃ k : Nat, k ≤ xs.length ∧ s5 = .int .i64 (k : Int) ∧ Below w3.heap.size w3 wr) (fun s5 _ => xs.length - (intOf s5).toNat)
  case atStart => exact ⟨0, Nat.zero_le _, rfl, Below.refl _ _⟩
  case round =>
    obtain ⟨n, hn, rfl, hbq⟩ := hrel
    by_cases hlt : n < xs.length
    · have hne : xs ≠ [] := fun e => by subst e; simp at hlt
      obtain ⟨b, off, hA, hcA⟩ := (HA3.out.later hbq).at hne
      obtain ⟨b', off', hB, hcB⟩ := (HX3.out.later hbq).at hne
      have e0 := hcA n hlt
      have f0 := hcB n hlt
      have HA3' := HA3
      have HX3' := HX3
      subst hA hB
      clear hcA hcB
      have hi0 : (0 : Int) ≤ (n : Int) := by omega
      have hi1 : (n : Int) < (xs.length : Int) := by omega
      obtain ⟨x, hx⟩ : ∃ x, xs.getD n 0 = x := ⟨_, rfl⟩
      rw [hx] at e0 f0
      clear hx
      go_wp2_with fail
      go_quiet (fail)
      go_wp2_with fail
      go_roundw
      case rel => exact ⟨n + 1, by omega, by go_num, below_drewN hbq _⟩
      case measure => simp [intOf]; omega
    · have hkl : n = xs.length := by omega
      subst hkl
      have n1 := ssome_any A c xs wr hlen (HA3.out.later hbq).2.2.2
      have ho2 := HO.out.later hbq
      obtain ⟨J, hJ⟩ : ∃ J, Sp.ofL (Sp.someOf xs) = J := ⟨_, rfl⟩
      rw [hJ] at n1 ho2
      have eJ : (Sp.ofL (Sp.someOf xs)).length = J.length := by rw [hJ]
      rw [eJ]
      have N1 := Lib.hid n1
      have HO2 := Lib.hid ho2
      clear n1 ho2 hJ eJ HO HA3 HX3
      go_wp2_with fail
      refine N1.out.mono ?_
      rintro e w4 hg
      obtain ⟨G, g, rfl, o4, b4⟩ := hg.ans
      have Q0 := Lib.hid (ssame_self D G k g J w4 (HO2.out.later b4) o4)
      clear hg o4 N1 HO2
      go_wp2_with fail
      refine Q0.out.mono ?_
      rintro e w5 ⟨rfl, b5⟩
      go_wp2
      go_ret
      exact ⟨rfl, below_on bb3 (below_on (below_on hbq b4) b5)⟩

end Go.Proofs.Ytnnmcnbpnfegpaa
