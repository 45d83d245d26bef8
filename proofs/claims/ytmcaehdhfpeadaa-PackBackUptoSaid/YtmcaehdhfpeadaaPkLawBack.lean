/-
  The law PackBack, walked from what is asked of pack's functions.
-/
import Derived.Test.YtmcaehdhfpeadaaPkLawOne
namespace Go.Proofs.Ytmcaehdhfpeadaa
open Go.RowKit

set_option maxHeartbeats 6400000 in
set_option maxRecDepth 100000 in
theorem lawPBack_any (SP : PackSpec) (n : Int) (A : Option Addr) (c : Nat) (r : List Int) (M : Option Addr) (cm : Nat) (m : List Int) (w : World) (hn0 : -9223372036854775808 ≤ n) (hn : n ≤ 9223372036854775807) (hl : r.length + m.length + 20 ≤ 140737488355328) (h : OneB w A c r) (hm : OneB w M cm m) :
    Calls Try.prog 7 #[.int .i64 n, .slice A r.length c, .slice M m.length cm] w (Says (.bool true) w) := by
  obtain ⟨i0, hi, hz0, hz1, hz2⟩ := info_parts infoBy
  have N0 := Lib.hid (fun wx => palive_any SP wx)
  have na := fun wx (hx : OneB wx A c r) => SP.appro none 0 [] A c r wx (by simp; omega) (OneB.nil wx) hx
  have hpb : ∀ x ∈ Pk.laid r, isB x := fun x hx => (List.mem_append.1 hx).elim (bytesOf_byte r.length (by omega) x) (h.byte x)
  have hback := Pk.row_laid r m (by omega)
  have hnl := (Pk.nb_len 9 r.length).2
  have hpl : (Pk.laid r).length ≤ r.length + 10 := by
    unfold Pk.laid
    rw [List.length_append]
    unfold Pk.bytesOf
    omega
  simp only [List.nil_append] at na
  obtain ⟨p, hp⟩ : ∃ p, Pk.laid r = p := ⟨_, rfl⟩
  rw [hp] at hpb hback hpl
  simp only [hp] at na
  have nr := fun D d wx (hx : OneB wx D d (p ++ m)) => SP.row D d (p ++ m) (r.length : Int) wx (by rw [List.length_append]; omega) hx
  simp only [hback] at nr
  have NA := Lib.hid na
  have NR := Lib.hid (fun D d wx (hx : OneB wx D d (p ++ m)) => (show Calls Try.prog 19 #[.slice D (p.length + m.length) d, .int .i64 (r.length : Int)] wx (GivesB3 r (p.length : Int) 0 wx) from by
    have k := nr D d wx hx
    rwa [List.length_append] at k))
  have HPB := Lib.hid (fun x (hx : x ∈ p ++ m) => (List.mem_append.1 hx).elim (hpb x) (hm.byte x))
  have HPP := Lib.hid hpb
  have H := Lib.hid h
  have HM := Lib.hid hm
  clear na nr hback h hm hpb hp hnl
  go_enter Try.func7, Try.ntmps7
  go_wp2_with fail
  refine (N0.out _).mono ?_
  rintro e w1 ⟨rfl, b1⟩
  go_wp2_with fail
  refine (NA.out _ (H.out.later b1)).mono ?_
  rintro e w2 ⟨v, rfl, ho, b2⟩
  have bb2 := below_on b1 b2
  have hz2' := bb2.size
  have hz3 := b2.size
  have ho' := own_base ho b1.size
  have HO := Lib.hid ho'
  clear ho ho'
  go_wp2_with (at_builtin; refine wpList_append_lies _ rfl _ _ 22 rfl w.heap.size 5 i0 (.int .u8 0) 1 1 Try.underlying22 hi hz0 hz1 hz2 rfl (by decide) _ p.length (bCells p) rfl HO.out M m.length cm (HM.out.later bb2).noA (bCells m) rfl (by rw [bCells_length, Nat.mul_one]) (HM.out.later bb2).lies (bCells_one m) ?c3 ?c4 ?c5 ?_)
  case c3 => unfold maxLen; omega
  case c4 => omega
  case c5 => exact hz2'
  intro v3 w3 ho3 hg3 _
  have bb3 : Below w.heap.size w w3 := bb2.grown hg3 hz2' (fun k' hk' => own_ge HO.out _ hk')
  rw [← bCells_append, ← List.length_append] at ho3
  obtain ⟨D, d, rfl, hD⟩ := OneB.of_own ho3 HPB.out
  have HD := Lib.hid hD
  rw [List.length_append]
  clear ho3 hg3 hD
  go_wp2_with fail
  refine (NR.out D d _ HD.out).mono ?_
  rintro e w4 hg
  obtain ⟨R, dr, rfl, hR, b4⟩ := hg.one H.out.byte
  have bb4 := below_on bb3 b4
  have HR := Lib.hid hR
  clear hg hR
  go_wp2_with fail
  refine (NA.out _ (H.out.later bb4)).mono ?_
  rintro e w5 hg
  obtain ⟨P, dp, rfl, -, b5⟩ := hg.one HPP.out
  have bb5 := below_on bb4 b5
  have NS := Lib.hid (bsame_any R A dr c r r w5 (HR.out.later b5) (H.out.later bb5))
  rw [decide_eq_true rfl] at NS
  clear hg
  go_wp2_with fail
  refine NS.out.mono ?_
  rintro e w6 ⟨rfl, b6⟩
  have bb6 := below_on bb5 b6
  by_cases hneg : n < 0
  · have hd : decide (n < 0) = true := decide_eq_true hneg
    clear NS HR HD HO
    go_wp2
    go_ret
    exact ⟨by first | rfl | simp, bb6⟩
  · have hd : decide (n < 0) = false := decide_eq_false hneg
    obtain ⟨t, rfl⟩ := Int.eq_ofNat_of_zero_le (show 0 ≤ n by omega)
    have ht : t ≤ 9223372036854775807 := by omega
    have hbt := bytesOf_byte t ht
    have hq10 := (Pk.nb_len 9 t).2
    have hnum := Pk.num_laid t ht m
    have nn := fun wx => SP.appn none 0 [] (t : Int) wx (by omega) (by omega) (by simp) (OneB.nil wx)
    have hap : Pk.appn [] (t : Int) = (Pk.bytesOf t, 0) := by unfold Pk.appn; rw [if_neg hneg, Int.toNat_natCast]; rfl
    simp only [hap] at nn
    have hq10 : (Pk.bytesOf t).length ≤ 10 := hq10
    obtain ⟨q, hq⟩ : ∃ q, Pk.bytesOf t = q := ⟨_, rfl⟩
    rw [hq] at hbt hnum hq10
    simp only [hq] at nn
    have nb := fun D d wx (hx : OneB wx D d (q ++ m)) => SP.number D d (q ++ m) wx hx
    simp only [hnum] at nb
    have NN := Lib.hid nn
    have NB := Lib.hid (fun D d wx (hx : OneB wx D d (q ++ m)) => (show Calls Try.prog 16 #[.slice D (q.length + m.length) d] wx (Says (.tuple #[.int .i64 (t : Int), .int .i64 (q.length : Int), .int .i64 0]) wx) from by
      have k := nb D d wx hx
      rwa [List.length_append] at k))
    have NC := Lib.hid (fun D d wx (hx : OneB wx D d q) => bcopy_any D d q wx (by omega) hx)
    have HQM := Lib.hid (fun x (hx : x ∈ q ++ m) => (List.mem_append.1 hx).elim (hbt x) (HM.out.byte x))
    clear NS HR HD HO hap nn nb hnum hq hbt hneg
    go_wp2_with fail
    refine (NN.out _).mono ?_
    rintro e w7 ⟨B, cb, rfl, hB, b7⟩
    have bb7 := below_on bb6 b7
    have HB := Lib.hid hB
    clear hB
    go_wp2_with fail
    refine (NC.out B cb _ HB.out).mono ?_
    rintro e w8 ⟨u, rfl, ho8, b8⟩
    have bb8 := below_on bb7 b8
    have hz8 := bb8.size
    have ho8' := own_base ho8 bb7.size
    have HO8 := Lib.hid ho8'
    clear ho8 ho8'
    go_wp2_with (at_builtin; refine wpList_append_lies _ rfl _ _ 22 rfl w.heap.size 5 i0 (.int .u8 0) 1 1 Try.underlying22 hi hz0 hz1 hz2 rfl (by decide) _ q.length (bCells q) rfl HO8.out M m.length cm (HM.out.later bb8).noA (bCells m) rfl (by rw [bCells_length, Nat.mul_one]) (HM.out.later bb8).lies (bCells_one m) ?c6 ?c7 ?c8 ?_)
    case c6 => unfold maxLen; omega
    case c7 => omega
    case c8 => exact hz8
    intro v9 w9 ho9 hg9 _
    have bb9 : Below w.heap.size w w9 := bb8.grown hg9 hz8 (fun k' hk' => own_ge HO8.out _ hk')
    rw [← bCells_append, ← List.length_append] at ho9
    obtain ⟨E, ce, rfl, hE⟩ := OneB.of_own ho9 HQM.out
    have HE := Lib.hid hE
    rw [List.length_append]
    clear ho9 hg9 hE
    go_wp2_with fail
    refine (NB.out E ce _ HE.out).mono ?_
    rintro e wa ⟨rfl, ba⟩
    clear HE HO8
    go_wp2
    go_ret
    exact ⟨by first | rfl | simp, below_on bb9 ba⟩

end Go.Proofs.Ytmcaehdhfpeadaa
