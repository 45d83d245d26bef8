/-
  What vector's Meet answers of any lists in memory: the least counts.
  What span's Size, Of, Meet, Less, Covers and Touch answer.
  What trust's Since answers.
  What the closure of trust's Take does, which puts a piece behind zones.
-/
import Derived.Test.YtcfkpjbakccgiaaG19
import Derived.Test.YtcfkpjbakccgiaaG20
import Derived.Test.YtcfkpjbakccgiaaG23
import Derived.Test.YtcfkpjbakccgiaaG11
import Derived.Test.YtcfkpjbakccgiaaG18
namespace Go.Proofs.Ytcfkpjbakccgiaa
open Go.RowKit

set_option maxRecDepth 100000 in
set_option maxHeartbeats 1600000 in
theorem meet_any (A : Option Addr) (c1 : Nat) (ls : List (List (Int × Int))) (w : World) (hcap : ls.length ≤ c1) (hcm : c1 ≤ maxLen) (h1 : Rows w A ls) :
    Calls Try.prog 46 #[.slice A ls.length c1] w (Gives (Ve.meetL ls) w) := by
  have hls := h1.len
  have hl : ls.length ≤ 9223372036854775807 := by unfold maxLen at hcm; omega
  have H1 := Lib.hid h1
  clear h1
  by_cases hne : ls = []
  · subst hne
    have hd : (((0 : Nat) : Int) == 0) = true := rfl
    go_enter Try.func46, Try.ntmps46
    go_wp2
    go_ret
    exact ⟨_, rfl, ⟨rfl, .inl ⟨rfl, rfl⟩⟩, Below.refl _ _⟩
  have hpos : 0 < ls.length := List.length_pos_iff.2 hne
  have hd : ((ls.length : Int) == 0) = false := beq_eq_false_iff_ne.2 (by omega)
  obtain ⟨b, off, hA, hcA⟩ := H1.out hne
  obtain ⟨A', c', e0, hL⟩ := hcA 0 hpos
  rw [Nat.add_zero] at e0
  have hlen := hls 0 hpos
  have hS := hL.stamps
  have H1' := H1
  subst hA
  have hm0 : Ve.cnt (ls.getD 0 []) = Ve.mtTo ls 0 := rfl
  have n1 := fun w h => countsOf_any A' c' (ls.getD 0 []) w hlen h
  rw [hm0] at n1
  obtain ⟨m, hm⟩ : ∃ m, (ls.getD 0 []).length = m := ⟨_, rfl⟩
  rw [hm] at e0 n1
  have N1 := Lib.hid n1
  have HS := Lib.hid hS
  clear n1 hS hm hL hm0 hcA hne
  have hi1 : (0 : Int) < (ls.length : Int) := by omega
  by_cases hc1 : c1 = 1
  · have hl1 : ls.length = 1 := by omega
    have hres : Ve.meetL ls = Ve.ofL (Ve.mtTo ls 0) := by unfold Ve.meetL Ve.mt; rw [if_neg (fun e => by subst e; simp at hpos), hl1]
    have HRES := Lib.hid hres
    clear hres
    subst hc1
    rw [hl1] at hd hi1 ⊢
    clear hl1 hl hcm hcap hpos
    go_enter Try.func46, Try.ntmps46
    go_wp2_with fail
    refine (N1.out _ HS.out).mono ?_
    rintro e w1 ⟨rfl, hb1⟩
    have hz1 := hb1.size
    go_wp2_with (refine wpList_store_row rfl 92 _ _ rfl w1.heap.size (Ve.arr (Ve.mtTo ls 0)) rfl rfl 92 (Ve.arr fun _ => 0) ?s0 (by rw [Ve.arr_size]; exact infoC) (by rw [Ve.arr_size, Ve.arr_size]) (one_arr _) ?_)
    case s0 =>
      rw [← Ve.arr_zero]
      exact Blk.new w1 _ _
    rw [← Ve.arr_zero]
    have B0 := (Blk.new w1 92 (Ve.arr fun _ => 0)).row (Ve.arr (Ve.mtTo ls 0))
    have b0 := below_setRow (below_new (below_on (Below.refl _ _) hb1) (.cells (Ve.arr fun _ => 0) 92)) (g := w1.heap.size) hz1 (Ve.arr (Ve.mtTo ls 0))
    go_loopw [18] (fun s18 wr => s18 = .int .i64 0 ∧ Blk wr w1.heap.size 92 (Ve.arr (Ve.mtTo ls 0)) ∧ Below w.heap.size w wr) (fun _ _ => 0)
    case atStart => exact ⟨rfl, B0, b0⟩
    case round =>
      obtain ⟨rfl, hB, hbw⟩ := hrel
      have HB := Lib.hid hB
      clear hB B0 b0
      go_wp2_with (refine wpList_load_row rfl 92 _ rfl w1.heap.size rfl 92 _ (0, 0) _ HB.out Try.underlying92 rfl (by rw [Ve.arr_size]; exact infoC) ?_)
      refine (vector_any _ _).mono ?_
      rintro e w3 ⟨v, rfl, ho, hb3⟩
      have HO := Lib.hid ho
      have hz := hbw.size
      clear ho
      go_wp2
      go_ret
      exact ⟨_, rfl, by rw [HRES.out]; exact own_base HO.out hz, below_on hbw hb3⟩
  have hc2 : ¬ (c1 - 1 = 0) := by omega
  have hc3 : 1 ≤ c1 := by omega
  obtain ⟨q, hq⟩ : ∃ q, ls.length - 1 = q := ⟨_, rfl⟩
  go_enter Try.func46, Try.ntmps46
  go_wp2_with fail
  refine (N1.out _ HS.out).mono ?_
  rintro e w1 ⟨rfl, hb1⟩
  have hz1 := hb1.size
  go_wp2_with (refine wpList_store_row rfl 92 _ _ rfl w1.heap.size (Ve.arr (Ve.mtTo ls 0)) rfl rfl 92 (Ve.arr fun _ => 0) ?s0 (by rw [Ve.arr_size]; exact infoC) (by rw [Ve.arr_size, Ve.arr_size]) (one_arr _) ?_)
  case s0 =>
    rw [← Ve.arr_zero]
    exact Blk.new w1 _ _
  rw [← Ve.arr_zero]
  have B0 := (Blk.new w1 92 (Ve.arr fun _ => 0)).row (Ve.arr (Ve.mtTo ls 0))
  have b0 := below_setRow (below_new (below_on (Below.refl _ _) hb1) (.cells (Ve.arr fun _ => 0) 92)) (g := w1.heap.size) hz1 (Ve.arr (Ve.mtTo ls 0))
  clear N1 HS e0
  go_loopw [18] (fun s18 wr => ∃ k : Nat, k + 1 ≤ ls.length ∧ s18 = .int .i64 (k : Int) ∧ Blk wr w1.heap.size 92 (Ve.arr (Ve.mtTo ls k)) ∧ Below w.heap.size w wr) (fun s18 _ => ls.length - (intOf s18).toNat)
  case atStart => exact ⟨0, hpos, rfl, B0, b0⟩
  case round =>
    obtain ⟨k, hk, rfl, hB, hbw⟩ := hrel
    clear B0 b0 hb1
    by_cases hlt : k + 1 < ls.length
    · have hne : ls ≠ [] := fun e => by subst e; simp at hlt
      obtain ⟨b', off', hA, hcA⟩ := (H1.out.later hbw) hne
      obtain ⟨A2, c2, e0, hL⟩ := hcA (k + 1) hlt
      have hlen := hls (k + 1) hlt
      have hS := hL.stamps
      injection hA with hA
      injection hA with hA1 hA2
      subst hA1 hA2
      rw [show off + (k + 1) = off + 1 + k from by omega] at e0
      have hi0 : (0 : Int) ≤ (k : Int) := by omega
      have hi1 : (k : Int) < ((q : Nat) : Int) := by omega
      have hjs : ∀ n, Ve.mtTo ls (k + 1) n = Ve.mnTo (Ve.mtTo ls k) (Ve.cnt (ls.getD (k + 1) [])) 64 n ∨ 64 ≤ n := fun n => by
        by_cases hn : n < 64
        · left
          unfold Ve.mnTo
          rw [if_pos hn]
          rfl
        · right; omega
      have n1 := fun w h => countsOf_any A2 c2 (ls.getD (k + 1) []) w hlen h
      obtain ⟨f, hf⟩ : ∃ f, Ve.mtTo ls k = f := ⟨_, rfl⟩
      obtain ⟨g, hg⟩ : ∃ g, Ve.cnt (ls.getD (k + 1) []) = g := ⟨_, rfl⟩
      obtain ⟨m, hm⟩ : ∃ m, (ls.getD (k + 1) []).length = m := ⟨_, rfl⟩
      rw [hg] at n1
      rw [hf, hg] at hjs
      rw [hf] at hB
      rw [hm] at e0 n1
      have HJS := Lib.hid hjs
      have N1 := Lib.hid n1
      have HS := Lib.hid hS
      have HB := Lib.hid hB
      clear hjs n1 hS hB hcA hf hg hm hL
      go_wp2_with fail
      refine (N1.out _ HS.out).mono ?_
      rintro e w2 ⟨rfl, hb2⟩
      have hbx := below_on hbw hb2
      have B1 := HB.out.later hb2
      have hz := hbx.size
      have hlt1 := B1.lt
      clear N1 HS HB hb2
      go_wp2_with (refine wpList_store_row rfl 92 _ _ rfl w2.heap.size (Ve.arr g) rfl rfl 92 (Ve.arr fun _ => 0) ?s1 (by rw [Ve.arr_size]; exact infoC) (by rw [Ve.arr_size, Ve.arr_size]) (one_arr _) ?_)
      case s1 =>
        rw [← Ve.arr_zero]
        exact Blk.new w2 _ _
      rw [← Ve.arr_zero]
      have B5 := (Blk.new w2 92 (Ve.arr fun _ => 0)).row (Ve.arr g)
      have B4 := (B1.alloc (.cells (Ve.arr fun _ => 0) 92)).rowFar (g' := w2.heap.size) (by omega) (Ve.arr g)
      have b6 := below_setRow (below_new hbx (.cells (Ve.arr fun _ => 0) 92)) (g := w2.heap.size) hz (Ve.arr g)
      go_loopw [24] (fun s24 wq => ∃ n : Nat, n ≤ 64 ∧ s24 = .int .i64 (n : Int) ∧ Blk wq w1.heap.size 92 (Ve.arr (Ve.mnTo f g n)) ∧ Blk wq w2.heap.size 92 (Ve.arr g) ∧ Below w.heap.size w wq) (fun s24 _ => 64 - (intOf s24).toNat)
      case atStart => exact ⟨0, by omega, rfl, B4.same (fun i _ => by unfold Ve.mnTo; rw [if_neg (by omega)]), B5, b6⟩
      case round =>
        obtain ⟨n, hn, rfl, hC, hD, hbq⟩ := hrel
        clear B5 B4 b6 B1
        by_cases hlt2 : n < 64
        · have x0 := hC.arr_cell n hlt2
          have x1 := hC.free n
          have y0 := hD.arr_cell n hlt2
          rw [show Ve.mnTo f g n n = f n from by unfold Ve.mnTo; rw [if_neg (by omega)]] at x0
          have hj0 : (0 : Int) ≤ (n : Int) := by omega
          have hj1 : (n : Int) < 64 := by omega
          by_cases hgt : g n < f n
          · have B7 := (hC.arr_put n hlt2 (g n)).same (f' := Ve.mnTo f g (n + 1)) (fun i _ => Ve.mn_step f g n _ (if_pos hgt).symm i)
            have B8 := hD.far (p := ⟨w1.heap.size, n, none⟩) (by show w2.heap.size ≠ w1.heap.size; omega) (.int .i64 (g n))
            have HB7 := Lib.hid B7
            have HB8 := Lib.hid B8
            have hbz := hbq.setCell (p := ⟨w1.heap.size, n, none⟩) hz1 (.int .i64 (g n))
            clear hC hD B7 B8
            go_wp2_with fail
            go_region
            go_wp2_with fail
            go_roundw
            case rel => exact ⟨n + 1, by omega, by go_num, HB7.out.drew, HB8.out.drew, hbz.drew⟩
            case measure => simp [intOf]; omega
          · have hle : f n ≤ g n := by omega
            have B7 := (hC.arr_put n hlt2 (f n)).same (f' := Ve.mnTo f g (n + 1)) (fun i _ => Ve.mn_step f g n _ (if_neg hgt).symm i)
            have B8 := hD.far (p := ⟨w1.heap.size, n, none⟩) (by show w2.heap.size ≠ w1.heap.size; omega) (.int .i64 (f n))
            have HB7 := Lib.hid B7
            have HB8 := Lib.hid B8
            have hbz := hbq.setCell (p := ⟨w1.heap.size, n, none⟩) hz1 (.int .i64 (f n))
            clear hC hD B7 B8
            go_wp2_with fail
            go_region
            go_wp2_with fail
            go_roundw
            case rel => exact ⟨n + 1, by omega, by go_num, HB7.out.drew, HB8.out.drew, hbz.drew⟩
            case measure => simp [intOf]; omega
        · have hn64 : n = 64 := by omega
          subst hn64
          have B9 := hC.same (f' := Ve.mtTo ls (k + 1)) (fun i hi => by
            rcases HJS.out i with h | h
            · exact h.symm
            · omega)
          have HB9 := Lib.hid B9
          clear hC hD B9
          go_wp2_with fail
          go_roundw
          case rel => exact ⟨k + 1, by omega, by go_num, HB9.out, hbq⟩
          case measure => simp [intOf]; omega
    · have hkl : ls.length = k + 1 := by omega
      have hqk : q = k := by omega
      subst hqk
      have hres : Ve.meetL ls = Ve.ofL (Ve.mtTo ls q) := by unfold Ve.meetL Ve.mt; rw [if_neg (fun e => by subst e; simp at hpos), hkl]; rfl
      have HRES := Lib.hid hres
      have HB := Lib.hid hB
      clear hB hres
      go_wp2_with (refine wpList_load_row rfl 92 _ rfl w1.heap.size rfl 92 _ (0, 0) _ HB.out Try.underlying92 rfl (by rw [Ve.arr_size]; exact infoC) ?_)
      refine (vector_any _ _).mono ?_
      rintro e w3 ⟨v, rfl, ho, hb3⟩
      have HO := Lib.hid ho
      have hz := hbw.size
      clear ho
      go_wp2
      go_ret
      exact ⟨_, rfl, by rw [HRES.out]; exact own_base HO.out hz, below_on hbw hb3⟩

end Go.Proofs.Ytcfkpjbakccgiaa
namespace Go.Proofs.Ytcfkpjbakccgiaa
open Go.RowKit Go.Shelf Fb
attribute [local go_sem] Oper.semAt_some

set_option maxRecDepth 100000 in
set_option maxHeartbeats 1600000 in
theorem spof_any (A : Option Addr) (c : Nat) (xs : List Int) (w : World) (hl : xs.length ≤ 9223372036854775807) (h1 : Lies w A (xs.map (Value.int .i64))) :
    Calls Try.prog 82 #[.slice A xs.length c] w (GivesS (Sp.ofL (Sp.someOf xs)) w) := by
  have H1 := Lib.hid h1
  clear h1
  go_enter Try.func82, Try.ntmps82
  go_wp2_with fail
  rw [set_zero]
  go_loopw [8] (fun s4 wr => ∃ k : Nat, k ≤ xs.length ∧ s4 = .int .i64 (k : Int) ∧ Blk wr w.heap.size 88 (Sp.arr (Sp.someOf (xs.take k))) ∧ Below w.heap.size w wr) (fun s4 _ => xs.length - (intOf s4).toNat)
  case atStart => exact ⟨0, Nat.zero_le _, rfl, Blk.new _ _ _, below_new (Below.refl _ _) _⟩
  case round =>
    obtain ⟨k, hk, rfl, hB, hbw⟩ := hrel
    by_cases hlt : k < xs.length
    · have hne : xs.map (Value.int .i64) ≠ [] := fun e => by rw [List.map_eq_nil_iff] at e; subst e; simp at hlt
      obtain ⟨b, off, hA, hc⟩ := (H1.out.later hbw) hne
      subst hA
      have e0 := hc k (.int .i64 xs[k]) (by rw [List.getElem?_map, List.getElem?_eq_getElem hlt]; rfl)
      have hit := Sp.someOf_take xs k hlt
      obtain ⟨x, hx⟩ : ∃ x, xs[k] = x := ⟨_, rfl⟩
      rw [hx] at e0 hit
      obtain ⟨f, hf⟩ : ∃ f, Sp.someOf (xs.take k) = f := ⟨_, rfl⟩
      rw [hf] at hB hit
      have hi0 : (0 : Int) ≤ (k : Int) := by omega
      have hi1 : (k : Int) < (xs.length : Int) := by omega
      have hout : ¬ (0 ≤ x ∧ x ≤ 255) → ∀ i, i < 256 → f i = Sp.someOf (xs.take (k + 1)) i := fun h i hi => by
        rw [hit i, decide_eq_false (by omega), Bool.or_false]
      have HOUT := Lib.hid hout
      have HIT := Lib.hid hit
      have HB := Lib.hid hB
      clear hout hit hB hc hf hx
      have n1 := fun wx => isObject_any x wx
      by_cases h0 : 0 ≤ x ∧ x ≤ 255
      · rw [decide_eq_true h0] at n1
        have N1 := Lib.hid n1
        obtain ⟨n, rfl⟩ : ∃ n : Nat, x = (n : Int) := ⟨x.toNat, by omega⟩
        have hn : n < 256 := by omega
        clear n1 h0
        go_wp2_with fail
        refine (N1.out _).mono ?_
        rintro e w2 ⟨rfl, b2⟩
        have hbx := below_on hbw b2
        have HC := HB.out.later b2
        have x1 := HC.marks_cell n hn
        have x2 := HC.free n
        have hj0 : (0 : Int) ≤ (n : Int) := by omega
        have hj1 : (n : Int) < 256 := by omega
        have hB2 := (HC.marks_put n hn true).marks_same (f' := Sp.someOf (xs.take (k + 1))) (fun i _ => by
          rw [HIT.out i]
          by_cases e : i = n
          · rw [if_pos e, decide_eq_true (by omega), Bool.or_true]
          · rw [if_neg e, decide_eq_false (by omega), Bool.or_false])
        have HB2 := Lib.hid hB2
        have hbz := hbx.setCell (p := ⟨w.heap.size, n, none⟩) (Nat.le_refl _) (.bool true)
        clear hB2 HC N1
        go_wp2_with fail
        go_roundw
        case rel => exact ⟨k + 1, by omega, by go_num, HB2.out, hbz⟩
        case measure => simp [intOf]; omega
      · rw [decide_eq_false h0] at n1
        have N1 := Lib.hid n1
        have HB2 := Lib.hid (HB.out.marks_same (HOUT.out h0))
        clear n1
        go_wp2_with fail
        refine (N1.out _).mono ?_
        rintro e w2 ⟨rfl, b2⟩
        have HB3 := Lib.hid (HB2.out.later b2)
        have hbx := below_on hbw b2
        clear N1
        go_wp2_with fail
        go_roundw
        case rel => exact ⟨k + 1, by omega, by go_num, HB3.out, hbx⟩
        case measure => simp [intOf]; omega
    · have hkl : k = xs.length := by omega
      subst hkl
      rw [List.take_length] at hB
      have HB := Lib.hid hB
      clear hB
      go_wp2_with (refine wpList_load_row rfl 88 _ rfl w.heap.size rfl 88 _ (0, 0) _ HB.out Try.underlying88 rfl (by rw [Sp.arr_size]; exact infoSet) ?_)
      refine (spans_any _ _).mono ?_
      rintro e w3 ⟨v, rfl, ho, hb3⟩
      have HO := Lib.hid ho
      have hz := hbw.size
      clear ho
      go_wp2
      go_ret
      exact ⟨_, rfl, own_base HO.out hz, below_on hbw hb3⟩

set_option maxRecDepth 100000 in
set_option maxHeartbeats 3200000 in
theorem spmeet_any (A B : Option Addr) (c d : Nat) (l r : List (Int × Int)) (w : World) (h1 : OneL w A c l) (h2 : OneL w B d r) :
    Calls Try.prog 72 #[.slice A l.length c, .slice B r.length d] w (GivesS (Sp.meetS l r) w) := by
  have n0 := fun t => setOf_one h2 t
  have n1 := fun wx (hx : OneL wx A c l) => spAll_any A c l wx hx
  have hsq := fun n₀ B bc dc D wx hx h1 h2 => walkO_stops (Sp.inL l) n₀ B bc dc D wx hx h1 h2
  have hall := Sp.hasF_all (Sp.inL l)
  unfold Sp.meetS
  obtain ⟨J, hJ⟩ : ∃ J, Sp.comesO Sp.objF (Sp.inL l) 256 = J := ⟨_, rfl⟩
  obtain ⟨L, hL⟩ : ∃ L, Sp.ofL (Sp.inL l) = L := ⟨_, rfl⟩
  obtain ⟨f, hf⟩ : ∃ f, Sp.inL l = f := ⟨_, rfl⟩
  obtain ⟨g, hg⟩ : ∃ g, Sp.inL r = g := ⟨_, rfl⟩
  rw [hJ] at hsq hall
  rw [hL] at n1 hsq
  rw [hf] at hall ⊢
  rw [hg] at n0 ⊢
  have SQ := Lib.hid hsq
  have N0 := Lib.hid n0
  have N1 := Lib.hid n1
  have H1 := Lib.hid h1
  have HALL := Lib.hid hall
  clear n0 n1 h1 h2 hJ hL hf hg hsq hall
  refine (callsIn_wide (n := 3)).1 ?_
  refine callsIn_of_wp_marks Try.func72 rfl trivial ?_ rfl
  simp only [Try.ntmps72, List.size_toArray, List.length_cons, List.length_nil, Nat.reduceAdd, Nat.reduceSub, Array.replicate_succ, Array.replicate_zero, List.push_toArray, List.append_toArray, List.nil_append, List.cons_append]
  gi_wp2_with fail
  refine ⟨trivial, (callsIn_wide.2 (N0.out _)).mono ?_⟩
  rintro e w1 ⟨rfl, b1⟩
  have E5 := Blk.new w1 88 (Sp.arr fun _ => false)
  have F5 := (E5.row (Sp.arr g)).alloc (.cells (Sp.arr fun _ => false) 88)
  have hzz : ((w1.alloc (.cells (Sp.arr fun _ => false) 88)).setRow w1.heap.size (Sp.arr g)).heap.size = w1.heap.size + 1 := by simp
  have F6 := Blk.new ((w1.alloc (.cells (Sp.arr fun _ => false) 88)).setRow w1.heap.size (Sp.arr g)) 88 (Sp.arr fun _ => false)
  have b3 := below_new (below_setRow (below_new b1 (.cells (Sp.arr fun _ => false) 88)) b1.size (Sp.arr g)) (.cells (Sp.arr fun _ => false) 88)
  rw [hzz] at F6
  have z3 : (((w1.alloc (.cells (Sp.arr fun _ => false) 88)).setRow w1.heap.size (Sp.arr g)).alloc (.cells (Sp.arr fun _ => false) 88)).heap.size = w1.heap.size + 2 := by simp
  rw [← set_zero] at E5
  gi_wp2_with (refine in_store_row rfl 88 _ _ rfl w1.heap.size _ rfl rfl 88 _ E5 (by rw [Sp.arr_size]; exact infoSet) (by rw [set_zero, Sp.arr_size, Sp.arr_size]) (one_marks _) ?_)
  rw [set_zero]
  obtain ⟨W3, hW3⟩ : ∃ W3, ((w1.alloc (.cells (Sp.arr fun _ => false) 88)).setRow w1.heap.size (Sp.arr g)).alloc (.cells (Sp.arr fun _ => false) 88) = W3 := ⟨_, rfl⟩
  rw [hW3] at F5 F6 b3 z3 ⊢
  have hz1 := b1.size
  clear hW3 E5 hzz N0
  refine ⟨trivial, (callsIn_wide.2 (N1.out _ (H1.out.later b3))).mono ?_⟩
  rintro e w4 ⟨bc, D, dc, rfl, hc, hfar, b4⟩
  have bb4 := below_on b3 b4
  have G5 := F5.later b4
  have G6 := F6.later b4
  have z4 := b4.size
  clear F5 F6 N1 H1
  gi_wp2_with fail
  refine wpIn_rangeFunc_ownF rfl (by omega) (gf := 93) (lb := #[.pointer (some ⟨bc, 0, none⟩)]) rfl trivial enters_eachO (SQ.out w.heap.size W3.heap.size bc dc D w4 b4.size hc hfar) KeepC.trans (fun W l' o o' _ h1 h2 _ => KeepC.mark W l' o o' h1 h2) (Below.refl _ _) (fun _ => rfl)
    (fun pre W => (Blk W w1.heap.size 88 (Sp.arr g) ∧ Blk W (w1.heap.size + 1) 88 (Sp.arr fun j => Sp.hasF pre j && g j)) ∧ Below w.heap.size w W)
    (fun _ _ _ => False) ?hI (fun _ _ _ _ _ h _ _ => h) ⟨⟨G5, G6⟩, bb4⟩
    (fun x => { tmps := #[.slice A l.length c, .slice B r.length d, undef, undef, .slice none 0 0, .pointer (some ⟨w1.heap.size, 0, none⟩), .pointer (some ⟨w1.heap.size + 1, 0, none⟩), .int .i64 (x.val : Int), .slice B r.length d, .slice (some ⟨w.heap.size, 0, none⟩) 1 1, .agg (Sp.arr g), .slice A l.length c, .func (.func 93) #[] #[.pointer (some ⟨bc, 0, none⟩)], .int .i64 (x.val : Int), undef, undef, undef, undef, undef, undef, undef], defers := [] }) ?assign ?body ?done ?stop
  case hI => exact OwnFrom.and (OwnFrom.and (Own.from (blk_own _ _ fun _ => Sp.arr g) _) (Own.from (blk_own _ _ fun pre => Sp.arr fun j => Sp.hasF pre j && g j) _)) (ownFrom_below (Nat.le_refl _) bb4.size)
  case assign =>
    intro l' x W K hK
    unfold tellO
    gi_wp2
    exact hK
  case body =>
    rintro l' pre x W ⟨⟨hB5, hB6⟩, hBw⟩ _
    have c1 := hB5.marks_cell x.val x.isLt
    have c2 := hB6.marks_cell x.val x.isLt
    have c3 := hB6.free x.val
    have hx0 : (0 : Int) ≤ (x.val : Int) := by omega
    have hx1 : (x.val : Int) < 256 := by have := x.isLt; omega
    have hst : ∀ i, i < 256 → (if i = x.val then g x.val else (Sp.hasF pre i && g i)) = (Sp.hasF (pre ++ [x]) i && g i) := fun i _ => by
      rw [Sp.hasF_snoc]
      by_cases hi : i = x.val
      · rw [if_pos hi, decide_eq_true hi.symm, Bool.or_true, Bool.true_and, hi]
      · rw [if_neg hi, decide_eq_false (fun h => hi h.symm), Bool.or_false]
    have B6 := (hB6.marks_put x.val x.isLt (g x.val)).marks_same hst
    have B5 := hB5.far (p := ⟨w1.heap.size + 1, x.val, none⟩) (by show w1.heap.size ≠ w1.heap.size + 1; omega) (.bool (g x.val))
    have hbs := hBw.setCell (p := ⟨w1.heap.size + 1, x.val, none⟩) (by show w.heap.size ≤ w1.heap.size + 1; omega) (.bool (g x.val))
    have HB5 := Lib.hid B5
    have HB6 := Lib.hid B6
    clear hst hB5 hB6 B5 B6
    gi_wp2
    exact ⟨KeepsOthers.setCell _ _ _, KeepC.set _ _ _ (by show w.heap.size ≤ w1.heap.size + 1; omega) (by show w1.heap.size + 1 < W3.heap.size; omega), ⟨HB5.out, HB6.out⟩, hbs⟩
  case done =>
    rintro DD ys W hD hys ⟨⟨hB5, hB6⟩, hBw⟩ hK
    rw [hys] at hB6
    have hN2 := hB6.marks_same (f' := fun j => f j && g j) (fun i hi => by rw [HALL.out i hi])
    have hDl := (Array.getElem?_eq_some_iff.1 hK).1
    have HN := Lib.hid hN2
    clear hB5 hB6 hN2 G5 G6
    gi_wp2_with (refine in_load_row rfl 88 _ rfl (w1.heap.size + 1) rfl 88 _ _ HN.out Try.underlying88 rfl (by rw [Sp.arr_size]; exact infoSet) ?_)
    refine ⟨trivial, (callsIn_wide.2 (spans_any _ _)).mono ?_⟩
    rintro e w5 ⟨v, rfl, ho, b5⟩
    have hK5 := (b5.block DD hDl).trans hK
    have hb5 := below_on hBw b5
    have HO := Lib.hid ho
    clear ho HN
    gi_wp2
    refine ⟨by simp, .inl ⟨_, _, rfl, run_takeDeferred hK5, ?_⟩⟩
    exact ⟨_, results_tmp rfl _ _ _, v, rfl, ownsRow_putObj (own_base HO.out hBw.size) _ hK5 rfl, hb5.trans (belowK_b (w := w) (Nat.le_refl _) w5 DD _ _ (by have := bb4.size; omega) hK5 rfl rfl)⟩
  case stop =>
    rintro DD c pre W _ _ h _
    exact h.elim

set_option maxHeartbeats 800000 in
theorem sptouch_any (A B : Option Addr) (c d : Nat) (l r : List (Int × Int)) (w : World) (h1 : OneL w A c l) (h2 : OneL w B d r) :
    Calls Try.prog 45 #[.slice A l.length c, .slice B r.length d] w (Says (.bool (Sp.touch (Sp.inL l) (Sp.inL r))) w) := by
  have n1 := spmeet_any A B c d l r w h1 h2
  have ht : Sp.touch (Sp.inL l) (Sp.inL r) = decide (0 < (Sp.meetS l r).length) := Sp.touch_ref _ _
  have hlen : (Sp.meetS l r).length ≤ 128 := Sp.ofL_len _
  rw [ht]
  obtain ⟨M, hM⟩ : ∃ M, Sp.meetS l r = M := ⟨_, rfl⟩
  rw [hM] at n1 hlen ⊢
  have N1 := Lib.hid n1
  clear n1 h1 h2 ht hM
  go_enter Try.func45, Try.ntmps45
  go_wp2_with fail
  refine N1.out.mono ?_
  rintro e w1 ⟨v, rfl, ho, b1⟩
  obtain ⟨D, dc, rfl, _⟩ := own_far ho
  clear ho N1
  go_wp2
  go_ret
  exact ⟨by simp, b1⟩

end Go.Proofs.Ytcfkpjbakccgiaa
namespace Go.Proofs.Ytcfkpjbakccgiaa
open Go.RowKit Go.Shelf Fb
attribute [local go_sem] Oper.semAt_some

theorem rowIn_boxed {W : World} {g : Nat} {t : TypeId} {v : Value} (h : Boxed W g t v) : rowIn W g = v.ownBlock := by unfold rowIn; rw [h.cell]; rfl
theorem RowOk.boxed {W : World} {g base size n : Nat} {t e : TypeId} {v : Value} {xs : List Value} (h : Boxed W g t v) (ho : W.ownsRow base e size v n xs) : RowOk g W := ⟨h.lt, fun r hr => own_lt ho r (by rw [rowIn_boxed h] at hr; exact hr)⟩
/-- 'x = append(x, ..)': what that keeps. -/
theorem KeepB.appended {W w1 : World} {g base size m : Nat} {t e : TypeId} {v v' : Value} {ys : List Value} {tmp : Obj} (hv : Boxed W g t v) (hv1 : Boxed w1 g t v) (hown : w1.ownsRow base e size v' m ys) (hg : (W.alloc tmp).grownBy w1 v.ownBlock) (hm : v'.ownBlock = v.ownBlock ∨ v'.ownBlock = some (W.heap.size + 1)) : KeepB g W (w1.setCell ⟨g, 0, none⟩ v') := by
  have hsz := hg.size
  simp only [World.size_alloc] at hsz
  refine ⟨Nat.le_trans (by omega : W.heap.size ≤ w1.heap.size) (KeepsOthers.setCell w1 ⟨g, 0, none⟩ v').size, fun k o h1 h2 h3 h4 => ?_, ?_⟩
  · rw [rowIn_boxed hv] at h4
    have hlt := (Array.getElem?_eq_some_iff.1 h1).1
    rw [Below.heap_setCell w1 ⟨g, 0, none⟩ v' k h3, hg.block k (by simp; omega) (fun e => h4 e.symm)]
    exact (Below.heap_alloc W tmp k hlt).trans h1
  · have hn := rowIn_boxed (hv1.set v')
    rcases hm with hm | hm
    · left
      rw [hn, rowIn_boxed hv, hm]
    · right
      intro r hr
      rw [hn, hm] at hr
      injection hr with hr
      subst hr
      refine ⟨by omega, ?_⟩
      have := own_lt hown _ hm
      simpa using this

/-- Appending all of a slice to a row of the call's own, within a fence: the row lies where it lay, or in a new block. -/
theorem wpListIn_append_lies {F : Fence} {n : Nat} {P : Program} (w : World) {ops : Array Oper} {rest : List Oper} {o : Oper} {a : Act} {Q : Exit → Act → World → Prop} (hgd : o.guard = none) (s x : Operand) (t : TypeId)
    (ho : o.op = .call { callee := .builtin .append, args := #[s, x], argTypes := #[t, t] })
    (base : Nat) (e : TypeId) (i : TypeInfo) (z : Value) (size bytes : Nat) (ht : P.underlying t = some (.slice e)) (hi : P.info? e = some i) (hz : i.zero = some z)
    (hsize : i.size = size) (hby : i.bytes = bytes) (hzs : z.cells.size = size) (hsz : 0 < size)
    (v : Value) (k : Nat) (xs : List Value) (hs : a.eval s = v) (hown : w.ownsRow base e size v k xs)
    (A : Option Addr) (m c : Nat) (hA : A = none → m = 0 ∧ c = 0) (news : List Value) (hx : a.eval x = .slice A m c) (hl : news.length = m * size) (hr : Lies w A news) (h1 : ∀ u ∈ news, u.oneCell' = true)
    (h63 : k + m ≤ maxLen) (hbytes : (k + m) * bytes ≤ 140737488355328) (hbase : base ≤ w.heap.size)
    (h : ∀ v' w', w'.ownsRow base e size v' (k + m) (xs ++ news) → w.grownBy w' v.ownBlock → (v'.ownBlock = v.ownBlock ∨ v'.ownBlock = some w.heap.size) → wpListIn F n P ops Q rest (a.put o.dst v') w') :
    wpListIn F n P ops Q (o :: rest) a w := by
  refine wpListIn_plain hgd fun K hK => ?_
  obtain ⟨v', w', hrun, r1, r2, r3⟩ := run_append_lies (P := P) w base t o.type e i z size bytes ht hi hz hsize hby hzs hsz v k xs hown A m c hA news hl hr h1 h63 hbytes hbase
  unfold Oper.wpIn
  refine ⟨?_, ?_⟩
  · simp [Oper.about, ho, resolve, Target.leads, Sem.run_pure]
  · rw [Oper.semAt_plain F _ _ (by rw [ho]; intro c hc'; cases hc')]
    simp [execOp, ho, resolve, invoke, builtin, hs, hx, hrun, Result.andThen]
    exact hK _ _ (h v' w' r1 r2 r3)

/-- The slices of the pieces that a set meets. -/
def hitK (P : List Zc) (us : List (Int × Int)) (pre : List Nat) : List Nat := pre.filter fun k => Tr.hits (Sp.inL us) (P.getD k Zc.none).zn
def hitV (P : List Zc) (us : List (Int × Int)) (pre : List Nat) : List Value := (hitK P us pre).map fun k => .slice (P.getD k Zc.none).X (P.getD k Zc.none).l.length (P.getD k Zc.none).c
theorem hitK_snoc (P : List Zc) (us : List (Int × Int)) (pre : List Nat) (x : Nat) : hitK P us (pre ++ [x]) = hitK P us pre ++ (if Tr.hits (Sp.inL us) (P.getD x Zc.none).zn = true then [x] else []) := by
  unfold hitK
  rw [List.filter_append, List.filter_cons]
  split <;> rfl
theorem hitK_len (P : List Zc) (us : List (Int × Int)) (pre : List Nat) : (hitK P us pre).length ≤ pre.length := List.length_filter_le _ _
theorem hit_list (P : List Zc) (us : List (Int × Int)) : ∀ l : List Nat, (hitK P us l).map (fun k => (P.getD k Zc.none).l) = (((l.map fun k => P.getD k Zc.none).map Zc.zn).filter (Tr.hits (Sp.inL us))).map fun z => z.2.2
  | [] => rfl
  | k :: r => by
    have ih := hit_list P us r
    unfold hitK at ih ⊢
    rw [List.filter_cons, List.map_cons, List.map_cons, List.filter_cons]
    by_cases h : Tr.hits (Sp.inL us) (P.getD k Zc.none).zn = true
    · rw [if_pos h, if_pos h, List.map_cons, List.map_cons, ih]
      rfl
    · rw [if_neg h, if_neg h, ih]
theorem range_all (P : List Zc) : (List.range P.length).map (fun k => P.getD k Zc.none) = P := by
  apply List.ext_getElem
  · simp
  · intro i h1 h2
    rw [List.getElem_map, List.getElem_range, List.getD_eq_getElem?_getD, List.getElem?_eq_getElem h2]
    rfl
theorem hitK_all (P : List Zc) (us : List (Int × Int)) : (hitK P us (List.range P.length)).map (fun k => (P.getD k Zc.none).l) = ((P.map Zc.zn).filter (Tr.hits (Sp.inL us))).map fun z => z.2.2 := by rw [hit_list, range_all]
/-- A row of the call's own speaks of cells alone. -/
theorem own_row {β : Type} (base : Nat) (e : TypeId) (size n : Nat) (v : Value) (xs : List Value) : Own (fun (_ : β) W => W.ownsRow base e size v n xs) := fun s X Y row h hg hr =>
  own_stays h (fun k hk => hg.block k (own_lt h k hk) (fun e' => by
    obtain ⟨o, ho, hc⟩ := hr k e'.symm
    rcases h.2 with ⟨h1, _⟩ | ⟨g, cap, cur, h1, _, hB, _⟩
    · rw [h1] at hk; cases hk
    · rw [h1] at hk
      injection hk with hk
      subst hk
      rw [hB] at ho
      cases ho
      cases hc))

set_option maxRecDepth 100000 in
set_option maxHeartbeats 6400000 in
theorem tsince_any (A B C : Option Addr) (c cb cc : Nat) (L : List Zc) (kn it : List (Int × Int)) (w : World) (h : OneZ w A c L) (hb : OneL w B cb kn) (hc : OneL w C cc it) :
    Calls Try.prog 20 #[.slice A L.length c, .slice B kn.length cb, .slice C it.length cc] w (Ans (Tr.sncR (L.map Zc.zn) kn it) w) := by
  have N1 := Lib.hid (fun (w' : World) (b : Below w.heap.size w w') => tformed_any A c L w' (h.later b))
  have N2 := Lib.hid (fun (w' : World) (b : Below w.heap.size w w') => formed_any B cb kn w' (hb.later b))
  have HD := Lib.hid h
  have HK := Lib.hid hb
  have HI := Lib.hid hc
  clear h hb hc
  refine (callsIn_wide (n := 3)).1 ?_
  refine callsIn_of_wp_marks Try.func20 rfl trivial ?_ rfl
  simp only [Try.ntmps20, List.size_toArray, List.length_cons, List.length_nil, Nat.reduceAdd, Nat.reduceSub, Array.replicate_succ, Array.replicate_zero, List.push_toArray, List.append_toArray, List.nil_append, List.cons_append]
  cases hq : Tr.fmd (L.map Zc.zn) with
  | false =>
    have hR : Tr.sncR (L.map Zc.zn) kn it = [] := by unfold Tr.sncR; rw [if_neg (fun h => by rw [hq] at h; exact absurd h.1 Bool.false_ne_true)]
    rw [hR]
    rw [hq] at N1
    clear hR hq
    gi_wp2_with fail
    refine ⟨trivial, (callsIn_wide.2 (N1.out _ (Below.refl _ _))).mono ?_⟩
    rintro e w1 ⟨rfl, b1⟩
    clear N1 N2
    gi_wp2_with fail
    refine ⟨trivial, ?_⟩
    gi_wp2
    exact ⟨_, results_tmp rfl _ _ _, none, 0, rfl, OneL.nil, b1⟩
  | true =>
  rw [hq] at N1
  cases hk : Ve.fmd kn with
  | false =>
    have hR : Tr.sncR (L.map Zc.zn) kn it = [] := by unfold Tr.sncR; rw [if_neg (fun h => by rw [hk] at h; exact absurd h.2 Bool.false_ne_true)]
    rw [hR]
    rw [hk] at N2
    clear hR hk
    gi_wp2_with fail
    refine ⟨trivial, (callsIn_wide.2 (N1.out _ (Below.refl _ _))).mono ?_⟩
    rintro e w1 ⟨rfl, b1⟩
    gi_wp2_with fail
    refine ⟨trivial, (callsIn_wide.2 (N2.out _ b1)).mono ?_⟩
    rintro e w2 ⟨rfl, b2⟩
    have FB := Lib.hid (below_on b1 b2)
    clear N1 N2 b1 b2
    gi_wp2
    exact ⟨_, results_tmp rfl _ _ _, none, 0, rfl, OneL.nil, FB.out⟩
  | true =>
  rw [hk] at N2
  have HQ := Lib.hid hq
  have HKF := Lib.hid hk
  obtain ⟨us, hus⟩ : ∃ us, Sp.ofL (Sp.inL it) = us := ⟨_, rfl⟩
  have hsnc := Tr.snc_hit hq hk it (f := Sp.inL us) (fun o ho => by rw [← hus]; exact Sp.inL_ofL _ o ho)
  have husl : us.length ≤ 128 := by rw [← hus]; exact Sp.ofL_len _
  have HSN := Lib.hid hsnc
  have HUS := Lib.hid hus
  clear hq hk hsnc hus
  gi_wp2_with fail
  refine ⟨trivial, (callsIn_wide.2 (N1.out _ (Below.refl _ _))).mono ?_⟩
  rintro e w1 ⟨rfl, b1⟩
  gi_wp2_with fail
  refine ⟨trivial, (callsIn_wide.2 (N2.out _ b1)).mono ?_⟩
  rintro e w2 ⟨rfl, b2⟩
  have bb2 := below_on b1 b2
  have JN := join_one (HI.out.later bb2) 28
  rw [HUS.out] at JN
  have NJ := Lib.hid JN
  clear b1 b2 N1 N2 JN
  gi_wp2_with fail
  refine ⟨trivial, (callsIn_wide.2 NJ.out).mono ?_⟩
  rintro e w3 ⟨u, rfl, ho3, b3⟩
  obtain ⟨U, du, rfl, -, -, -, -⟩ := own_form ho3
  have bb3 := below_on bb2 b3
  have B7 := (Blk.new w3 28 #[.slice U us.length du]).alloc (.cells #[.slice none 0 0] 50)
  have B8 := Blk.new (w3.alloc (.cells #[.slice U us.length du] 28)) 50 #[.slice none 0 0]
  rw [show (w3.alloc (.cells #[.slice U us.length du] 28)).heap.size = w3.heap.size + 1 from by simp] at B8
  have b5 : Below w3.heap.size w3 ((w3.alloc (.cells #[.slice U us.length du] 28)).alloc (.cells #[.slice none 0 0] 50)) := below_new (below_new (Below.refl _ _) _) _
  have hUs := own_later (own_base ho3 bb2.size) b5
  have bb5 := below_on bb3 b5
  have hz3 := bb3.size
  obtain ⟨W5, hW5⟩ : ∃ W5, (w3.alloc (.cells #[.slice U us.length du] 28)).alloc (.cells #[.slice none 0 0] 50) = W5 := ⟨_, rfl⟩
  rw [hW5] at B7 B8 hUs bb5
  obtain ⟨g, hg⟩ : ∃ g, w3.heap.size = g := ⟨_, rfl⟩
  rw [hg] at B7 B8 hz3
  have HW5 := Lib.hid hW5
  have HG := Lib.hid hg
  clear b3 b5 ho3 bb2 bb3 hW5 hg NJ HI HUS
  gi_wp2_with fail
  rw [HW5.out]
  refine ⟨trivial, (callsIn_wide.2 (everything_any W5)).mono ?_⟩
  rintro e w6 ⟨rfl, b6⟩
  have D7 := B7.later b6
  have D8 := B8.later b6
  have hU6 := own_later hUs b6
  have bb6 := below_on bb5 b6
  have NP := Lib.hid (pieces_any A c L ⟨0, 0, B, cb, kn⟩ 0 255 w6)
  clear b6 B7 B8 bb5 hUs
  gi_wp2_with fail
  refine ⟨trivial, (callsIn_wide.2 NP.out).mono ?_⟩
  rintro e w4 ⟨bw, bz, br, rfl, Bw, Bz, Br, l1, l2, l3, b4⟩
  have E7 := D7.later b4
  have E8 := D8.later b4
  have bb4 := below_on bb6 b4
  have hU4 := own_later hU6 b4
  have hlt8 := D8.lt
  clear NP
  gi_wp2_with fail
  rw [HG.out]
  have hrn : rowIn w4 (g + 1) = none := by unfold rowIn; rw [E8.cell (i := 0) rfl]; rfl
  have hok : RowOk (g + 1) w4 := ⟨E8.lt, fun r e => by rw [hrn] at e; cases e⟩
  have hok3 : RowOk (g + 1) w6 := ⟨D8.lt, fun r e => by
    have : rowIn w6 (g + 1) = none := by unfold rowIn; rw [D8.cell (i := 0) rfl]; rfl
    rw [this] at e; cases e⟩
  obtain ⟨P, hP⟩ : ∃ P, pcc ⟨0, 0, B, cb, kn⟩ 255 0 L = P := ⟨_, rfl⟩
  have hpc := fun k => all_piece HQ.out (R := ⟨0, 0, B, cb, kn⟩) HKF.out k
  have hsh := all_short HQ.out ⟨0, 0, B, cb, kn⟩
  have hzn := all_zn L ⟨0, 0, B, cb, kn⟩
  rw [hP] at hpc hsh hzn
  have HPC := Lib.hid hpc
  have HZN := Lib.hid hzn
  have SEQ := pieces_stops (g + 1) 2 L P ⟨0, 0, B, cb, kn⟩ 0 255 hP (fmd_bounds HQ.out) (by omega) (by omega) HD.out.len A c bw bz br w4 hok (Safe.newer hok3 b4 l1 Bw.isCells) (Safe.newer hok3 b4 l3 Br.isCells) Bw Bz Br (ZoneSafe.old HD.out bb4 (by omega) (fun r e => by rw [hrn] at e; cases e))
  have hz4 := bb4.size
  have hg4 := E8.lt
  obtain ⟨i0, hIf, hz0, hz1, hz2⟩ := info_parts infoVe
  have HBB4 := Lib.hid bb4
  clear hpc hzn hP hok3 Bw Bz Br l1 l2 l3 D7 D8 b4 bb6 hU6 hlt8
  refine wpIn_rangeFunc_ownH rfl (by omega) (gf := 71) (lb := #[.pointer (some ⟨bw, 0, none⟩), .pointer (some ⟨bz, 0, none⟩), .pointer (some ⟨br, 0, none⟩)]) rfl trivial enters_eachP SEQ KeepB.trans (fun W l' o o' hl h1 h2 _ => KeepB.put l' o o' h1 h2 (show l' ≠ g + 1 by omega)) (Below.refl _ _) (fun _ => rfl)
    (fun pre W => ((Blk W g 28 #[.slice U us.length du] ∧ W.ownsRow w.heap.size 55 2 (.slice U us.length du) us.length (stCells us)) ∧ ∃ v, Boxed W (g + 1) 50 v ∧ W.ownsRow w.heap.size 23 1 v (hitK P us pre).length (hitV P us pre) ∧ True) ∧ Below w.heap.size w W)
    (fun _ _ _ => False)
    ?hI (fun _ _ _ _ _ h _ _ => h) ⟨⟨⟨E7, hU4⟩, .slice none 0 0, E8, ⟨rfl, .inl ⟨rfl, rfl⟩⟩, trivial⟩, bb4⟩
    (fun x a' W => ∃ Bx, g + 1 < Bx ∧ Blk W Bx 55 #[.int .i64 (P.getD x Zc.none).lo, .int .i64 (P.getD x Zc.none).hi] ∧ a' = { tmps := #[.slice A L.length c, .slice B kn.length cb, .slice C it.length cc, undef, undef, undef, .slice none 0 0, .pointer (some ⟨g, 0, none⟩), .pointer (some ⟨g + 1, 0, none⟩), .pointer (some ⟨Bx, 0, none⟩), .slice (P.getD x Zc.none).X (P.getD x Zc.none).l.length (P.getD x Zc.none).c, .slice A L.length c, .bool true, .bool false, .bool false, .slice B kn.length cb, .bool true, .bool false, .bool false, .slice C it.length cc, .slice (some ⟨w2.heap.size, 0, none⟩) 1 1, .slice U us.length du, .slice A L.length c, .slice B kn.length cb, .agg #[.int .i64 0, .int .i64 255], .func (.func 71) #[] #[.pointer (some ⟨bw, 0, none⟩), .pointer (some ⟨bz, 0, none⟩), .pointer (some ⟨br, 0, none⟩)], .agg #[.int .i64 (P.getD x Zc.none).lo, .int .i64 (P.getD x Zc.none).hi], .slice (P.getD x Zc.none).X (P.getD x Zc.none).l.length (P.getD x Zc.none).c, undef, undef, undef, undef, undef, undef, undef, undef, undef, undef, undef, undef, undef, undef, undef], defers := [] })
    ?hAx ?assign ?body ?done ?stop
  case hI => exact OwnFrom.and (OwnFrom.and (OwnFrom.and (Own.from (blk_own _ _ fun _ => #[.slice U us.length du]) _) (Own.from (own_row _ _ _ _ _ _) _)) (Own.from (holdsRow_own w.heap.size (g + 1) 50 23 1 (fun pre => (hitK P us pre).length) (fun pre => hitV P us pre) (fun _ _ => True)) _)) (ownFrom_below (Nat.le_refl _) hz4)
  case hAx => exact fun x a' _ X Y row ⟨Bx, h1, h2, h3⟩ hg hr => ⟨Bx, h1, blk_own _ _ (fun (_ : Unit) => #[.int .i64 (P.getD x Zc.none).lo, .int .i64 (P.getD x Zc.none).hi]) () X Y row h2 hg (fun r e => (hr r e).2), h3⟩
  case assign =>
    rintro l' pre x W K ⟨⟨⟨i1, i2⟩, v, hv, hrow, -⟩, i3⟩ hK
    unfold tellP toldP
    have hrW := RowOk.boxed hv hrow
    have bN := below_new (Below.refl W.heap.size W) (.cells #[.int .i64 (P.getD x Zc.none).lo, .int .i64 (P.getD x Zc.none).hi] 55)
    have HK := Lib.hid (fun a' W' h1 h2 h3 h4 => hK a' W' h1 h2 h3 h4)
    have FIN := Lib.hid (show (KeepsFrom w4.heap.size W (W.alloc (.cells #[.int .i64 (P.getD x Zc.none).lo, .int .i64 (P.getD x Zc.none).hi] 55)) ∧ KeepB (g + 1) W (W.alloc (.cells #[.int .i64 (P.getD x Zc.none).lo, .int .i64 (P.getD x Zc.none).hi] 55)) ∧ ((Blk (W.alloc (.cells #[.int .i64 (P.getD x Zc.none).lo, .int .i64 (P.getD x Zc.none).hi] 55)) g 28 #[.slice U us.length du] ∧ (W.alloc (.cells #[.int .i64 (P.getD x Zc.none).lo, .int .i64 (P.getD x Zc.none).hi] 55)).ownsRow w.heap.size 55 2 (.slice U us.length du) us.length (stCells us)) ∧ ∃ v, Boxed (W.alloc (.cells #[.int .i64 (P.getD x Zc.none).lo, .int .i64 (P.getD x Zc.none).hi] 55)) (g + 1) 50 v ∧ (W.alloc (.cells #[.int .i64 (P.getD x Zc.none).lo, .int .i64 (P.getD x Zc.none).hi] 55)).ownsRow w.heap.size 23 1 v (hitK P us pre).length (hitV P us pre) ∧ True) ∧ Below w.heap.size w (W.alloc (.cells #[.int .i64 (P.getD x Zc.none).lo, .int .i64 (P.getD x Zc.none).hi] 55))) ∧ Blk (W.alloc (.cells #[.int .i64 (P.getD x Zc.none).lo, .int .i64 (P.getD x Zc.none).hi] 55)) W.heap.size 55 #[.int .i64 (P.getD x Zc.none).lo, .int .i64 (P.getD x Zc.none).hi] from
      ⟨⟨(KeepsOthers.alloc _ _).from _, KeepB.below hrW bN, ⟨⟨i1.alloc _, own_later i2 bN⟩, v, hv.alloc _, own_later hrow bN, trivial⟩, below_new i3 _⟩, Blk.new _ _ _⟩)
    have hlt := hv.lt
    clear hK i1 i2 hv hrow i3 hrW bN
    gi_wp2
    obtain ⟨⟨f1, f2, f3, f4⟩, f6⟩ := FIN.out
    exact HK.out _ _ f1 f2 ⟨f3, f4⟩ ⟨W.heap.size, hlt, f6, rfl⟩
  case body =>
    rintro l' pre x a' W hl _ ⟨⟨⟨i1, i2⟩, v8, hv, hrow, -⟩, i3⟩ ⟨Bx, hBx, hX, rfl⟩ hlt
    obtain ⟨p1, p2, p3, p4, p5⟩ := HPC.out x
    have p5 := p5 W (fun z hz => (HD.out.each z hz).later i3) (HK.out.later i3)
    have hsnoc := hitK_snoc P us pre x
    have hlen := hitK_len P us pre
    have hval : hitV P us (pre ++ [x]) = hitV P us pre ++ (if Tr.hits (Sp.inL us) (P.getD x Zc.none).zn = true then [.slice (P.getD x Zc.none).X (P.getD x Zc.none).l.length (P.getD x Zc.none).c] else []) := by
      unfold hitV
      rw [hsnoc, List.map_append]
      split <;> rfl
    obtain ⟨p, hp⟩ : ∃ p, P.getD x Zc.none = p := ⟨_, rfl⟩
    rw [hp] at hX p1 p2 p3 p4 p5 hsnoc hval ⊢
    obtain ⟨hk0, hhk⟩ : ∃ q, hitK P us pre = q := ⟨_, rfl⟩
    obtain ⟨hv0, hhv⟩ : ∃ q, hitV P us pre = q := ⟨_, rfl⟩
    rw [hhk, hhv] at hrow
    rw [hhk] at hsnoc hlen
    rw [hhv] at hval
    obtain ⟨VA, vc, hvv, -, hvm, hvn, -⟩ := own_form hrow
    unfold maxLen at hvm
    subst hvv
    have HX := Lib.hid hX
    have HU := Lib.hid i2
    have HO7 := Lib.hid i1
    have HV := Lib.hid hv
    have HROW := Lib.hid hrow
    have H5 := Lib.hid p5
    have I3 := Lib.hid i3
    have HSN2 := Lib.hid hsnoc
    have HVAL := Lib.hid hval
    clear hX i1 i2 p5 p4 i3 hp E7 E8 hok SEQ hv hrow hsnoc hval hhk hhv bb4
    gi_wp2_with fail
    refine wpIn_region_facts 3 (by kernel_rfl) (by kernel_rfl) (by kernel_rfl) ?letsoutR
      (fun v => { tmps := #[.slice A L.length c, .slice B kn.length cb, .slice C it.length cc, undef, undef, undef, .slice none 0 0, .pointer (some ⟨g, 0, none⟩), .pointer (some ⟨g + 1, 0, none⟩), .pointer (some ⟨Bx, 0, none⟩), .slice p.X p.l.length p.c, .slice A L.length c, .bool true, .bool false, .bool false, .slice B kn.length cb, .bool true, .bool false, .bool false, .slice C it.length cc, .slice (some ⟨w2.heap.size, 0, none⟩) 1 1, .slice U us.length du, .slice A L.length c, .slice B kn.length cb, .agg #[.int .i64 0, .int .i64 255], .func (.func 71) #[] #[.pointer (some ⟨bw, 0, none⟩), .pointer (some ⟨bz, 0, none⟩), .pointer (some ⟨br, 0, none⟩)], .agg #[.int .i64 p.lo, .int .i64 p.hi], .slice p.X p.l.length p.c, v 0, v 1, v 2, undef, undef, undef, undef, undef, undef, undef, undef, undef, undef, undef, undef], defers := [] }) (fun _ => undef)
      (fun i x wx => match i with
        | 0 => x = .agg #[.int .i64 p.lo, .int .i64 p.hi]
        | 1 => ∃ g, x = .slice (some ⟨g, 0, none⟩) 1 1 ∧ Blk wx g 55 #[.int .i64 p.lo, .int .i64 p.hi]
        | 2 => x = .slice U us.length du
        | _ => True)
      (fun w1 w2 => Below w1.heap.size w1 w2) (fun h1 h2 => below_on h1 h2) (fun _ => Below.refl _ _) (Below.drew (Below.refl _ _)) ?stabR ?stepR ?doneR
    case letsoutR => exact fun ⟨_, _, h⟩ => h
    case stabR =>
      rintro i x w1 w2 h hb
      match i, h with
      | 0, h => exact h
      | 1, h => obtain ⟨g, h1, h2⟩ := h; exact ⟨g, h1, h2.later hb⟩
      | 2, h => exact h
      | i + 3, _ => trivial
    case stepR =>
      intro i hi v w' hb hd
      match i, hi with
      | 0, _ =>
        refine wpOp_oneK rfl (fun KK hKK => ?_)
        have HKK := Lib.hid hKK
        clear hKK hd
        have q0 := cell_later hb (HX.out.cell (i := 0) rfl)
        have q1 := cell_later hb (HX.out.cell (i := 1) rfl)
        go_wp2
        exact HKK.out _ _ ⟨_, (by simp [upd]; done), Below.refl _ _, rfl⟩
      | 1, _ =>
        have h0 : v 0 = _ := hd 0 (List.elem_iff.1 (by kernel_rfl))
        refine wpOp_oneK rfl (fun KK hKK => ?_)
        have HKK := Lib.hid hKK
        clear hKK hd
        rw [h0]
        go_wp2_with fail
        refine (alone_any _ _ _).mono ?_
        rintro e w'' ⟨g, rfl, ob, -, b⟩
        go_wp2
        exact HKK.out _ _ ⟨_, (by simp [upd, h0]; done), b, g, rfl, ob⟩
      | 2, _ =>
        refine wpOp_oneK rfl (fun KK hKK => ?_)
        have HKK := Lib.hid hKK
        clear hKK hd
        have q0 := cell_later hb (HO7.out.cell (i := 0) rfl)
        go_wp2
        exact HKK.out _ _ ⟨_, (by simp [upd]; done), Below.refl _ _, rfl⟩
      | k + 3, hk => exact absurd hk (by omega)
    case doneR =>
      intro v w5 hb hf
      obtain ⟨g1, h1, o1⟩ := hf 1 (by decide)
      have h2 : v 2 = _ := hf 2 (by decide)
      clear hf
      rw [h1, h2]
      obtain ⟨U9, d9, e9, hU9⟩ := OneL.of_own (own_later HU.out hb)
      injection e9 with e9 _ e10
      subst e9 e10
      have NH := sptouch_any (some ⟨g1, 0, none⟩) U 1 du [(p.lo, p.hi)] us w5 (one_stamp o1) hU9
      have BW := Lib.hid hb
      have hhit : Tr.hits (Sp.inL us) p.zn = Sp.touch (Sp.inL [(p.lo, p.hi)]) (Sp.inL us) := rfl
      rw [← hhit] at NH
      have hrW := RowOk.boxed HV.out HROW.out
      have HRW := Lib.hid hrW
      cases hin : Tr.hits (Sp.inL us) p.zn with
      | false =>
        rw [hin] at NH
        have HN := Lib.hid NH
        have h1' := HSN2.out
        have h2' := HVAL.out
        rw [hin, if_neg Bool.false_ne_true, List.append_nil] at h1' h2'
        have HH1 := Lib.hid h1'
        have HH2 := Lib.hid h2'
        clear NH hin hb o1 h1 hU9 hhit hrW h1' h2' HSN2 HVAL
        go_wp2_with fail
        refine HN.out.mono ?_
        rintro e w6 ⟨rfl, b6⟩
        have b7 := below_on BW.out b6
        have FIN := Lib.hid (show KeepsFrom w4.heap.size W w6 ∧ KeepB (g + 1) W w6 ∧ ((Blk w6 g 28 #[.slice U us.length du] ∧ w6.ownsRow w.heap.size 55 2 (.slice U us.length du) us.length (stCells us)) ∧ ∃ v, Boxed w6 (g + 1) 50 v ∧ w6.ownsRow w.heap.size 23 1 v (hitK P us (pre ++ [x])).length (hitV P us (pre ++ [x])) ∧ True) ∧ Below w.heap.size w w6 from
          ⟨⟨b7.size, fun k u _ hk0 _ => (b7.block k (Array.getElem?_eq_some_iff.1 hk0).1).trans hk0⟩, KeepB.below HRW.out b7, ⟨⟨HO7.out.later b7, own_later HU.out b7⟩, _, Blk.later HV.out b7, by rw [HH1.out, HH2.out]; exact own_later HROW.out b7, trivial⟩, below_on I3.out b7⟩)
        clear b6 b7
        go_wp2_with fail
        gi_wp2
        exact FIN.out
      | true =>
        rw [hin] at NH
        have HN := Lib.hid NH
        have h1' := HSN2.out
        have h2' := HVAL.out
        rw [hin, if_pos rfl] at h1' h2'
        have HH1 := Lib.hid h1'
        have HH2 := Lib.hid h2'
        clear NH hin hb o1 h1 hU9 hhit hrW h1' h2' HSN2 HVAL
        go_wp2_with fail
        refine HN.out.mono ?_
        rintro e w6 ⟨rfl, b6⟩
        have b7 := below_on BW.out b6
        have hv6 : Boxed w6 (g + 1) 50 (.slice VA hk0.length vc) := Blk.later HV.out b7
        have hc6 := hv6.cell
        have hrow6 := own_later HROW.out b7
        have hU6 := own_later HU.out b7
        have hO6 := HO7.out.later b7
        have hlt6 := hv6.lt
        have hbw6 := below_on I3.out b7
        have hsz6 := hbw6.size
        have HV6 := Lib.hid hv6
        have HR6 := Lib.hid hrow6
        have HU6 := Lib.hid hU6
        have HO6 := Lib.hid hO6
        have HBW6 := Lib.hid hbw6
        have B7 := Lib.hid b7
        clear b6 b7 hU6 hO6 hbw6
        go_wp2_with fail
        gi_wp2_with (gi_at_builtin; refine Go.Proofs.Ytcfkpjbakccgiaa.wpListIn_append_lies _ rfl _ _ 50 rfl w.heap.size 23 i0 (.slice none 0 0) 1 24 undRows hIf hz0 hz1 hz2 rfl (by decide) _ hk0.length hv0 rfl (hrow6.alloc _) (some ⟨w6.heap.size, 0, none⟩) 1 1 (fun h => by cases h) [.slice p.X p.l.length p.c] rfl rfl ?c1 (by intro u hu; simp at hu; subst hu; rfl) ?c3 ?c4 ?c5 ?_)
        case c1 =>
          intro _
          refine ⟨w6.heap.size, 0, rfl, fun j u hu => ?_⟩
          rw [Nat.zero_add]
          exact (Blk.new w6 23 #[.slice p.X p.l.length p.c]).cell (by simpa using hu)
        case c3 => unfold maxLen; omega
        case c4 => omega
        case c5 => simp; omega
        intro v' w7 hown1 hg1 hm1
        obtain ⟨g', cap', rfl⟩ := ownsRow_succ hown1
        obtain ⟨hv1, hv2, hr2, hk2, hb2⟩ := hv6.appended (by decide) hrow6 hsz6 (by omega) hown1 hg1
        have hc1 := hv1.cell
        have hf1 := hv1.frozen
        have KB := Lib.hid ((KeepB.below HRW.out B7.out).trans (KeepB.appended hv6 hv1 hown1 hg1 hm1))
        have hUN : (w7.setCell ⟨g + 1, 0, none⟩ (.slice (some ⟨g', 0, none⟩) (hk0.length + 1) cap')).ownsRow w.heap.size 55 2 (.slice U us.length du) us.length (stCells us) := by
          have q1 := own_later HU6.out (below_new (Below.refl w6.heap.size w6) (.cells #[.slice p.X p.l.length p.c] 23))
          have q2 := own_stays q1 (fun k hk => hg1.block k (own_lt q1 k hk) (fun e => own_apart HU6.out HR6.out (by decide) k hk e))
          exact own_stays q2 (fun k hk => Below.heap_setCell _ _ _ k (fun e => by
            have e : k = g + 1 := e
            exact hv1.not_row (by decide) q2 (by rw [hk, e])))
        have hON : Blk (w7.setCell ⟨g + 1, 0, none⟩ (.slice (some ⟨g', 0, none⟩) (hk0.length + 1) cap')) g 28 #[.slice U us.length du] := by
          have q1 := HO6.out.alloc (.cells #[.slice p.X p.l.length p.c] 23)
          have q2 : Blk w7 g 28 #[.slice U us.length du] := (hg1.block g q1.lt (fun e => by
            have q1' : Boxed w6 g 28 (.slice U us.length du) := HO6.out
            exact q1'.not_row (by decide) HR6.out e)).trans q1
          exact q2.far (p := ⟨g + 1, 0, none⟩) (by show g ≠ g + 1; omega) _
        have HUN := Lib.hid hUN
        have HON := Lib.hid hON
        have HV2 := Lib.hid hv2
        have HR2 := Lib.hid hr2
        have KF := Lib.hid (show KeepsFrom w4.heap.size W (w7.setCell ⟨g + 1, 0, none⟩ (.slice (some ⟨g', 0, none⟩) (hk0.length + 1) cap')) from KeepsFrom.trans ⟨B7.out.size, fun k u _ hk0 _ => (B7.out.block k (Array.getElem?_eq_some_iff.1 hk0).1).trans hk0⟩ (hk2.from _))
        have FB := Lib.hid (HBW6.out.trans hb2)
        clear hv2 hr2 hown1 hg1 hrow6 hv6 hv1 hUN hON hk2 hb2 hc6
        gi_wp2
        exact ⟨KF.out, KB.out, ⟨⟨HON.out, HUN.out⟩, _, HV2.out, by rw [HH1.out, HH2.out, List.length_append]; exact HR2.out, trivial⟩, FB.out⟩
  case done =>
    rintro DD ys W hDD hys ⟨⟨-, v, hv, hrow, -⟩, i3⟩ hK
    have hall := hitK_all P us
    rw [HZN.out] at hall
    have hall : (hitK P us (List.range P.length)).map (fun k => (P.getD k Zc.none).l) = Tr.hit (L.map Zc.zn) kn (Sp.inL us) := hall
    rw [← hys] at hall
    have hkl := hitK_len P us ys
    have hyl : ys.length = P.length := by rw [hys, List.length_range]
    have hR := HSN.out
    rw [← hall, List.length_map] at hR
    obtain ⟨ks, hks⟩ : ∃ ks, hitK P us ys = ks := ⟨_, rfl⟩
    have hval : hitV P us ys = ks.map fun k => .slice (P.getD k Zc.none).X (P.getD k Zc.none).l.length (P.getD k Zc.none).c := by unfold hitV; rw [hks]
    rw [hks] at hrow hR hkl
    rw [hval] at hrow
    obtain ⟨VA, vc, hvv, hvl, hvm, hvn, hvL⟩ := own_form hrow
    subst hvv
    have hrows : ∀ w' : World, Below W.heap.size W w' → Rows w' VA (ks.map fun k => (P.getD k Zc.none).l) := fun w' hb' hne => by
      have hne2 : ks ≠ [] := fun e => hne (by rw [e]; rfl)
      obtain ⟨b, off, hA, hcs⟩ := (hvL.later hb') (fun e => hne2 (List.map_eq_nil_iff.1 e))
      refine ⟨b, off, hA, fun j hj => ?_⟩
      rw [List.length_map] at hj
      have hgd : (ks.map fun k => (P.getD k Zc.none).l).getD j [] = (P.getD ks[j] Zc.none).l := by rw [List.getD_eq_getElem?_getD, List.getElem?_map, List.getElem?_eq_getElem hj]; rfl
      rw [hgd]
      exact ⟨_, _, hcs j _ (by rw [List.getElem?_map, List.getElem?_eq_getElem hj]; rfl), ((HPC.out ks[j]).2.2.2.2 W (fun z hz => (HD.out.each z hz).later i3) (HK.out.later i3)).later hb'⟩
    have hc := hv.cell
    have hz5 := i3.size
    have HR := Lib.hid hR
    have HROWS := Lib.hid hrows
    have HK2 := Lib.hid hK
    have I3 := Lib.hid i3
    have hDl := (Array.getElem?_eq_some_iff.1 hK).1
    have HML := Lib.hid (fun w' hb' => meet_any VA vc (ks.map fun k => (P.getD k Zc.none).l) w' (by rw [List.length_map]; exact hvl) hvm (hrows w' hb'))
    obtain ⟨m, hm⟩ : ∃ m, ks.length = m := ⟨_, rfl⟩
    obtain ⟨ms, hms⟩ : ∃ ms, Ve.meetL (ks.map fun k => (P.getD k Zc.none).l) = ms := ⟨_, rfl⟩
    rw [hm, hms] at HR
    rw [hm] at hc
    have HM := Lib.hid (show ∀ w', Below W.heap.size W w' → Calls Try.prog 46 #[.slice VA m vc] w' (Gives ms w') from fun w' hb' => by
      have h1 := HML.out w' hb'
      rw [List.length_map, hm, hms] at h1
      exact h1)
    have hmm : m ≤ 513 := by omega
    clear hv hrow hall hkl hyl hR hks hval hvL hrows i3 hK HML hms hm hys SEQ E7 E8 hok HSN hU4 hvl hvn bb4
    by_cases h0 : m = 0
    · subst h0
      have hr2 := HR.out
      rw [if_pos rfl] at hr2
      have HR2 := Lib.hid hr2
      have dn : (((0 : Nat) : Int) == 0) = true := rfl
      have CL := Lib.hid (cloneS_any B cb kn W (by have := Tr.short HKF.out; omega) (HK.out.later I3.out))
      clear hr2 HR HM HROWS
      gi_wp2_with fail
      refine ⟨trivial, (callsIn_wide.2 CL.out).mono ?_⟩
      rintro e w5 ⟨v5, rfl, ho5, b5⟩
      have hK5 := (b5.block DD hDl).trans HK2.out
      have hb5 := below_on I3.out b5
      obtain ⟨X5, c5, hv5, hO5⟩ := OneL.of_own (ownsRow_putObj ho5 (.deferred none) hK5 rfl)
      subst hv5
      have HO5 := Lib.hid hO5
      have HK5 := Lib.hid hK5
      have FB := Lib.hid (hb5.trans (belowK_b (w := w) (Nat.le_refl _) w5 DD _ (.deferred none) (by omega) hK5 rfl rfl))
      clear ho5 b5 hb5 hO5 hK5 CL hDl
      gi_wp2
      refine ⟨by simp, .inl ⟨_, _, rfl, run_takeDeferred HK5.out, ?_⟩⟩
      exact ⟨_, results_tmp rfl _ _ _, by rw [HR2.out]; exact ⟨X5, c5, rfl, HO5.out, FB.out⟩⟩
    · have hr2 := HR.out
      rw [if_neg h0] at hr2
      have HR2 := Lib.hid hr2
      have dn : ((m : Int) == 0) = false := by rw [beq_eq_false_iff_ne]; omega
      have dn2 : decide ((m : Int) = 0) = false := decide_eq_false (by omega)
      clear hr2 HR HROWS h0
      gi_wp2_with fail
      refine ⟨trivial, (callsIn_wide.2 (HM.out _ (Below.refl _ _))).mono ?_⟩
      rintro e w5 ⟨v5, rfl, ho5, b5⟩
      have hK5 := (b5.block DD hDl).trans HK2.out
      have hb5 := below_on I3.out b5
      obtain ⟨X5, c5, hv5, hO5⟩ := OneL.of_own (ownsRow_putObj ho5 (.deferred none) hK5 rfl)
      subst hv5
      have HO5 := Lib.hid hO5
      have HK5 := Lib.hid hK5
      have FB := Lib.hid (hb5.trans (belowK_b (w := w) (Nat.le_refl _) w5 DD _ (.deferred none) (by omega) hK5 rfl rfl))
      clear ho5 b5 hb5 hO5 hK5 HM hDl
      gi_wp2
      refine ⟨by simp, .inl ⟨_, _, rfl, run_takeDeferred HK5.out, ?_⟩⟩
      exact ⟨_, results_tmp rfl _ _ _, by rw [HR2.out]; exact ⟨X5, c5, rfl, HO5.out, FB.out⟩⟩
  case stop =>
    rintro DD cd pre W _ _ h _
    exact h.elim
end Go.Proofs.Ytcfkpjbakccgiaa
namespace Go.Proofs.Ytcfkpjbakccgiaa
open Go.RowKit

/-- What is known while 'zone, last := api.Zone{..}, len(after)-1' goes on: the zone is boxed. -/
def PuF (B : Nat) (lo hi : Int) (r : List (Int × Int)) (K : Nat → Value) : Nat → (Nat → Value) → World → Prop
  | 2, v, w => ∃ Y d, v 2 = .slice Y r.length d ∧ w.ownsRow B 53 2 (.slice Y r.length d) r.length (stCells r)
  | 3, v, w => ∃ Y d, v 3 = .agg #[.int .i64 lo, .int .i64 hi, .slice Y r.length d] ∧ w.ownsRow B 53 2 (.slice Y r.length d) r.length (stCells r)
  | 7, v, w => ∃ g u0 u1 u2, v 7 = .pointer (some ⟨g, 0, none⟩) ∧ B ≤ g ∧ Blk w g 57 #[u0, u1, u2]
  | 8, v, w => ∃ g Y d, v 7 = .pointer (some ⟨g, 0, none⟩) ∧ B ≤ g ∧ Blk w g 57 #[.int .i64 lo, .int .i64 hi, .slice Y r.length d] ∧ w.ownsRow B 53 2 (.slice Y r.length d) r.length (stCells r)
  | i, v, _ => v i = K i
/-- A block of zones is not one of stamps. -/
theorem own_not {w : World} {base size n g : Nat} {e t : TypeId} {u : Value} {xs : List Value} {c0 : Array Value} (h : w.ownsRow base e size u n xs) (hB : Blk w g t c0) (hne : t ≠ e) : ∀ k, u.ownBlock = some k → k ≠ g := fun k hk ek => by
  subst ek
  rcases h.2 with ⟨h1, _⟩ | ⟨g3, cap, cur, h1, _, hB3, _⟩
  · rw [h1] at hk; cases hk
  · rw [h1] at hk
    injection hk with hk
    subst hk
    unfold Blk at hB
    rw [hB] at hB3
    injection hB3 with hB3
    injection hB3 with _ h4
    exact hne h4
section
variable {B : Nat} {lo hi : Int} {r : List (Int × Int)} {K : Nat → Value} {v : Nat → Value} {w w' : World}
theorem PuF.loc {i k : Nat} {x : Value} (hk : k ≠ i) (h7 : i = 8 → k ≠ 7) (h : PuF B lo hi r K i v w) : PuF B lo hi r K i (upd v k x) w := by
  unfold PuF at h ⊢
  split at h <;> first
    | (rw [upd_other v k x (fun e => hk e.symm)]; exact h)
    | (rw [upd_other v k x (fun e => h7 rfl e.symm)]; exact h)
theorem PuF.later (hb : Below w.heap.size w w') {i : Nat} (h : PuF B lo hi r K i v w) : PuF B lo hi r K i v w' := by
  unfold PuF at h ⊢
  split at h
  · obtain ⟨Y, d, h1, h2⟩ := h; exact ⟨Y, d, h1, own_later h2 hb⟩
  · obtain ⟨Y, d, h1, h2⟩ := h; exact ⟨Y, d, h1, own_later h2 hb⟩
  · obtain ⟨g, u0, u1, u2, h1, h2, h3⟩ := h; exact ⟨g, u0, u1, u2, h1, h2, h3.later hb⟩
  · obtain ⟨g, Y, d, h1, h2, h3, h4⟩ := h; exact ⟨g, Y, d, h1, h2, h3.later hb, own_later h4 hb⟩
  · exact h
theorem PuF.stored {g : Nat} {cs : Array Value} {u0 u1 u2 : Value} (hY : Blk w g 57 cs) {i : Nat} (hi8 : i ≠ 8) (h : PuF B lo hi r K i v w) : PuF B lo hi r K i v (((w.setCell ⟨g, 0, none⟩ u0).setCell ⟨g, 1, none⟩ u1).setCell ⟨g, 2, none⟩ u2) := by
  have hs : ∀ b, b ≠ g → (((w.setCell ⟨g, 0, none⟩ u0).setCell ⟨g, 1, none⟩ u1).setCell ⟨g, 2, none⟩ u2).heap[b]? = w.heap[b]? := fun b hb => ((Below.heap_setCell _ _ _ _ hb).trans (Below.heap_setCell _ _ _ _ hb)).trans (Below.heap_setCell _ _ _ _ hb)
  unfold PuF at h ⊢
  split at h
  · obtain ⟨Y, d, h1, h2⟩ := h; exact ⟨Y, d, h1, own_stays h2 (fun k hk => hs k (own_not h2 hY (by decide) k hk))⟩
  · obtain ⟨Y, d, h1, h2⟩ := h; exact ⟨Y, d, h1, own_stays h2 (fun k hk => hs k (own_not h2 hY (by decide) k hk))⟩
  · obtain ⟨g2, v0, v1, v2, h1, h2, h3⟩ := h
    by_cases e : g2 = g
    · subst e
      exact ⟨g2, u0, u1, u2, h1, h2, ((h3.put 0 u0).put 1 u1).put 2 u2⟩
    · exact ⟨g2, v0, v1, v2, h1, h2, (hs g2 e).trans h3⟩
  · exact absurd rfl hi8
  · exact h
end

/-- What is answered where a piece was put behind zones. -/
def PutR (g n0 : Nat) (zs : List Zn) (w : World) (e : Ending) (w' : World) : Prop :=
  ∃ u v L, e = .returned u ∧ Boxed w' g 22 v ∧ OwnZ w' n0 v L ∧ L.map Zc.zn = zs ∧ KeepB g w w' ∧ KeepsOthers w w' ∧ Below n0 w w'
theorem keeps_below {w w' : World} (hb : Below w.heap.size w w') : KeepsOthers w w' := ⟨hb.size, fun k _ hk _ => (hb.block k (Array.getElem?_eq_some_iff.1 hk).1).trans hk⟩

/-- A row of another kind, behind 'x = append(x, ..)'. -/
theorem own_past {w w' : World} {gA n0 base sz k sz2 k2 : Nat} {t e e2 : TypeId} {vA v' u : Value} {ys xs : List Value} {tmp : Obj} (h : w.ownsRow base e sz u k xs) (hrow : w.ownsRow n0 e2 sz2 vA k2 ys) (hg : (w.alloc tmp).grownBy w' vA.ownBlock) (hv : Boxed w' gA t vA) (h1 : e ≠ e2) (h2 : t ≠ e) : (w'.setCell ⟨gA, 0, none⟩ v').ownsRow base e sz u k xs := by
  have q1 := own_later h (show Below w.heap.size w (w.alloc tmp) from below_new (Below.refl _ _) _)
  have q2 := own_stays q1 (fun k hk => hg.block k (own_lt q1 k hk) (fun e => own_apart h hrow h1 k hk e))
  exact own_stays q2 (fun k hk => Below.heap_setCell _ _ _ k (fun e => by
    have e : k = gA := e
    exact hv.not_row h2 q2 (by rw [hk, e])))
theorem zCells_last (M : List Zc) (z : Zc) (hi : Int) : (zCells (M ++ [z])).set (M.length * 3 + 1) (.int .i64 hi) = zCells (M ++ [⟨z.lo, hi, z.X, z.c, z.l⟩]) := by
  rw [zCells_append, zCells_append, List.set_append_right _ _ (by rw [zCells_length]; omega), zCells_length, show M.length * 3 + 1 - M.length * 3 = 1 from by omega]
  rfl

set_option maxRecDepth 100000 in
set_option maxHeartbeats 12800000 in
theorem tput_any (gA gT n0 : Nat) (vA : Value) (L : List Zc) (TX X : Option Addr) (tc c : Nat) (T r : List (Int × Int)) (lo hi : Int) (w : World) (hv : Boxed w gA 22 vA) (hO : OwnZ w n0 vA L) (hT : Blk w gT 23 #[.slice TX T.length tc]) (hTL : OneL w TX tc T) (hr : OneL w X c r) (hrf : r.length ≤ 64)
    (hn0 : n0 ≤ w.heap.size) (hn1 : n0 ≤ gA) (hlo : 0 ≤ lo ∧ 0 ≤ hi) (hLh : ∀ z ∈ L, 0 ≤ z.hi ∧ z.hi ≤ 255) (hLl : L.length ≤ 1000000) :
    Calls Try.prog 52 #[.agg #[.int .i64 lo, .int .i64 hi], .slice X r.length c, .pointer (some ⟨gA, 0, none⟩), .pointer (some ⟨gT, 0, none⟩)] w (PutR gA n0 (Tr.put T (L.map Zc.zn) (lo, hi, r)) w) := by
  have b1 := below_new (Below.refl w.heap.size w) (.cells #[.int .i64 lo, .int .i64 hi] 55)
  have B4 := Blk.new w 55 #[.int .i64 lo, .int .i64 hi]
  obtain ⟨W, hW⟩ : ∃ W, w.alloc (.cells #[.int .i64 lo, .int .i64 hi] 55) = W := ⟨_, rfl⟩
  rw [hW] at b1 B4
  obtain ⟨n, hn⟩ : ∃ n, L.length = n := ⟨_, rfl⟩
  obtain ⟨A, ca, hvv, hnc, hcm, hvn, -⟩ := own_form hO.row
  rw [hn] at hvv
  subst hvv
  have HV := Lib.hid hv
  have HO := Lib.hid hO
  have HT := Lib.hid hT
  have HTL := Lib.hid hTL
  have HR := Lib.hid hr
  have HB1 := Lib.hid b1
  have HB4 := Lib.hid B4
  have HW := Lib.hid hW
  have HLH := Lib.hid hLh
  have HN := Lib.hid hn
  have CLN := Lib.hid (fun (w' : World) (hb : Below W.heap.size W w') => cloneS_any X c r w' (by omega) (HR.out.later (below_on HB1.out hb)))
  have c4 := Lib.hid (show W.cell? ⟨gA, 0, none⟩ = some (.slice A n ca) from (Blk.later HV.out b1).cell (i := 0) rfl)
  have b0 := Lib.hid (show W.cell? ⟨w.heap.size, 0, none⟩ = some (.int .i64 lo) from B4.cell (i := 0) rfl)
  have b1' := Lib.hid (show W.cell? ⟨w.heap.size, 1, none⟩ = some (.int .i64 hi) from B4.cell (i := 1) rfl)
  have hwz : w.heap.size + 1 = W.heap.size := by rw [← hW]; simp
  have hnl : n ≤ 1000000 := by omega
  obtain ⟨i1, hI1, hy0, hy1, hy2⟩ := info_parts infoZn
  clear hv hO hT hTL hr b1 B4 hW hLh hn hnc hcm hvn hLl
  go_enter Try.func52, Try.ntmps52
  go_upto_region 1 with (fail)
  rw [HW.out]
  refine wp_region_facts3 9 (by kernel_rfl) (by kernel_rfl)
    (fun v => { tmps := #[.agg #[.int .i64 lo, .int .i64 hi], .slice X r.length c, .pointer (some ⟨gA, 0, none⟩), .pointer (some ⟨gT, 0, none⟩), .pointer (some ⟨w.heap.size, 0, none⟩), undef, v 7, undef, v 0, v 1, v 2, v 3, v 4, v 5, v 6, undef, undef, undef, undef, undef, undef, undef, undef, undef, undef, undef, undef, undef, undef, undef, undef, undef, undef, undef, undef, undef, undef, undef, undef, undef, undef], defers := [] }) (fun _ => undef)
    (PuF W.heap.size lo hi r (fun i => match i with | 0 => .agg #[.int .i64 lo, .int .i64 hi] | 1 => .slice X r.length c | 4 => .slice A n ca | 5 => .int .i64 (n : Int) | 6 => .int .i64 ((n : Int) - 1) | _ => undef))
    (fun w1 w2 => Below W.heap.size w1 w2) (fun h1 h2 => h1.trans h2) (fun _ => Below.refl _ _) (Below.drew (Below.refl _ _)) ?loc ?step ?done
  case loc =>
    intro i_ k v x wx hk hd h
    exact PuF.loc hk (fun e h7 => by subst e; subst h7; exact hd (List.elem_iff.1 (by kernel_rfl))) h
  case step =>
    intro i_ hi_ v w' hb hd
    match i_, hi_ with
    | 0, _ =>
      refine wpOp_oneK rfl (fun KK hKK => ?_)
      have HKK := Lib.hid hKK
      clear hKK hd
      have q0 := cell_later hb b0.out
      have q1 := cell_later hb b1'.out
      go_wp2
      exact HKK.out _ _ ⟨_, (by simp [upd]; done), Below.refl _ _, rfl, fun _ _ _ h => h⟩
    | 1, _ =>
      refine wpOp_oneK rfl (fun KK hKK => ?_)
      have HKK := Lib.hid hKK
      clear hKK hd
      go_wp2
      exact HKK.out _ _ ⟨_, (by simp [upd]; done), Below.refl _ _, rfl, fun _ _ _ h => h⟩
    | 2, _ =>
      have h1 : v 1 = .slice X r.length c := hd 1 (List.elem_iff.1 (by kernel_rfl))
      refine wpOp_oneK rfl (fun KK hKK => ?_)
      have HKK := Lib.hid hKK
      clear hKK hd
      rw [h1]
      have hsz := hb.size
      go_wp2_with fail
      refine (CLN.out _ hb).mono ?_
      rintro e w'' ⟨u, rfl, ho, b2⟩
      obtain ⟨Y, d, rfl, -, -, -, -⟩ := own_form ho
      have HO2 := Lib.hid (own_base ho hsz)
      clear ho
      go_wp2
      exact HKK.out _ _ ⟨_, (by simp [upd, h1]; done), b2.mono hsz, ⟨Y, d, rfl, HO2.out⟩, fun _ _ _ h => h.later b2⟩
    | 3, _ =>
      have h0 : v 0 = .agg #[.int .i64 lo, .int .i64 hi] := hd 0 (List.elem_iff.1 (by kernel_rfl))
      have g2 : ∃ Y d, v 2 = .slice Y r.length d ∧ w'.ownsRow W.heap.size 53 2 (.slice Y r.length d) r.length (stCells r) := hd 2 (List.elem_iff.1 (by kernel_rfl))
      obtain ⟨Y, d, h2, o2⟩ := g2
      refine wpOp_oneK rfl (fun KK hKK => ?_)
      have HKK := Lib.hid hKK
      have HO2 := Lib.hid o2
      clear hKK hd o2
      rw [h0, h2]
      go_wp2
      exact HKK.out _ _ ⟨_, (by simp [upd, h0, h2]; done), Below.refl _ _, ⟨Y, d, rfl, HO2.out⟩, fun _ _ _ h => h⟩
    | 4, _ =>
      refine wpOp_oneK rfl (fun KK hKK => ?_)
      have HKK := Lib.hid hKK
      clear hKK hd
      have q0 := cell_later hb c4.out
      go_wp2
      exact HKK.out _ _ ⟨_, (by simp [upd]; done), Below.refl _ _, rfl, fun _ _ _ h => h⟩
    | 5, _ =>
      have h4 : v 4 = .slice A n ca := hd 4 (List.elem_iff.1 (by kernel_rfl))
      refine wpOp_oneK rfl (fun KK hKK => ?_)
      have HKK := Lib.hid hKK
      clear hKK hd
      rw [h4]
      go_wp2
      exact HKK.out _ _ ⟨_, (by simp [upd, h4]; done), Below.refl _ _, rfl, fun _ _ _ h => h⟩
    | 6, _ =>
      have h5 : v 5 = .int .i64 (n : Int) := hd 5 (List.elem_iff.1 (by kernel_rfl))
      refine wpOp_oneK rfl (fun KK hKK => ?_)
      have HKK := Lib.hid hKK
      clear hKK hd
      rw [h5]
      have lw : IntKind.i64.wrap ((n : Int) - 1) = (n : Int) - 1 := IntWalk.i64_in _ (by omega)
      go_wp2
      exact HKK.out _ _ ⟨_, (by simp [upd, h5]; done), Below.refl _ _, rfl, fun _ _ _ h => h⟩
    | 7, _ =>
      refine wpOp_oneK rfl (fun KK hKK => ?_)
      have HKK := Lib.hid hKK
      clear hKK hd
      have hbn := below_new (Below.refl w'.heap.size w') (.cells #[.int .i64 0, .int .i64 0, .slice none 0 0] 57)
      have KK2 := Lib.hid (Blk.new w' 57 #[.int .i64 0, .int .i64 0, .slice none 0 0])
      have hsz := hb.size
      go_wp2
      exact HKK.out _ _ ⟨_, (by simp [upd]; done), hbn.mono hsz, ⟨w'.heap.size, _, _, _, rfl, hsz, KK2.out⟩, fun _ _ _ h => h.later hbn⟩
    | 8, _ =>
      have g3 : ∃ Y d, v 3 = .agg #[.int .i64 lo, .int .i64 hi, .slice Y r.length d] ∧ w'.ownsRow W.heap.size 53 2 (.slice Y r.length d) r.length (stCells r) := hd 3 (List.elem_iff.1 (by kernel_rfl))
      obtain ⟨Y, d, h3, o3⟩ := g3
      have g7 : ∃ g u0 u1 u2, v 7 = .pointer (some ⟨g, 0, none⟩) ∧ W.heap.size ≤ g ∧ Blk w' g 57 #[u0, u1, u2] := hd 7 (List.elem_iff.1 (by kernel_rfl))
      obtain ⟨g, y0, y1, y2, h7, l7, B7⟩ := g7
      refine wpOp_oneK rfl (fun KK hKK => ?_)
      have HKK := Lib.hid hKK
      clear hKK hd
      rw [h3, h7]
      have z0 := B7.cell (i := 0) rfl
      have z1 := B7.cell (i := 1) rfl
      have z2 := B7.cell (i := 2) rfl
      have zf0 := B7.free 0
      have zf1 := B7.free 1
      have zf2 := B7.free 2
      have BB := Lib.hid B7
      have OO := Lib.hid o3
      clear B7 o3
      go_wp2
      exact HKK.out _ _ ⟨undef, (by simp [upd, h3, h7]; done), (((Below.refl _ _).setCell l7 _).setCell l7 _).setCell l7 _, ⟨g, Y, d, h7, l7, ((BB.out.put 0 _).put 1 _).put 2 _, own_stays OO.out (fun k hk => by
        have hne := own_not OO.out BB.out (by decide) k hk
        exact ((Below.heap_setCell _ _ _ _ hne).trans (Below.heap_setCell _ _ _ _ hne)).trans (Below.heap_setCell _ _ _ _ hne))⟩, fun _ _ hj h => PuF.stored BB.out hj h⟩
    | k + 9, hk => exact absurd hk (by omega)
  case done =>
    intro vv w5 hb hf
    have h0 : vv 0 = .agg #[.int .i64 lo, .int .i64 hi] := hf 0 (by omega)
    have h1 : vv 1 = .slice X r.length c := hf 1 (by omega)
    have h4 : vv 4 = .slice A n ca := hf 4 (by omega)
    have h5 : vv 5 = .int .i64 (n : Int) := hf 5 (by omega)
    have h6 : vv 6 = .int .i64 ((n : Int) - 1) := hf 6 (by omega)
    have g8 : ∃ g Y d, vv 7 = .pointer (some ⟨g, 0, none⟩) ∧ W.heap.size ≤ g ∧ Blk w5 g 57 #[.int .i64 lo, .int .i64 hi, .slice Y r.length d] ∧ w5.ownsRow W.heap.size 53 2 (.slice Y r.length d) r.length (stCells r) := hf 8 (by omega)
    obtain ⟨g, Y, d, h7, l7, G7, O7⟩ := g8
    clear hf
    rw [h0, h1, h4, h5, h6, h7]
    simp only [List.drop_succ_cons, List.drop_zero]
    have BW := Lib.hid (below_on HB1.out hb)
    have HB0 := Lib.hid hb
    have T5 := HT.out.later BW.out
    have t0 := T5.cell (i := 0) rfl
    have CV := Lib.hid (covers_any X TX c tc r T w5 (HR.out.later BW.out) (HTL.out.later BW.out))
    clear hb h0 h1 h4 h5 h6 h7 CLN T5
    go_wp2_with fail
    refine CV.out.mono ?_
    rintro e w6 ⟨rfl, b6⟩
    have BW6 := Lib.hid (below_on BW.out b6)
    have HWW := Lib.hid (below_on HB0.out b6)
    have HG6 := Lib.hid (G7.later b6)
    have HO6 := Lib.hid (own_later O7 b6)
    have hVC : w6.cell? ⟨gA, 0, none⟩ = some (.slice A n ca) := (Blk.later HV.out BW6.out).cell (i := 0) rfl
    have HVC := Lib.hid hVC
    clear b6 G7 O7 CV t0 hVC
    cases hc : Ve.cov (Ve.cnt r) (Ve.cnt T) with
    | true =>
      have FIN := Lib.hid (show Tr.put T (L.map Zc.zn) (lo, hi, r) = L.map Zc.zn from by unfold Tr.put; rw [if_pos hc])
      have hok := RowOk.boxed HV.out HO.out.row
      have KB := Lib.hid (KeepB.below hok BW6.out)
      clear hc hok
      go_wp2
      go_end0
      exact ⟨_, _, L, rfl, Blk.later HV.out BW6.out, HO.out.later BW6.out, FIN.out.symm, KB.out, keeps_below BW6.out, BW6.out.mono hn0⟩
    | false =>
      have HNC := Lib.hid hc
      clear hc
      rcases List.eq_nil_or_concat L with hL | ⟨M, z, hL⟩
      · have hn2 : n = 0 := by rw [← HN.out, hL]; rfl
        subst hL hn2
        have HPUT := Lib.hid (show Tr.put T (([] : List Zc).map Zc.zn) (lo, hi, r) = ([] : List Zc).map Zc.zn ++ [(lo, hi, r)] from by
          unfold Tr.put
          rw [if_neg (by rw [HNC.out]; exact Bool.false_ne_true), if_neg (by unfold Tr.goesOn; rw [decide_eq_true_iff]; simp)])
        go_upto_region 4 with (fail)
        refine wp_region_facts 10 (by kernel_rfl) (by kernel_rfl)
          (fun v => { tmps := #[.agg #[.int .i64 lo, .int .i64 hi], .slice X r.length c, .pointer (some ⟨gA, 0, none⟩), .pointer (some ⟨gT, 0, none⟩), .pointer (some ⟨w.heap.size, 0, none⟩), undef, .pointer (some ⟨g, 0, none⟩), .int .i64 (-1), .agg #[.int .i64 lo, .int .i64 hi], .slice X r.length c, vv 2, vv 3, .slice A 0 ca, .int .i64 0, .int .i64 (-1), undef, undef, undef, undef, .bool false, .slice X r.length c, .slice TX T.length tc, .bool false, undef, v 0, v 1, v 2, v 3, v 4, v 5, v 6, v 7, v 8, v 9, undef, undef, undef, undef, undef, undef, undef], defers := [] }) (fun _ => undef)
          (fun i x wx => match i with
            | 0 => x = .int .i64 (-1 : Int)
            | 1 => x = .bool false
            | 2 => x = .bool false
            | 3 => x = undef
            | 4 => x = undef
            | 5 => x = undef
            | 6 => x = undef
            | 7 => x = undef
            | 8 => x = undef
            | 9 => x = .bool false
            | _ => True)
          (fun w1 w2 => Below w1.heap.size w1 w2) (fun h1 h2 => below_on h1 h2) (fun _ => Below.refl _ _) (Below.drew (Below.refl _ _)) ?staba ?stepa ?donea
        case staba =>
          rintro i x w1 w2 h hb
          match i, h with
          | 0, h => exact h
          | 1, h => exact h
          | 2, h => exact h
          | 3, h => exact h
          | 4, h => exact h
          | 5, h => exact h
          | 6, h => exact h
          | 7, h => exact h
          | 8, h => exact h
          | 9, h => exact h
          | i + 10, _ => trivial
        case stepa =>
          intro i hi v w' hb hd
          match i, hi with
          | 0, _ =>
            refine wpOp_oneK rfl (fun KK hKK => ?_)
            have HKK := Lib.hid hKK
            clear hKK hd
            go_wp2
            exact HKK.out _ _ ⟨_, (by simp [upd]; done), Below.refl _ _, rfl⟩
          | 1, _ =>
            have h0 : v 0 = _ := hd 0 (List.elem_iff.1 (by kernel_rfl))
            refine wpOp_oneK rfl (fun KK hKK => ?_)
            have HKK := Lib.hid hKK
            clear hKK hd
            rw [h0]
            go_wp2
            exact HKK.out _ _ ⟨_, (by simp [upd, h0]; done), Below.refl _ _, rfl⟩
          | 2, _ =>
            have h1 : v 1 = _ := hd 1 (List.elem_iff.1 (by kernel_rfl))
            refine wpOp_oneK rfl (fun KK hKK => ?_)
            have HKK := Lib.hid hKK
            clear hKK hd
            rw [h1]
            go_wp2
            exact HKK.out _ _ ⟨_, (by simp [upd, h1]; done), Below.refl _ _, rfl⟩
          | 3, _ =>
            have h2 : v 2 = _ := hd 2 (List.elem_iff.1 (by kernel_rfl))
            clear hd
            rw [h2]
            exact wpOp_skip rfl (by rfl) ⟨_, (by simp [upd, Act.put, h2]; done), Below.refl _ _, rfl⟩
          | 4, _ =>
            have h2 : v 2 = _ := hd 2 (List.elem_iff.1 (by kernel_rfl))
            clear hd
            rw [h2]
            exact wpOp_skip rfl (by rfl) ⟨_, (by simp [upd, Act.put, h2]; done), Below.refl _ _, rfl⟩
          | 5, _ =>
            have h2 : v 2 = _ := hd 2 (List.elem_iff.1 (by kernel_rfl))
            clear hd
            rw [h2]
            exact wpOp_skip rfl (by rfl) ⟨_, (by simp [upd, Act.put, h2]; done), Below.refl _ _, rfl⟩
          | 6, _ =>
            have h2 : v 2 = _ := hd 2 (List.elem_iff.1 (by kernel_rfl))
            clear hd
            rw [h2]
            exact wpOp_skip rfl (by rfl) ⟨_, (by simp [upd, Act.put, h2]; done), Below.refl _ _, rfl⟩
          | 7, _ =>
            have h2 : v 2 = _ := hd 2 (List.elem_iff.1 (by kernel_rfl))
            clear hd
            rw [h2]
            exact wpOp_skip rfl (by rfl) ⟨_, (by simp [upd, Act.put, h2]; done), Below.refl _ _, rfl⟩
          | 8, _ =>
            have h2 : v 2 = _ := hd 2 (List.elem_iff.1 (by kernel_rfl))
            clear hd
            rw [h2]
            exact wpOp_skip rfl (by rfl) ⟨_, (by simp [upd, Act.put, h2]; done), Below.refl _ _, rfl⟩
          | 9, _ =>
            have h2 : v 2 = _ := hd 2 (List.elem_iff.1 (by kernel_rfl))
            have h8 : v 8 = _ := hd 8 (List.elem_iff.1 (by kernel_rfl))
            refine wpOp_oneK rfl (fun KK hKK => ?_)
            have HKK := Lib.hid hKK
            clear hKK hd
            rw [h2, h8]
            go_wp2
            exact HKK.out _ _ ⟨_, (by simp [upd, h2, h8]; done), Below.refl _ _, rfl⟩
          | k + 10, hk => exact absurd hk (by omega)
        case donea =>
          intro v w5 hb hf
          have h9 : v 9 = _ := hf 9 (by decide)
          clear hf
          rw [h9]
          have BF := below_on BW6.out hb
          have hv5 : Boxed w5 gA 22 (.slice A 0 ca) := Blk.later HV.out BF
          have hO5 := HO.out.later BF
          have hOY := own_later HO6.out hb
          have hG5 := HG6.out.later hb
          have d0 := hG5.cell (i := 0) rfl
          have d1 := hG5.cell (i := 1) rfl
          have d2 := hG5.cell (i := 2) rfl
          have e0 : w5.cell? ⟨gA, 0, none⟩ = some (.slice A 0 ca) := hv5.cell
          have hrow5 := hO5.row
          rw [HN.out] at hrow5
          have hsz5 : n0 ≤ w5.heap.size := by have := BF.size; omega
          have hok := RowOk.boxed HV.out HO.out.row
          have KB0 := Lib.hid (KeepB.below hok BF)
          have b9 := below_new (Below.refl w5.heap.size w5) (.cells #[.int .i64 lo, .int .i64 hi, .slice Y r.length d] 57)
          have YB := Blk.new w5 57 #[.int .i64 lo, .int .i64 hi, .slice Y r.length d]
          have hown := Lib.hid (own_later hrow5 b9)
          have HLY := Lib.hid (show Lies (w5.alloc (.cells #[.int .i64 lo, .int .i64 hi, .slice Y r.length d] 57)) (some ⟨w5.heap.size, 0, none⟩) [.int .i64 lo, .int .i64 hi, .slice Y r.length d] from fun _ => ⟨w5.heap.size, 0, rfl, fun i u hu => by
            rw [Nat.zero_add]
            exact YB.cell (by simpa using hu)⟩)
          have HV5 := Lib.hid hv5
          have HO5 := Lib.hid hO5
          have HOY := Lib.hid hOY
          have HR5 := Lib.hid hrow5
          have HBF := Lib.hid BF
          have hs9 : n0 ≤ (w5.alloc (.cells #[.int .i64 lo, .int .i64 hi, .slice Y r.length d] 57)).heap.size := by rw [World.size_alloc]; omega
          clear hb hv5 hO5 hOY hG5 hrow5 hok b9 YB BF
          go_wp2_with (at_builtin; refine Go.Proofs.Ytcfkpjbakccgiaa.wpList_append_lies _ rfl _ _ 22 rfl n0 57 i1 (.agg #[.int .i64 0, .int .i64 0, .slice none 0 0]) 3 40 Try.underlying22 hI1 hy0 hy1 hy2 rfl (by decide) (.slice A 0 ca) 0 (zCells []) rfl hown.out (some ⟨w5.heap.size, 0, none⟩) 1 1 (fun h => by cases h) [.int .i64 lo, .int .i64 hi, .slice Y r.length d] rfl rfl HLY.out (by intro u hu; simp at hu; rcases hu with rfl | rfl | rfl <;> rfl) ?d3a ?d4a ?d5a ?_)
          case d3a => unfold maxLen; omega
          case d4a => omega
          case d5a => exact hs9
          intro v7 w7 ho7 hg7 hm7
          obtain ⟨g', cap', rfl⟩ := ownsRow_succ ho7
          obtain ⟨hv1, hv2, hr2, hk2, hb2⟩ := HV5.out.appended (by decide) HR5.out hsz5 hn1 ho7 hg7
          have e1 : w7.cell? ⟨gA, 0, none⟩ = some (.slice A 0 ca) := hv1.cell
          have hf1 := hv1.frozen
          have FIN := Lib.hid (show PutR gA n0 (Tr.put T (([] : List Zc).map Zc.zn) (lo, hi, r)) w (.returned (.tuple #[])) (w7.setCell ⟨gA, 0, none⟩ (.slice (some ⟨g', 0, none⟩) (0 + 1) cap')) from
            ⟨_, _, [] ++ [⟨lo, hi, Y, d, r⟩], rfl, hv2, ⟨by rw [List.length_append, HN.out, zCells_append]; exact hr2, fun y hy => by
              rcases List.mem_append.1 hy with hy | hy
              · exact own_past (HO5.out.each y hy) HR5.out hg7 hv1 (by decide) (by decide)
              · rw [List.mem_singleton] at hy
                subst hy
                exact own_base (own_past HOY.out HR5.out hg7 hv1 (by decide) (by decide)) (by omega)⟩, by rw [HPUT.out, List.map_append]; rfl, KB0.out.trans (KeepB.appended HV5.out hv1 ho7 hg7 hm7), (keeps_below HBF.out).trans hk2, (HBF.out.mono hn0).trans hb2⟩)
          clear hv1 hv2 hr2 hk2 hb2 ho7 hg7 hm7 e0 d0 d1 d2
          go_wp2
          go_end0
          obtain ⟨_, f⟩ := FIN.out
          exact ⟨_, f⟩
      · have hL9 : L = M ++ [z] := by simpa using hL
        clear hL
        obtain ⟨m, hm⟩ : ∃ m, M.length = m := ⟨_, rfl⟩
        have hn2 : n = m + 1 := by rw [← HN.out, hL9, List.length_append, hm]; rfl
        subst hL9 hn2
        obtain ⟨ga, ca2, hga⟩ := own_len HO.out.row (by rw [HN.out]; omega)
        rw [HN.out] at hga
        injection hga with hga _ hgc
        subst hga hgc
        have lwm : ((m + 1 : Nat) : Int) - 1 = (m : Int) := by omega
        have im0 : (0 : Int) ≤ (m : Int) := by omega
        have im1 : (m : Int) < ((m + 1 : Nat) : Int) := by omega
        have hzL : (M ++ [z])[m]? = some z := by rw [← hm, List.getElem?_concat_length]
        obtain ⟨q0, q1, q2⟩ := zCells_get (M ++ [z]) m z hzL
        have hrow := HO.out.row
        rw [HN.out] at hrow
        have HZ0 := Lib.hid (cell_later BW6.out (own_cell_at hrow q0))
        have HZ1 := Lib.hid (cell_later BW6.out (own_cell_at hrow q1))
        have HZ2 := Lib.hid (cell_later BW6.out (own_cell_at hrow q2))
        have hzb := HLH.out z (by simp)
        obtain ⟨zA, zca, zvv, zone⟩ := HO.out.one
        have hzo : OneL w z.X z.c z.l := zone.each z (by simp)
        have hput := Tr.goes_snoc (M.map Zc.zn) z.zn lo.toNat r
        have hputx : Tr.put T ((M ++ [z]).map Zc.zn) (lo, hi, r) = if (decide (z.hi + 1 = lo ∧ z.l = r)) = true then Tr.ext (M.map Zc.zn ++ [z.zn]) hi.toNat else M.map Zc.zn ++ [z.zn] ++ [(lo, hi, r)] := by
          unfold Tr.put
          rw [if_neg (by rw [HNC.out]; exact Bool.false_ne_true), List.map_append]
          show (if Tr.goesOn (M.map Zc.zn ++ [z.zn]) lo.toNat r = true then _ else _) = _
          rw [hput]
          have : decide (z.zn.2.1 = (lo.toNat : Int) - 1 ∧ z.zn.2.2 = r) = decide (z.hi + 1 = lo ∧ z.l = r) := by
            rw [decide_eq_decide]
            show (z.hi = (lo.toNat : Int) - 1 ∧ z.l = r) ↔ _
            constructor
            · rintro ⟨h1, h2⟩; exact ⟨by omega, h2⟩
            · rintro ⟨h1, h2⟩; exact ⟨by omega, h2⟩
          rw [this]
          rfl
        obtain ⟨go, hgo⟩ : ∃ go, decide (z.hi + 1 = lo ∧ z.l = r) = go := ⟨_, rfl⟩
        have GO := fun (w' : World) (q : Below w6.heap.size w6 w') => goesOn_any z ⟨lo, hi, Y, d, r⟩ w' (hzo.later (below_on BW6.out q)) (by
          obtain ⟨Y2, d2, e2, o2⟩ := OneL.of_own (own_later HO6.out q)
          injection e2 with e3 _ e4
          subst e3 e4
          exact o2) hzb.1 hzb.2
        obtain ⟨zlo, zhi, zX, zc, zl⟩ := z
        unfold zV at GO
        dsimp only at GO hgo hputx hzb HZ0 HZ1 HZ2
        rw [hgo] at GO hputx
        have HGO := Lib.hid GO
        have HPX := Lib.hid hputx
        have HM := Lib.hid hm
        have HRW := Lib.hid hrow
        clear hzL q0 q1 q2 hrow zvv zone hzo hput hputx hgo GO hm
        cases go with
        | true =>
          have HPUT := Lib.hid (show Tr.put T ((M ++ [(⟨zlo, zhi, zX, zc, zl⟩ : Zc)]).map Zc.zn) (lo, hi, r) = (M ++ [(⟨zlo, hi, zX, zc, zl⟩ : Zc)]).map Zc.zn from by
            rw [HPX.out, if_pos rfl, Tr.ext_snoc, List.map_append]
            show _ ++ [(zlo, (hi.toNat : Int), zl)] = _ ++ [(zlo, hi, zl)]
            rw [show (hi.toNat : Int) = hi from by omega])
          go_upto_region 4 with (fail)
          refine wp_region_facts 10 (by kernel_rfl) (by kernel_rfl)
            (fun v => { tmps := #[.agg #[.int .i64 lo, .int .i64 hi], .slice X r.length c, .pointer (some ⟨gA, 0, none⟩), .pointer (some ⟨gT, 0, none⟩), .pointer (some ⟨w.heap.size, 0, none⟩), undef, .pointer (some ⟨g, 0, none⟩), .int .i64 (m : Int), .agg #[.int .i64 lo, .int .i64 hi], .slice X r.length c, vv 2, vv 3, .slice (some ⟨ga, 0, none⟩) (m + 1) ca, .int .i64 ((m : Int) + 1), .int .i64 (m : Int), undef, undef, undef, undef, .bool false, .slice X r.length c, .slice TX T.length tc, .bool false, undef, v 0, v 1, v 2, v 3, v 4, v 5, v 6, v 7, v 8, v 9, undef, undef, undef, undef, undef, undef, undef], defers := [] }) (fun _ => undef)
            (fun i x wx => match i with
              | 0 => x = .int .i64 (m : Int)
              | 1 => x = .bool true
              | 2 => x = .bool true
              | 3 => x = .slice (some ⟨ga, 0, none⟩) (m + 1) ca
              | 4 => x = .int .i64 (m : Int)
              | 5 => x = .pointer (some ⟨ga, m * 3, none⟩)
              | 6 => x = .agg #[.int .i64 zlo, .int .i64 zhi, .slice zX zl.length zc]
              | 7 => x = .agg #[.int .i64 lo, .int .i64 hi, .slice Y r.length d]
              | 8 => x = .bool true
              | 9 => x = .bool true
              | _ => True)
            (fun w1 w2 => Below w1.heap.size w1 w2) (fun h1 h2 => below_on h1 h2) (fun _ => Below.refl _ _) (Below.drew (Below.refl _ _)) ?stabb ?stepb ?doneb
          case stabb =>
            rintro i x w1 w2 h hb
            match i, h with
            | 0, h => exact h
            | 1, h => exact h
            | 2, h => exact h
            | 3, h => exact h
            | 4, h => exact h
            | 5, h => exact h
            | 6, h => exact h
            | 7, h => exact h
            | 8, h => exact h
            | 9, h => exact h
            | i + 10, _ => trivial
          case stepb =>
            intro i hi v w' hb hd
            match i, hi with
            | 0, _ =>
              refine wpOp_oneK rfl (fun KK hKK => ?_)
              have HKK := Lib.hid hKK
              clear hKK hd
              go_wp2
              exact HKK.out _ _ ⟨_, (by simp [upd]; done), Below.refl _ _, rfl⟩
            | 1, _ =>
              have h0 : v 0 = _ := hd 0 (List.elem_iff.1 (by kernel_rfl))
              refine wpOp_oneK rfl (fun KK hKK => ?_)
              have HKK := Lib.hid hKK
              clear hKK hd
              rw [h0]
              go_wp2
              exact HKK.out _ _ ⟨_, (by simp [upd, h0]; done), Below.refl _ _, rfl⟩
            | 2, _ =>
              have h1 : v 1 = _ := hd 1 (List.elem_iff.1 (by kernel_rfl))
              refine wpOp_oneK rfl (fun KK hKK => ?_)
              have HKK := Lib.hid hKK
              clear hKK hd
              rw [h1]
              go_wp2
              exact HKK.out _ _ ⟨_, (by simp [upd, h1]; done), Below.refl _ _, rfl⟩
            | 3, _ =>
              have h2 : v 2 = _ := hd 2 (List.elem_iff.1 (by kernel_rfl))
              refine wpOp_oneK rfl (fun KK hKK => ?_)
              have HKK := Lib.hid hKK
              clear hKK hd
              rw [h2]
              have q0 := cell_later hb HVC.out
              go_wp2
              exact HKK.out _ _ ⟨_, (by simp [upd, h2]; done), Below.refl _ _, rfl⟩
            | 4, _ =>
              have h2 : v 2 = _ := hd 2 (List.elem_iff.1 (by kernel_rfl))
              refine wpOp_oneK rfl (fun KK hKK => ?_)
              have HKK := Lib.hid hKK
              clear hKK hd
              rw [h2]
              go_wp2
              exact HKK.out _ _ ⟨_, (by simp [upd, h2]; done), Below.refl _ _, rfl⟩
            | 5, _ =>
              have h2 : v 2 = _ := hd 2 (List.elem_iff.1 (by kernel_rfl))
              have h3 : v 3 = _ := hd 3 (List.elem_iff.1 (by kernel_rfl))
              have h4 : v 4 = _ := hd 4 (List.elem_iff.1 (by kernel_rfl))
              refine wpOp_oneK rfl (fun KK hKK => ?_)
              have HKK := Lib.hid hKK
              clear hKK hd
              rw [h2, h3, h4]
              go_wp2
              exact HKK.out _ _ ⟨_, (by simp [upd, h2, h3, h4]; done), Below.refl _ _, rfl⟩
            | 6, _ =>
              have h2 : v 2 = _ := hd 2 (List.elem_iff.1 (by kernel_rfl))
              have h5 : v 5 = _ := hd 5 (List.elem_iff.1 (by kernel_rfl))
              refine wpOp_oneK rfl (fun KK hKK => ?_)
              have HKK := Lib.hid hKK
              clear hKK hd
              rw [h2, h5]
              have q0 := cell_later hb HZ0.out
              have q1 := cell_later hb HZ1.out
              have q2 := cell_later hb HZ2.out
              go_wp2
              exact HKK.out _ _ ⟨_, (by simp [upd, h2, h5]; done), Below.refl _ _, rfl⟩
            | 7, _ =>
              have h2 : v 2 = _ := hd 2 (List.elem_iff.1 (by kernel_rfl))
              refine wpOp_oneK rfl (fun KK hKK => ?_)
              have HKK := Lib.hid hKK
              clear hKK hd
              rw [h2]
              have q0 := cell_later hb (HG6.out.cell (i := 0) rfl)
              have q1 := cell_later hb (HG6.out.cell (i := 1) rfl)
              have q2 := cell_later hb (HG6.out.cell (i := 2) rfl)
              go_wp2
              exact HKK.out _ _ ⟨_, (by simp [upd, h2]; done), Below.refl _ _, rfl⟩
            | 8, _ =>
              have h2 : v 2 = _ := hd 2 (List.elem_iff.1 (by kernel_rfl))
              have h6 : v 6 = _ := hd 6 (List.elem_iff.1 (by kernel_rfl))
              have h7 : v 7 = _ := hd 7 (List.elem_iff.1 (by kernel_rfl))
              refine wpOp_oneK rfl (fun KK hKK => ?_)
              have HKK := Lib.hid hKK
              clear hKK hd
              rw [h2, h6, h7]
              go_wp2_with fail
              refine (HGO.out _ hb).mono ?_
              rintro e w'' ⟨rfl, b⟩
              go_wp2
              exact HKK.out _ _ ⟨_, (by simp [upd, h2, h6, h7]; done), b, rfl⟩
            | 9, _ =>
              have h2 : v 2 = _ := hd 2 (List.elem_iff.1 (by kernel_rfl))
              have h8 : v 8 = _ := hd 8 (List.elem_iff.1 (by kernel_rfl))
              refine wpOp_oneK rfl (fun KK hKK => ?_)
              have HKK := Lib.hid hKK
              clear hKK hd
              rw [h2, h8]
              go_wp2
              exact HKK.out _ _ ⟨_, (by simp [upd, h2, h8]; done), Below.refl _ _, rfl⟩
            | k + 10, hk => exact absurd hk (by omega)
          case doneb =>
            intro v w5 hb hf
            have h9 : v 9 = _ := hf 9 (by decide)
            clear hf
            rw [h9]
            have BF := below_on BW6.out hb
            have hv5 : Boxed w5 gA 22 (.slice (some ⟨ga, 0, none⟩) (m + 1) ca) := Blk.later HV.out BF
            have hO5 := HO.out.later BF
            have e0 : w5.cell? ⟨gA, 0, none⟩ = some (.slice (some ⟨ga, 0, none⟩) (m + 1) ca) := hv5.cell
            have e1 : w5.cell? ⟨w.heap.size, 1, none⟩ = some (.int .i64 hi) := (HB4.out.later (below_on HWW.out hb)).cell (i := 1) rfl
            have hrow5 := hO5.row
            rw [HN.out] at hrow5
            have f0 := own_free_at hrow5 (m * 3 + 1)
            have hz1 : w5.cell? ⟨ga, m * 3 + 1, none⟩ = some (.int .i64 zhi) := cell_later hb HZ1.out
            have hne : gA ≠ ga := fun e => hv5.not_row (by decide) hrow5 (by rw [e]; rfl)
            have hok := RowOk.boxed HV.out HO.out.row
            have hset : ∀ b, b ≠ ga → (w5.setCell ⟨ga, m * 3 + 1, none⟩ (.int .i64 hi)).heap[b]? = w5.heap[b]? := fun b hb => Below.heap_setCell _ _ _ _ hb
            have hlast := zCells_last M ⟨zlo, zhi, zX, zc, zl⟩ hi
            rw [HM.out] at hlast
            have hrow6 := own_put hrow5 (m * 3 + 1) (.int .i64 hi)
            rw [hlast] at hrow6
            have hstay : ∀ {u : Value} {k : Nat} {xs : List Value}, w5.ownsRow n0 53 2 u k xs → (w5.setCell ⟨ga, m * 3 + 1, none⟩ (.int .i64 hi)).ownsRow n0 53 2 u k xs := fun {u k xs} q => own_stays q (fun j hj => hset j (fun e => own_apart q hrow5 (by decide) j hj (by rw [e]; rfl)))
            have hge := own_base_le hrow5
            have hv6 : Boxed (w5.setCell ⟨ga, m * 3 + 1, none⟩ (.int .i64 hi)) gA 22 (.slice (some ⟨ga, 0, none⟩) (m + 1) ca) := (hset gA hne).trans hv5
            have KB0 := KeepB.below hok BF
            have KB1 : KeepB gA w5 (w5.setCell ⟨ga, m * 3 + 1, none⟩ (.int .i64 hi)) := ⟨(KeepsOthers.setCell _ _ _).size, fun k o h1 _ _ h4 => (hset k (fun e => h4 (by rw [rowIn_boxed hv5, e]; rfl))).trans h1, .inl (by rw [rowIn_boxed hv6, rowIn_boxed hv5])⟩
            have FIN := Lib.hid (show PutR gA n0 (Tr.put T ((M ++ [(⟨zlo, zhi, zX, zc, zl⟩ : Zc)]).map Zc.zn) (lo, hi, r)) w (.returned (.tuple #[])) (w5.setCell ⟨ga, m * 3 + 1, none⟩ (.int .i64 hi)) from
              ⟨_, _, M ++ [⟨zlo, hi, zX, zc, zl⟩], rfl, hv6, ⟨by rw [show (M ++ [(⟨zlo, hi, zX, zc, zl⟩ : Zc)]).length = m + 1 from by rw [List.length_append, HM.out]; rfl]; exact hrow6, fun y hy => by
                rcases List.mem_append.1 hy with hy | hy
                · exact hstay (hO5.each y (List.mem_append.2 (.inl hy)))
                · rw [List.mem_singleton] at hy
                  subst hy
                  exact hstay (hO5.each ⟨zlo, zhi, zX, zc, zl⟩ (by simp))⟩, HPUT.out.symm, KB0.trans KB1, (keeps_below BF).trans (KeepsOthers.setCell _ _ _), (BF.mono hn0).setCell (p := ⟨ga, m * 3 + 1, none⟩) hge.1 _⟩)
            clear hb BF hv5 hO5 hrow5 hok hset hlast hrow6 hstay hge hv6 KB0 KB1 hne
            go_wp2
            go_end0
            obtain ⟨_, f⟩ := FIN.out
            exact ⟨_, f⟩
        | false =>
          have HPUT := Lib.hid (show Tr.put T ((M ++ [(⟨zlo, zhi, zX, zc, zl⟩ : Zc)]).map Zc.zn) (lo, hi, r) = (M ++ [(⟨zlo, zhi, zX, zc, zl⟩ : Zc)]).map Zc.zn ++ [(lo, hi, r)] from by
            rw [HPX.out, if_neg Bool.false_ne_true, List.map_append]
            rfl)
          go_upto_region 4 with (fail)
          refine wp_region_facts 10 (by kernel_rfl) (by kernel_rfl)
            (fun v => { tmps := #[.agg #[.int .i64 lo, .int .i64 hi], .slice X r.length c, .pointer (some ⟨gA, 0, none⟩), .pointer (some ⟨gT, 0, none⟩), .pointer (some ⟨w.heap.size, 0, none⟩), undef, .pointer (some ⟨g, 0, none⟩), .int .i64 (m : Int), .agg #[.int .i64 lo, .int .i64 hi], .slice X r.length c, vv 2, vv 3, .slice (some ⟨ga, 0, none⟩) (m + 1) ca, .int .i64 ((m : Int) + 1), .int .i64 (m : Int), undef, undef, undef, undef, .bool false, .slice X r.length c, .slice TX T.length tc, .bool false, undef, v 0, v 1, v 2, v 3, v 4, v 5, v 6, v 7, v 8, v 9, undef, undef, undef, undef, undef, undef, undef], defers := [] }) (fun _ => undef)
            (fun i x wx => match i with
              | 0 => x = .int .i64 (m : Int)
              | 1 => x = .bool true
              | 2 => x = .bool true
              | 3 => x = .slice (some ⟨ga, 0, none⟩) (m + 1) ca
              | 4 => x = .int .i64 (m : Int)
              | 5 => x = .pointer (some ⟨ga, m * 3, none⟩)
              | 6 => x = .agg #[.int .i64 zlo, .int .i64 zhi, .slice zX zl.length zc]
              | 7 => x = .agg #[.int .i64 lo, .int .i64 hi, .slice Y r.length d]
              | 8 => x = .bool false
              | 9 => x = .bool false
              | _ => True)
            (fun w1 w2 => Below w1.heap.size w1 w2) (fun h1 h2 => below_on h1 h2) (fun _ => Below.refl _ _) (Below.drew (Below.refl _ _)) ?stabc ?stepc ?donec
          case stabc =>
            rintro i x w1 w2 h hb
            match i, h with
            | 0, h => exact h
            | 1, h => exact h
            | 2, h => exact h
            | 3, h => exact h
            | 4, h => exact h
            | 5, h => exact h
            | 6, h => exact h
            | 7, h => exact h
            | 8, h => exact h
            | 9, h => exact h
            | i + 10, _ => trivial
          case stepc =>
            intro i hi v w' hb hd
            match i, hi with
            | 0, _ =>
              refine wpOp_oneK rfl (fun KK hKK => ?_)
              have HKK := Lib.hid hKK
              clear hKK hd
              go_wp2
              exact HKK.out _ _ ⟨_, (by simp [upd]; done), Below.refl _ _, rfl⟩
            | 1, _ =>
              have h0 : v 0 = _ := hd 0 (List.elem_iff.1 (by kernel_rfl))
              refine wpOp_oneK rfl (fun KK hKK => ?_)
              have HKK := Lib.hid hKK
              clear hKK hd
              rw [h0]
              go_wp2
              exact HKK.out _ _ ⟨_, (by simp [upd, h0]; done), Below.refl _ _, rfl⟩
            | 2, _ =>
              have h1 : v 1 = _ := hd 1 (List.elem_iff.1 (by kernel_rfl))
              refine wpOp_oneK rfl (fun KK hKK => ?_)
              have HKK := Lib.hid hKK
              clear hKK hd
              rw [h1]
              go_wp2
              exact HKK.out _ _ ⟨_, (by simp [upd, h1]; done), Below.refl _ _, rfl⟩
            | 3, _ =>
              have h2 : v 2 = _ := hd 2 (List.elem_iff.1 (by kernel_rfl))
              refine wpOp_oneK rfl (fun KK hKK => ?_)
              have HKK := Lib.hid hKK
              clear hKK hd
              rw [h2]
              have q0 := cell_later hb HVC.out
              go_wp2
              exact HKK.out _ _ ⟨_, (by simp [upd, h2]; done), Below.refl _ _, rfl⟩
            | 4, _ =>
              have h2 : v 2 = _ := hd 2 (List.elem_iff.1 (by kernel_rfl))
              refine wpOp_oneK rfl (fun KK hKK => ?_)
              have HKK := Lib.hid hKK
              clear hKK hd
              rw [h2]
              go_wp2
              exact HKK.out _ _ ⟨_, (by simp [upd, h2]; done), Below.refl _ _, rfl⟩
            | 5, _ =>
              have h2 : v 2 = _ := hd 2 (List.elem_iff.1 (by kernel_rfl))
              have h3 : v 3 = _ := hd 3 (List.elem_iff.1 (by kernel_rfl))
              have h4 : v 4 = _ := hd 4 (List.elem_iff.1 (by kernel_rfl))
              refine wpOp_oneK rfl (fun KK hKK => ?_)
              have HKK := Lib.hid hKK
              clear hKK hd
              rw [h2, h3, h4]
              go_wp2
              exact HKK.out _ _ ⟨_, (by simp [upd, h2, h3, h4]; done), Below.refl _ _, rfl⟩
            | 6, _ =>
              have h2 : v 2 = _ := hd 2 (List.elem_iff.1 (by kernel_rfl))
              have h5 : v 5 = _ := hd 5 (List.elem_iff.1 (by kernel_rfl))
              refine wpOp_oneK rfl (fun KK hKK => ?_)
              have HKK := Lib.hid hKK
              clear hKK hd
              rw [h2, h5]
              have q0 := cell_later hb HZ0.out
              have q1 := cell_later hb HZ1.out
              have q2 := cell_later hb HZ2.out
              go_wp2
              exact HKK.out _ _ ⟨_, (by simp [upd, h2, h5]; done), Below.refl _ _, rfl⟩
            | 7, _ =>
              have h2 : v 2 = _ := hd 2 (List.elem_iff.1 (by kernel_rfl))
              refine wpOp_oneK rfl (fun KK hKK => ?_)
              have HKK := Lib.hid hKK
              clear hKK hd
              rw [h2]
              have q0 := cell_later hb (HG6.out.cell (i := 0) rfl)
              have q1 := cell_later hb (HG6.out.cell (i := 1) rfl)
              have q2 := cell_later hb (HG6.out.cell (i := 2) rfl)
              go_wp2
              exact HKK.out _ _ ⟨_, (by simp [upd, h2]; done), Below.refl _ _, rfl⟩
            | 8, _ =>
              have h2 : v 2 = _ := hd 2 (List.elem_iff.1 (by kernel_rfl))
              have h6 : v 6 = _ := hd 6 (List.elem_iff.1 (by kernel_rfl))
              have h7 : v 7 = _ := hd 7 (List.elem_iff.1 (by kernel_rfl))
              refine wpOp_oneK rfl (fun KK hKK => ?_)
              have HKK := Lib.hid hKK
              clear hKK hd
              rw [h2, h6, h7]
              go_wp2_with fail
              refine (HGO.out _ hb).mono ?_
              rintro e w'' ⟨rfl, b⟩
              go_wp2
              exact HKK.out _ _ ⟨_, (by simp [upd, h2, h6, h7]; done), b, rfl⟩
            | 9, _ =>
              have h2 : v 2 = _ := hd 2 (List.elem_iff.1 (by kernel_rfl))
              have h8 : v 8 = _ := hd 8 (List.elem_iff.1 (by kernel_rfl))
              refine wpOp_oneK rfl (fun KK hKK => ?_)
              have HKK := Lib.hid hKK
              clear hKK hd
              rw [h2, h8]
              go_wp2
              exact HKK.out _ _ ⟨_, (by simp [upd, h2, h8]; done), Below.refl _ _, rfl⟩
            | k + 10, hk => exact absurd hk (by omega)
          case donec =>
            intro v w5 hb hf
            have h9 : v 9 = _ := hf 9 (by decide)
            clear hf
            rw [h9]
            have BF := below_on BW6.out hb
            have hv5 : Boxed w5 gA 22 (.slice (some ⟨ga, 0, none⟩) (m + 1) ca) := Blk.later HV.out BF
            have hO5 := HO.out.later BF
            have hOY := own_later HO6.out hb
            have hG5 := HG6.out.later hb
            have d0 := hG5.cell (i := 0) rfl
            have d1 := hG5.cell (i := 1) rfl
            have d2 := hG5.cell (i := 2) rfl
            have e0 : w5.cell? ⟨gA, 0, none⟩ = some (.slice (some ⟨ga, 0, none⟩) (m + 1) ca) := hv5.cell
            have hrow5 := hO5.row
            rw [HN.out] at hrow5
            have hsz5 : n0 ≤ w5.heap.size := by have := BF.size; omega
            have hok := RowOk.boxed HV.out HO.out.row
            have KB0 := Lib.hid (KeepB.below hok BF)
            have b9 := below_new (Below.refl w5.heap.size w5) (.cells #[.int .i64 lo, .int .i64 hi, .slice Y r.length d] 57)
            have YB := Blk.new w5 57 #[.int .i64 lo, .int .i64 hi, .slice Y r.length d]
            have hown := Lib.hid (own_later hrow5 b9)
            have HLY := Lib.hid (show Lies (w5.alloc (.cells #[.int .i64 lo, .int .i64 hi, .slice Y r.length d] 57)) (some ⟨w5.heap.size, 0, none⟩) [.int .i64 lo, .int .i64 hi, .slice Y r.length d] from fun _ => ⟨w5.heap.size, 0, rfl, fun i u hu => by
              rw [Nat.zero_add]
              exact YB.cell (by simpa using hu)⟩)
            have HV5 := Lib.hid hv5
            have HO5 := Lib.hid hO5
            have HOY := Lib.hid hOY
            have HR5 := Lib.hid hrow5
            have HBF := Lib.hid BF
            have hs9 : n0 ≤ (w5.alloc (.cells #[.int .i64 lo, .int .i64 hi, .slice Y r.length d] 57)).heap.size := by rw [World.size_alloc]; omega
            clear hb hv5 hO5 hOY hG5 hrow5 hok b9 YB BF
            go_wp2_with (at_builtin; refine Go.Proofs.Ytcfkpjbakccgiaa.wpList_append_lies _ rfl _ _ 22 rfl n0 57 i1 (.agg #[.int .i64 0, .int .i64 0, .slice none 0 0]) 3 40 Try.underlying22 hI1 hy0 hy1 hy2 rfl (by decide) (.slice (some ⟨ga, 0, none⟩) (m + 1) ca) (m + 1) (zCells (M ++ [(⟨zlo, zhi, zX, zc, zl⟩ : Zc)])) rfl hown.out (some ⟨w5.heap.size, 0, none⟩) 1 1 (fun h => by cases h) [.int .i64 lo, .int .i64 hi, .slice Y r.length d] rfl rfl HLY.out (by intro u hu; simp at hu; rcases hu with rfl | rfl | rfl <;> rfl) ?d3c ?d4c ?d5c ?_)
            case d3c => unfold maxLen; omega
            case d4c => omega
            case d5c => exact hs9
            intro v7 w7 ho7 hg7 hm7
            obtain ⟨g', cap', rfl⟩ := ownsRow_succ ho7
            obtain ⟨hv1, hv2, hr2, hk2, hb2⟩ := HV5.out.appended (by decide) HR5.out hsz5 hn1 ho7 hg7
            have e1 : w7.cell? ⟨gA, 0, none⟩ = some (.slice (some ⟨ga, 0, none⟩) (m + 1) ca) := hv1.cell
            have hf1 := hv1.frozen
            have FIN := Lib.hid (show PutR gA n0 (Tr.put T (((M ++ [(⟨zlo, zhi, zX, zc, zl⟩ : Zc)]) : List Zc).map Zc.zn) (lo, hi, r)) w (.returned (.tuple #[])) (w7.setCell ⟨gA, 0, none⟩ (.slice (some ⟨g', 0, none⟩) ((m + 1) + 1) cap')) from
              ⟨_, _, (M ++ [(⟨zlo, zhi, zX, zc, zl⟩ : Zc)]) ++ [⟨lo, hi, Y, d, r⟩], rfl, hv2, ⟨by rw [List.length_append, HN.out, zCells_append]; exact hr2, fun y hy => by
                rcases List.mem_append.1 hy with hy | hy
                · exact own_past (HO5.out.each y hy) HR5.out hg7 hv1 (by decide) (by decide)
                · rw [List.mem_singleton] at hy
                  subst hy
                  exact own_base (own_past HOY.out HR5.out hg7 hv1 (by decide) (by decide)) (by omega)⟩, by rw [HPUT.out, List.map_append]; rfl, KB0.out.trans (KeepB.appended HV5.out hv1 ho7 hg7 hm7), (keeps_below HBF.out).trans hk2, (HBF.out.mono hn0).trans hb2⟩)
            clear hv1 hv2 hr2 hk2 hb2 ho7 hg7 hm7 e0 d0 d1 d2
            go_wp2
            go_end0
            obtain ⟨_, f⟩ := FIN.out
            rw [List.map_append] at f
            exact ⟨_, f⟩
end Go.Proofs.Ytcfkpjbakccgiaa
