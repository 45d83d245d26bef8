/-
  What cache's functions answer: contracts, one a function; what stands in all of cache's laws.
-/
import Derived.Test.YtmccednfaemiaaaCaRefC
import Derived.Lib.SlBytesConst
namespace Go.Proofs.Ytmccednfaemiaaa
open Go.RowKit Fb

structure CacheSpec : Prop where
  formed : ∀ (A : Option Addr) (c : Nat) (L : List Bc) (room : Int) (w : World), OneC w A c L → Calls Try.prog 21 #[.slice A L.length c, .int .i64 room] w (Says (.bool (Ca.fmd (L.map Bc.b) room)) w)
  used : ∀ (A : Option Addr) (c : Nat) (L : List Bc) (w : World), OneC w A c L → Ca.used (L.map Bc.b) ≤ 4611686018427387904 → Calls Try.prog 13 #[.slice A L.length c] w (Says (.int .i64 (Ca.used (L.map Bc.b) : Int)) w)
  get : ∀ (A : Option Addr) (c : Nat) (L : List Bc) (o sc sn : Int) (w : World), OneC w A c L → Fits L → Calls Try.prog 10 #[.slice A L.length c, .int .i64 o, .agg #[.int .i64 sc, .int .i64 sn]] w (GivesVE (Ca.getR (L.map Bc.b) o sc sn).1 (Ca.getR (L.map Bc.b) o sc sn).2 w)
  put : ∀ (A X : Option Addr) (cc d : Nat) (L : List Bc) (room : Int) (x : Bd) (w : World), OneC w A cc L → OneB w X d x.v → Calls Try.prog 19 #[.slice A L.length cc, .int .i64 room, .agg (bdCells X d x)] w (GivesCE (Ca.putR (L.map Bc.b) room x).1 (Ca.putR (L.map Bc.b) room x).2 w)
  forget : ∀ (A : Option Addr) (c : Nat) (L : List Bc) (o : Int) (w : World), OneC w A c L → Fits L → Calls Try.prog 16 #[.slice A L.length c, .int .i64 o] w (GivesC (Ca.forget (L.map Bc.b) o) w)

/-- The bytes of a constant, where they are laid. -/
theorem ca_const (w : World) (t : TypeId) (fr : Nat × Nat) (l : List Int) (hl : l.length ≤ maxLen) (hb : ∀ x ∈ l, isB x) : OneB (w.alloc (.cells (bCells l).toArray t fr)) (some ⟨w.heap.size, 0, none⟩) l.length l :=
  ⟨Nat.le_refl _, hl, (fun h => by cases h), (fun _ => ⟨w.heap.size, 0, rfl, fun j u hu => by
      rw [Nat.zero_add, World.cell?_alloc_mark]
      simpa using hu⟩), hb⟩
theorem Ca.alive1 : Ca.putR [] 4 ⟨1, 1, 0, [97, 98, 99]⟩ = ([⟨1, 1, 0, [97, 98, 99]⟩], 0) := by decide +kernel
theorem Ca.alive2 : Ca.putR [⟨1, 1, 0, [97, 98, 99]⟩] 4 ⟨2, 2, 0, [100, 101]⟩ = ([⟨2, 2, 0, [100, 101]⟩], 0) := by decide +kernel
theorem Ca.alive3 : Ca.getR [⟨2, 2, 0, [100, 101]⟩] 2 2 0 = ([100, 101], 0) := by decide +kernel

set_option maxRecDepth 100000 in
set_option maxHeartbeats 6400000 in
theorem calive_any (SS : CacheSpec) (w : World) : Calls Try.prog 7 #[] w (Says (.bool true) w) := by
  have kc := fun (w : World) (C : Array Value) (n c : Nat) => Lib.run_convert_bytes_const (P := Try.prog) w 28 5 C n c Try.underlying28 Try.underlying5
  have b0 := below_new (below_new (Below.refl w.heap.size w) (.cells #[.int .i64 1, .int .i64 0] 24)) (.cells #[.int .i64 2, .int .i64 0] 24)
  have T0 := Blk.new (w.alloc (.cells #[.int .i64 1, .int .i64 0] 24)) 24 #[.int .i64 2, .int .i64 0]
  have S0 := (Blk.new w 24 #[.int .i64 1, .int .i64 0]).alloc (.cells #[.int .i64 2, .int .i64 0] 24)
  rw [World.size_alloc] at T0
  obtain ⟨W, hW⟩ : ∃ W, (w.alloc (.cells #[.int .i64 1, .int .i64 0] 24)).alloc (.cells #[.int .i64 2, .int .i64 0] 24) = W := ⟨_, rfl⟩
  rw [hW] at b0 T0 S0
  have s0 := S0.cell (i := 0) rfl
  have s1 := S0.cell (i := 1) rfl
  have HW := Lib.hid hW
  have B1 := below_new b0 (.cells #[.int .u8 97, .int .u8 98, .int .u8 99] 5 (3, 4))
  have C1 := ca_const W 5 (3, 4) [97, 98, 99] (by unfold maxLen; simp) (by intro x hx; simp at hx; unfold isB; omega)
  have n1 := SS.put none (some ⟨W.heap.size, 0, none⟩) 0 3 [] 4 ⟨1, 1, 0, [97, 98, 99]⟩ _ (OneC.nil _) C1
  rw [show ([] : List Bc).map Bc.b = [] from rfl, Ca.alive1] at n1
  have N1 := Lib.hid (show Calls Try.prog 19 #[.slice none 0 0, .int .i64 4, .agg #[.int .i64 1, .int .i64 1, .int .i64 0, .slice (some ⟨W.heap.size, 0, none⟩) 3 3]] (W.alloc (.cells #[.int .u8 97, .int .u8 98, .int .u8 99] 5 (3, 4))) (GivesCE [⟨1, 1, 0, [97, 98, 99]⟩] 0 (W.alloc (.cells #[.int .u8 97, .int .u8 98, .int .u8 99] 5 (3, 4)))) from n1)
  have BB1 := Lib.hid B1
  have HT := Lib.hid (T0.alloc (.cells #[.int .u8 97, .int .u8 98, .int .u8 99] 5 (3, 4)))
  clear n1 C1 B1 b0 T0 S0 hW
  go_enter Try.func7, Try.ntmps7
  go_upto_region 2 with (fail)
  rw [HW.out]
  have kc1 := kc W #[.int .u8 97, .int .u8 98, .int .u8 99] 3 3
  clear HW
  go_wp2_with fail
  refine N1.out.mono ?_
  rintro e w2 ⟨A2, c2, L2, rfl, hm2, hO2, b2⟩
  have T2 := HT.out.later b2
  have t0 := T2.cell (i := 0) rfl
  have t1 := T2.cell (i := 1) rfl
  have bb2 := below_on BB1.out b2
  have C2 := ca_const w2 5 (2, 3) [100, 101] (by unfold maxLen; simp) (by intro x hx; simp at hx; unfold isB; omega)
  have bz := below_new (Below.refl w2.heap.size w2) (.cells #[.int .u8 100, .int .u8 101] 5 (2, 3))
  have n2 := SS.put A2 (some ⟨w2.heap.size, 0, none⟩) c2 2 L2 4 ⟨2, 2, 0, [100, 101]⟩ _ (hO2.one.later bz) C2
  rw [hm2, Ca.alive2] at n2
  have N2 := Lib.hid (show Calls Try.prog 19 #[.slice A2 L2.length c2, .int .i64 4, .agg #[.int .i64 2, .int .i64 2, .int .i64 0, .slice (some ⟨w2.heap.size, 0, none⟩) 2 2]] (w2.alloc (.cells #[.int .u8 100, .int .u8 101] 5 (2, 3))) (GivesCE [⟨2, 2, 0, [100, 101]⟩] 0 (w2.alloc (.cells #[.int .u8 100, .int .u8 101] 5 (2, 3)))) from n2)
  have BB2 := Lib.hid (below_on bb2 bz)
  have HT2 := Lib.hid (T2.later bz)
  have kc2 := kc w2 #[.int .u8 100, .int .u8 101] 2 2
  clear N1 BB1 HT T2 C2 bz n2 hm2 hO2 bb2 b2 kc1 kc s0 s1
  go_wp2_with fail
  refine N2.out.mono ?_
  rintro e w3 ⟨A3, c3, L3, rfl, hm3, hO3, b3⟩
  have T3 := HT2.out.later b3
  have t0 := T3.cell (i := 0) rfl
  have t1 := T3.cell (i := 1) rfl
  have hl3 : L3.length = 1 := by have := congrArg List.length hm3; simpa using this
  have n3 := SS.get A3 c3 L3 2 2 0 w3 hO3.one (Fits.of_small (by rw [hm3, hl3]; decide))
  rw [hm3, Ca.alive3] at n3
  have N3 := Lib.hid n3
  have BB3 := Lib.hid (below_on BB2.out b3)
  rw [hl3] at N3 ⊢
  clear n3 N2 BB2 HT2 T3 hm3 hO3 b3 kc2 hl3
  go_wp2_with fail
  refine N3.out.mono ?_
  rintro e w4 ⟨v, rfl, ho, b4⟩
  obtain ⟨A4, c4, rfl, hB4⟩ := OneB.of_own ho (by intro x hx; simp at hx; unfold isB; omega)
  have hs : strOfNums [100, 101] = ⟨#[100, 101]⟩ := by decide +kernel
  have hc : (convert 28 9 (.slice A4 2 c4)).run Try.prog w4 = .ok (.string ⟨#[100, 101]⟩) w4 := by
    have h9 := hB4.text (P := Try.prog) (src := 28) (e := 5) (dst := 9) Try.underlying28 Try.underlying5 (by kernel_rfl)
    rw [hs] at h9
    exact h9
  have BB4 := Lib.hid (below_on BB3.out b4)
  clear ho hB4 b4 N3 BB3
  go_wp2
  go_ret
  exact ⟨by first | rfl | simp, BB4.out⟩

set_option maxRecDepth 100000 in
set_option maxHeartbeats 3200000 in
theorem cgreat_any (A : Option Addr) (c : Nat) (L : List Bc) (w : World) (h : OneC w A c L) (hn : L.length * 48 ≤ 140737488355328) (hz : ∀ z ∈ L, z.b.v.length ≤ 140737488355328) :
    Calls Try.prog 8 #[.slice A L.length c] w (Says (.bool (decide (1048576 ≤ L.length + Ca.used (L.map Bc.b)))) w) := by
  have HL := Lib.hid h
  have HZ := Lib.hid hz
  have HU := Lib.hid (fun k => Ca.usedTo_le L k)
  have HA := Lib.hid (Ca.usedTo_all L)
  have HS := Lib.hid (fun k hk => Ca.usedTo_succ (L := L) (k := k) hk)
  obtain ⟨U, hUU⟩ : ∃ U, Ca.used (L.map Bc.b) = U := ⟨_, rfl⟩
  rw [hUU] at HU HA ⊢
  clear h hz hUU
  go_enter Try.func8, Try.ntmps8
  go_wp2_with fail
  go_loopw [3, 4] (fun s3 s4 wr => ∃ k : Nat, k ≤ L.length ∧ s4 = .int .i64 (k : Int) ∧ s3 = .int .i64 ((L.length + Ca.usedTo L k : Nat) : Int) ∧ Below w.heap.size w wr) (fun _ s4 _ => L.length - (intOf s4).toNat)
  case atStart => exact ⟨0, Nat.zero_le _, rfl, rfl, Below.refl _ _⟩
  case round =>
    obtain ⟨k, hk, rfl, rfl, hbw⟩ := hrel
    have hul := HU.out k
    have hua := HA.out
    by_cases hlt : k < L.length
    · have hsu := HS.out k hlt
      have hzk := HZ.out _ (Ca.getD_mem hlt)
      obtain ⟨uk, huk⟩ : ∃ uk, L.length + Ca.usedTo L k = uk := ⟨_, rfl⟩
      rw [huk]
      have hi0 : (0 : Int) ≤ (k : Int) := by omega
      have hi1 : (k : Int) < (L.length : Int) := by omega
      have hd0 : decide ((k : Int) < (L.length : Int)) = true := decide_eq_true hi1
      by_cases hg : uk < 1048576
      · have hd : decide ((uk : Int) < 1048576) = true := decide_eq_true (by omega)
        have hne : L ≠ [] := fun e => by subst e; simp at hlt
        obtain ⟨b, off, hA, hcs⟩ := (HL.out.later hbw).at hne
        obtain ⟨e0, e1, e2, e3⟩ := hcs k hlt
        subst hA
        obtain ⟨x, hx⟩ : ∃ x, L.getD k Bc.zero = x := ⟨_, rfl⟩
        rw [hx] at e3 hsu hzk
        obtain ⟨n, hnn⟩ : ∃ n, x.b.v.length = n := ⟨_, rfl⟩
        rw [hnn] at e3 hsu hzk
        have hw1 : IntKind.i64.wrap ((uk : Int) + (n : Int)) = (uk : Int) + (n : Int) := IntWalk.i64_in _ (by omega)
        have HSU := Lib.hid (show L.length + Ca.usedTo L (k + 1) = uk + n by omega)
        clear hcs e0 e1 e2 hx huk hnn hsu hul hua hg
        go_wp2_with fail
        go_roundw
        case rel => exact ⟨k + 1, by omega, by go_num, by rw [HSU.out]; simp, hbw⟩
        case measure => simp [intOf]; omega
      · have hd : decide ((uk : Int) < 1048576) = false := decide_eq_false (by omega)
        have hd2 : decide ((1048576 : Int) ≤ (uk : Int)) = true := decide_eq_true (by omega)
        have HY := Lib.hid (show decide (1048576 ≤ L.length + U) = true from decide_eq_true (by omega))
        have BW := Lib.hid hbw
        clear hul hua huk hg hsu hbw
        go_wp2
        go_ret
        exact ⟨by rw [HY.out]; rfl, BW.out⟩
    · obtain rfl : k = L.length := by omega
      rw [HA.out]
      have BW := Lib.hid hbw
      have hd0 : decide ((L.length : Int) < (L.length : Int)) = false := decide_eq_false (by omega)
      have hqq : decide ((1048576 : Int) ≤ ((L.length + U : Nat) : Int)) = decide (1048576 ≤ L.length + U) := decide_eq_decide.2 (by omega)
      obtain ⟨q, hq⟩ : ∃ q, decide (1048576 ≤ L.length + U) = q := ⟨_, rfl⟩
      rw [hq] at hqq
      have HQ := Lib.hid hq
      obtain ⟨T, hT⟩ : ∃ T, L.length + U = T := ⟨_, rfl⟩
      rw [hT] at hqq ⊢
      clear hbw hul hua hq hT
      go_wp2
      go_ret
      exact ⟨by rw [HQ.out]; rfl, BW.out⟩
end Go.Proofs.Ytmccednfaemiaaa
