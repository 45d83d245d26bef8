/-
  The law CacheGets over the contracts of cache's functions.
-/
import Derived.Test.YtmccednfaemiaaaCaSpec
namespace Go.Proofs.Ytmccednfaemiaaa
open Go.RowKit Fb

theorem Ca.byte_put (bs : List Int) (i : Nat) (y : Int) : (bs.map (Value.int .u8)).set i (.int .u8 y) = (bs.set i y).map (Value.int .u8) := by rw [List.map_set]
theorem Ca.byte_at (bs : List Int) (i : Nat) (h : i < bs.length) : (bs.map (Value.int .u8))[i]? = some (.int .u8 (bs.getD i 0)) := by
  rw [List.getElem?_map, List.getElem?_eq_getElem h, List.getD_eq_getElem?_getD, List.getElem?_eq_getElem h]
  rfl
theorem Ca.get_byte (l : List Bc) (o c n : Int) (h : ∀ z ∈ l, ∀ x ∈ z.b.v, isB x) : ∀ x ∈ (getR (l.map Bc.b) o c n).1, isB x := by
  unfold getR
  cases hf : find (l.map Bc.b) o c n with
  | none => intro x hx; cases hx
  | some y =>
    have hm := List.mem_of_find?_eq_some hf
    obtain ⟨z, hz, rfl⟩ := List.mem_map.1 hm
    exact h z hz

set_option maxRecDepth 100000 in
set_option maxHeartbeats 6400000 in
theorem lawCGets_any (SS : CacheSpec) (A : Option Addr) (c : Nat) (L : List Bc) (o sc sn : Int) (w : World) (h : OneC w A c L) (hn : L.length * 48 ≤ 140737488355328) (hz : ∀ z ∈ L, z.b.v.length ≤ 140737488355328) :
    Calls Try.prog 3 #[.slice A L.length c, .int .i64 o, .agg #[.int .i64 sc, .int .i64 sn]] w (Says (.bool true) w) := by
  have b0 := below_new (Below.refl w.heap.size w) (.cells #[.int .i64 sc, .int .i64 sn] 24)
  have S0 := Blk.new w 24 #[.int .i64 sc, .int .i64 sn]
  obtain ⟨W, hW⟩ : ∃ W, w.alloc (.cells #[.int .i64 sc, .int .i64 sn] 24) = W := ⟨_, rfl⟩
  rw [hW] at b0 S0
  have HW := Lib.hid hW
  have HL := Lib.hid h
  have HS := Lib.hid S0
  have HB := Lib.hid b0
  have N0 := Lib.hid (calive_any SS W)
  have NG := Lib.hid (fun w' (hb : Below w.heap.size w w') => cgreat_any A c L w' (h.later hb) hn hz)
  by_cases hg : 1048576 ≤ L.length + Ca.used (L.map Bc.b)
  · rw [decide_eq_true hg] at NG
    clear hg b0 S0 hW h
    go_enter Try.func3, Try.ntmps3
    go_wp2_with fail
    rw [HW.out]
    refine N0.out.mono ?_
    rintro e w1 ⟨rfl, b1⟩
    have NG' := Lib.hid (NG.out w1 (below_on HB.out b1))
    have B1 := Lib.hid (below_on HB.out b1)
    clear b1 N0 NG
    go_wp2_with fail
    refine NG'.out.mono ?_
    rintro e w2 ⟨rfl, b2⟩
    have B2 := Lib.hid (below_on B1.out b2)
    clear b2 NG' B1
    go_wp2
    go_ret
    exact ⟨rfl, B2.out⟩
  rw [decide_eq_false hg] at NG
  have hsm : L.length + Ca.used (L.map Bc.b) < 1048576 := by omega
  have hfit := Fits.of_small hsm
  have hby := fun (A1 : Option Addr) (c1 : Nat) (M : List Bc) (wx : World) (hO : OneC wx A1 c1 M) => Ca.get_byte M o sc sn (fun z hz => (hO.each z hz).byte)
  obtain ⟨bl, hbl⟩ : ∃ bl, L.map Bc.b = bl := ⟨_, rfl⟩
  have hlen : L.length = bl.length := by rw [← hbl, List.length_map]
  have hfm : ∀ M : List Bc, M.map Bc.b = bl → Fits M := fun M hM => Fits.of_small (by
    have e : M.length = bl.length := by rw [← hM, List.length_map]
    rw [hM, e]
    rw [hbl, hlen] at hsm
    exact hsm)
  have hG := hby A c L w h
  have NC := Lib.hid (fun w' (hb : Below w.heap.size w w') => ccopy_any A c L w' (h.later hb) hfit)
  have N1 := Lib.hid (fun A1 c1 M wx (hO : OneC wx A1 c1 M) (hM : M.map Bc.b = bl) => show Calls Try.prog 10 #[.slice A1 M.length c1, .int .i64 o, .agg #[.int .i64 sc, .int .i64 sn]] wx (GivesVE (Ca.getR bl o sc sn).1 (Ca.getR bl o sc sn).2 wx) from by
    have := SS.get A1 c1 M o sc sn wx hO (hfm M hM)
    rwa [hM] at this)
  have N2 := Lib.hid (fun w' (hb : Below w.heap.size w w') => show Calls Try.prog 11 #[.slice A L.length c, .int .i64 o, .agg #[.int .i64 sc, .int .i64 sn]] w' (GivesVE (Ca.getR bl o sc sn).1 (Ca.getR bl o sc sn).2 w') from by
    have := cget_any A c L o sc sn w' (h.later hb) hfit
    rwa [hbl] at this)
  have N3 := Lib.hid (fun A1 c1 M wx (hO : OneC wx A1 c1 M) (hM : M.map Bc.b = bl) => show Calls Try.prog 13 #[.slice A1 M.length c1] wx (Says (.int .i64 (Ca.used bl : Int)) wx) from by
    have := SS.used A1 c1 M wx hO (by rw [hM, ← hbl]; omega)
    rwa [hM] at this)
  have N4 := Lib.hid (fun w' (hb : Below w.heap.size w w') => show Calls Try.prog 14 #[.slice A L.length c] w' (Says (.int .i64 (Ca.used bl : Int)) w') from by
    have := cused_any A c L w' (h.later hb) (by omega)
    rwa [hbl] at this)
  have N5 := Lib.hid (fun A1 c1 M wx (hO : OneC wx A1 c1 M) (hM : M.map Bc.b = bl) => show Calls Try.prog 16 #[.slice A1 M.length c1, .int .i64 o] wx (GivesC (Ca.forget bl o) wx) from by
    have := SS.forget A1 c1 M o wx hO (hfm M hM)
    rwa [hM] at this)
  have N6 := Lib.hid (fun w' (hb : Below w.heap.size w w') => show Calls Try.prog 17 #[.slice A L.length c, .int .i64 o] w' (fun e w'' => ∃ v M, e = .returned v ∧ M.map Bc.b = Ca.forget bl o ∧ OwnRC w'' w'.heap.size 38 5 v M ∧ Below w'.heap.size w' w'') from by
    have := cforget_any A c L o w' (h.later hb) hfit
    rwa [hbl] at this)
  rw [hbl] at NC hG
  obtain ⟨uU, huU⟩ : ∃ u, Ca.used bl = u := ⟨_, rfl⟩
  rw [huU] at N3 N4
  obtain ⟨fF, hfF⟩ : ∃ f, Ca.forget bl o = f := ⟨_, rfl⟩
  rw [hfF] at N5 N6
  obtain ⟨⟨gv, ge⟩, hgR⟩ : ∃ g, Ca.getR bl o sc sn = g := ⟨_, rfl⟩
  rw [hgR] at N1 N2 hG
  dsimp only at N1 N2 hG
  have HGB := Lib.hid hG
  have HBL := Lib.hid hbl
  clear hg hsm hfit hfm hby hbl hlen hG huU hfF hgR b0 S0 hW h hn hz
  go_enter Try.func3, Try.ntmps3
  go_wp2_with fail
  rw [HW.out]
  refine N0.out.mono ?_
  rintro e w1 ⟨rfl, b1⟩
  have NG' := Lib.hid (NG.out w1 (below_on HB.out b1))
  have B1 := Lib.hid (below_on HB.out b1)
  have S1 := Lib.hid (HS.out.later b1)
  clear b1 N0 NG HS HB HW
  go_wp2_with fail
  refine NG'.out.mono ?_
  rintro e w2 ⟨rfl, b2⟩
  have B2 := Lib.hid (below_on B1.out b2)
  have S2 := Lib.hid (S1.out.later b2)
  have NC' := Lib.hid (NC.out w2 B2.out)
  clear b2 NG' B1 S1 NC
  go_wp2_with fail
  refine NC'.out.mono ?_
  rintro e w3 ⟨A3, c3, M, rfl, hM, hO, b3⟩
  have HM := Lib.hid hM
  have B3 := Lib.hid (below_on B2.out b3)
  have hS3 := S2.out.later b3
  have S3 := Lib.hid hS3
  have s0 := hS3.cell (i := 0) rfl
  have s1 := hS3.cell (i := 1) rfl
  have O3 := Lib.hid hO.one
  have N1' := Lib.hid (N1.out A3 c3 M w3 hO.one hM)
  clear b3 hS3 hO hM NC' B2 S2 N1
  go_wp2_with fail
  refine N1'.out.mono ?_
  rintro e w4 ⟨v4, rfl, hv4, b4⟩
  obtain ⟨V4, d4, rfl, hB4⟩ := OneB.of_own hv4 HGB.out
  have HV4 := Lib.hid hv4
  have B4 := Lib.hid (below_on B3.out b4)
  have B34 := Lib.hid b4
  have hS4 := S3.out.later b4
  have s0 := hS4.cell (i := 0) rfl
  have s1 := hS4.cell (i := 1) rfl
  have N2' := Lib.hid (N2.out w4 (below_on B3.out b4))
  have Q4 := Lib.hid hB4
  clear hv4 b4 hS4 N1' S3 hB4 N2
  go_wp2_with fail
  refine N2'.out.mono ?_
  rintro e w5 ⟨v5, rfl, hv5, b5⟩
  obtain ⟨V5, d5, rfl, hB5⟩ := OneB.of_own hv5 HGB.out
  have B5 := Lib.hid (below_on B4.out b5)
  have B35 := Lib.hid (below_on B34.out b5)
  have HV5 := Lib.hid (own_later HV4.out b5)
  have ns := bsame_any V4 V5 d4 d5 gv gv w5 (Q4.out.later b5) hB5
  rw [decide_eq_true rfl] at ns
  have NS := Lib.hid ns
  clear hv5 hB5 b5 N2' B4 B34 HV4 Q4 ns s0 s1
  go_wp2_with fail
  refine NS.out.mono ?_
  rintro e w6 ⟨rfl, b6⟩
  have B6 := Lib.hid (below_on B5.out b6)
  have B36 := Lib.hid (below_on B35.out b6)
  have HV6 := Lib.hid (own_later HV5.out b6)
  have N3' := Lib.hid (N3.out A3 c3 M w6 (O3.out.later (below_on B35.out b6)) HM.out)
  clear b6 NS B5 B35 HV5 N3
  go_wp2_with fail
  refine N3'.out.mono ?_
  rintro e w7 ⟨rfl, b7⟩
  have B7 := Lib.hid (below_on B6.out b7)
  have B37 := Lib.hid (below_on B36.out b7)
  have HV7 := Lib.hid (own_later HV6.out b7)
  have N4' := Lib.hid (N4.out w7 (below_on B6.out b7))
  clear b7 N3' B6 B36 HV6 N4
  go_wp2_with fail
  refine N4'.out.mono ?_
  rintro e w8 ⟨rfl, b8⟩
  have B8 := Lib.hid (below_on B7.out b8)
  have B38 := Lib.hid (below_on B37.out b8)
  have HV8 := Lib.hid (own_later HV7.out b8)
  have N5' := Lib.hid (N5.out A3 c3 M w8 (O3.out.later (below_on B37.out b8)) HM.out)
  clear b8 N4' B7 B37 HV7 N5
  go_wp2_with fail
  refine N5'.out.mono ?_
  rintro e w9 ⟨A9, c9, M9, rfl, hM9, hO9, b9⟩
  have B9 := Lib.hid (below_on B8.out b9)
  have B39 := Lib.hid (below_on B38.out b9)
  have HV9 := Lib.hid (own_later HV8.out b9)
  have O9 := Lib.hid hO9.one
  have HM9 := Lib.hid hM9
  have N6' := Lib.hid (N6.out w9 (below_on B8.out b9))
  clear b9 N5' B8 B38 HV8 hO9 hM9 N6
  go_wp2_with fail
  refine N6'.out.mono ?_
  rintro e w10 ⟨v10, M10, rfl, hM10, hO10, b10⟩
  obtain ⟨A10, c10, rfl, hC10⟩ := hO10.form
  have B10 := Lib.hid (below_on B9.out b10)
  have B310 := Lib.hid (below_on B39.out b10)
  have HV10 := Lib.hid (own_later HV9.out b10)
  have ns := csame_any A9 A10 c9 c10 M9 M10 w10 (O9.out.later b10) hC10.one
  rw [decide_eq_true (HM9.out.trans hM10.symm)] at ns
  have NS := Lib.hid ns
  clear b10 N6' B9 B39 HV9 hO10 hM10 hC10 ns HM9 O9
  go_wp2_with fail
  refine NS.out.mono ?_
  rintro e w11 ⟨rfl, b11⟩
  have B11 := Lib.hid (below_on B10.out b11)
  have B311 := Lib.hid (below_on B310.out b11)
  have HV11 := Lib.hid (own_later HV10.out b11)
  obtain ⟨n, hn⟩ : ∃ n, gv.length = n := ⟨_, rfl⟩
  rw [hn] at HV11 ⊢
  have HN := Lib.hid hn
  clear b11 NS B10 B310 HV10 hn
  go_wp2_with fail
  go_loopw [13] (fun s13 wr => ∃ (i : Nat) (bs : List Int), s13 = .int .i64 (i : Int) ∧ i ≤ n ∧ bs.length = n ∧ wr.ownsRow w3.heap.size 5 1 (.slice V4 n d4) n (bs.map (Value.int .u8)) ∧ Below w3.heap.size w3 wr) (fun s13 _ => n - (intOf s13).toNat)
  case atStart => exact ⟨0, gv, rfl, Nat.zero_le _, HN.out, HV11.out, B311.out⟩
  case round =>
    obtain ⟨i, bs, rfl, hi, hbs, hown, hbw⟩ := hrel
    have HBS := Lib.hid hbs; have HOW := Lib.hid hown; have HBW := Lib.hid hbw
    clear hbs hown hbw
    by_cases hil : i < n
    · have hd : decide ((i : Int) < (n : Int)) = true := decide_eq_true (by omega)
      obtain ⟨g, cap, hv⟩ := own_len HOW.out (by omega)
      injection hv with e1 _ e3
      subst e1 e3
      have c0 := own_cell_at HOW.out (Ca.byte_at bs i (by rw [HBS.out]; exact hil))
      have f0 := own_free_at HOW.out i
      have hge := (own_base_le HOW.out).1
      have hi0 : (0 : Int) ≤ (i : Int) := by omega
      have hi1 : (i : Int) < (n : Int) := by omega
      have hcap : n ≤ d4 ∧ d4 ≤ 9223372036854775807 := by
        obtain ⟨A9, c9, hv9, h8, h9, -⟩ := own_form HOW.out
        injection hv9 with _ _ e9
        unfold maxLen at h9
        omega
      have HP := Lib.hid (fun u => own_put HOW.out i u)
      have HW := Lib.hid (fun u => HBW.out.setCell (p := ⟨g, i, none⟩) hge u)
      obtain ⟨x, hx⟩ : ∃ x, bs.getD i 0 = x := ⟨_, rfl⟩
      rw [hx] at c0
      clear hx
      go_wp2_with fail
      go_roundw
      case rel => exact ⟨i + 1, bs.set i (bits BinOp.xor IntKind.u8 x 255), by first | rfl | (congr 1; omega), by omega, by rw [List.length_set]; exact HBS.out, (by rw [← Ca.byte_put]; exact HP.out _), HW.out _⟩
      case measure => simp [intOf]; omega
    · have hd : decide ((i : Int) < (n : Int)) = false := decide_eq_false (by omega)
      have bbr : Below w.heap.size w wr := B3.out.trans (HBW.out.mono B3.out.size)
      have ns := csame_any A3 A c3 c M L wr (O3.out.later HBW.out) (HL.out.later bbr)
      rw [decide_eq_true (HM.out.trans HBL.out.symm)] at ns
      have NS := Lib.hid ns
      have BBR := Lib.hid bbr
      clear bbr ns
      go_wp2_with fail
      refine NS.out.mono ?_
      rintro e w13 ⟨rfl, b13⟩
      have FB := Lib.hid (below_on BBR.out b13)
      clear b13 NS BBR
      go_wp2
      go_ret
      exact ⟨by first | rfl | simp, FB.out⟩
end Go.Proofs.Ytmccednfaemiaaa
