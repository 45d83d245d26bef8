/-
  The law WireVectors, walked.
  For every list of stamps and all bytes, the law WireVectors returns true and leaves its arguments as they were. One condition: the arguments together hold at most 1048576 values (the second form).
-/
import Derived.Test.YtbbmngabbbehcaaG30
import Derived.Lib.QuietBelow
import Derived.Test.YtbbmngabbbehcaaRows
import Derived.Test.YtbbmngabbbehcaaG31
import Derived.JoinedCond
import Derived.OpenShut
import Derived.WalkKit
import Derived.ProofKit
import Derived.SizedLaws
namespace Go.Proofs.Ytbbmngabbbehcaa
open Go.RowKit

set_option maxRecDepth 100000 in
set_option maxHeartbeats 6400000 in
theorem lawWVec_true (X A : Option Addr) (cx c : Nat) (v : List (Int × Int)) (b : List Int) (w : World) (hv : OneL w X cx v) (hb : OneB w A c b) (hi : Ints v) (hvl : v.length ≤ 1048576) (hbl : b.length ≤ 1048576) (hf : Ve.fmd v = true) :
    Calls Try.prog 3 #[.slice X v.length cx, .slice A b.length c] w (Says (.bool true) w) := by
  have CA := Lib.hid (fun wx => walive_any wx)
  have cf := fun wx (hx : OneL wx X cx v) => rformed_any X cx v wx hx.len hx.stamps
  have hft : Ve.fmd v = true → ∀ s ∈ v, Wi.fit s.1 ∧ Wi.fit s.2 := fun h => Wi.fit_vec hi h
  have hmax := Wi.est_max v
  have ca := fun wx (h1 : OneB wx A c b) (h2 : OneL wx X cx v) => (show Calls Try.prog 13 #[.slice A b.length c, .slice X v.length cx] wx (GivesB2 (b ++ Wi.elist Wi.est v) 0 wx) from by have h := dappvec_any A X c cx b v wx h1 h2 hi (by omega) (by omega); rw [hf] at h; exact h)
  have hby := Wi.elist_byte (f := Wi.est) (l := v) (by omega) (fun x hx => Wi.est_byte (hft hf x hx))
  have ce := fun wx (h2 : OneL wx X cx v) => evec_any X cx v wx (by omega) (hft hf) h2
  have cr := fun g wx (h : RdAt wx g A c b (some 0)) => rdvec_any g A c b (some 0) wx (by omega) h
  have ct := fun wx (h : OneB wx A c b) => dvector_any A c b wx h
  obtain ⟨E, hE⟩ : ∃ E, Wi.elist Wi.est v = E := ⟨_, rfl⟩
  rw [hE] at hmax hby
  simp only [hE] at ca ce
  have CE := Lib.hid ce; have HY := Lib.hid hby
  clear ce hby hE
  simp only [hf] at cf
  have CF := Lib.hid cf; have CW := Lib.hid ca; have CR := Lib.hid cr; have CT := Lib.hid ct; have HV := Lib.hid hv; have HB := Lib.hid hb
  clear cf ca cr ct hv hb hft hf hi
  go_enter Try.func3, Try.ntmps3
  go_wp2_with fail
  refine (CA.out _).mono ?_
  rintro e w1 ⟨rfl, b1⟩
  go_wp2_with fail
  refine (CF.out _ (HV.out.later b1)).mono ?_
  rintro e w2 ⟨rfl, b2⟩
  have bb2 := below_on b1 b2
  go_wp2_with fail
  refine (CE.out _ (HV.out.later bb2)).mono ?_
  rintro e w3 hg
  obtain ⟨D, d, rfl, hD, b3⟩ := hg.one HY.out
  clear hg
  have bb3 := below_on bb2 b3
  go_wp2_with fail
  refine (CW.out _ (HB.out.later bb3) (HV.out.later bb3)).mono ?_
  rintro e w4 ⟨y, rfl, ho, b4⟩
  replace ho : w4.ownsRow w3.heap.size 5 1 y (b ++ E).length (bCells (b ++ E)) := ho
  obtain ⟨Y, cy, rfl, hY⟩ := OneB.of_own ho (fun z hz => (List.mem_append.1 hz).elim (HB.out.byte z) (HY.out z))
  obtain ⟨xs, hxs⟩ : ∃ xs, b ++ E = xs := ⟨_, rfl⟩
  rw [hxs] at ho hY ⊢
  have hD4 := hD.later b4
  have bb4 := below_on bb3 b4
  have b5 := below_new (Below.refl w4.heap.size w4) (.cells #[.slice A b.length c, .int .i64 0, .bool false] 32)
  have bb5 := below_on bb4 b5
  have hR : RdAt (w4.alloc (.cells #[.slice A b.length c, .int .i64 0, .bool false] 32)) w4.heap.size A c b (some 0) := ⟨0, false, Blk.new w4 _ _, HB.out.later bb5, Nat.zero_le _, rfl⟩
  obtain ⟨W, hW⟩ : ∃ W, w4.alloc (.cells #[.slice A b.length c, .int .i64 0, .bool false] 32) = W := ⟨_, rfl⟩
  obtain ⟨g, hg⟩ : ∃ g, w4.heap.size = g := ⟨_, rfl⟩
  have hgw : w.heap.size ≤ g := by have := bb4.size; omega
  have hWg : g < W.heap.size := by rw [← hW, ← hg]; simp
  have hY5 := hY.later b5
  have hD5 := hD4.later b5
  rw [hW] at bb5 hR hY5 hD5
  rw [hg] at hR
  have HW := Lib.hid hW; have HG := Lib.hid hg; have HR := Lib.hid hR; have HXS := Lib.hid hxs
  clear hW hg hR hxs ho hY hD4 b5
  go_wp2_with fail
  rw [HW.out, HG.out]
  refine (CR.out g W HR.out).mono ?_
  rintro e w6 ⟨U, u, want, rfl, hwl, hU, hR6, hO6, hgot⟩
  have bb6 : Below w.heap.size w w6 := bb5.trans (hO6.to_below (by have := bb5.size; omega) hgw)
  have hO6' : Below g W w6 := hO6.to_below (Nat.le_of_lt hWg) (Nat.le_refl _)
  have HU := Lib.hid hU; have HR6 := Lib.hid hR6; have HGOT := Lib.hid hgot
  obtain ⟨a9, bd9, hB9, -, -, -⟩ := HR.out.blk
  have hY6 := hY5.only hO6 hB9 rd_noU8s
  have hD6 := hD5.only hO6 hB9 rd_noU8s
  clear hU hR6 hgot HR hB9
  go_wp2_with fail
  refine (CT.out _ (HB.out.later bb6)).mono ?_
  rintro e w7 ⟨vv, u2, k, er, rfl, hul, huf, hown, b7, hp⟩
  have hR7 := HR6.out.later b7
  have bb7 := below_on bb6 b7
  obtain ⟨Z, cz, rfl, hZ⟩ := OneL.of_own hown
  have hU7 := HU.out.later b7
  have hY7 := hY6.later b7
  have hD7 := hD6.later b7
  have pm : (fun a => Wi.such Ve.fmd (Wi.plistm 64 (Wi.pst b) b a)) 0 = Wi.pvec b 0 := Wi.pvec_m b 0
  rw [pm] at hp
  clear pm
  have HP := Lib.hid hp; have HU7 := Lib.hid hU7; have HY7 := Lib.hid hY7; have HD7 := Lib.hid hD7; have HZ := Lib.hid hZ; have HR7 := Lib.hid hR7
  have Q1 := Lib.hid (wbehind_any Y A D cy c d xs b E true _ w7 (by omega) hY7 (HB.out.later bb7) hD7 HXS.out.symm rfl)
  clear hp hU7 hY7 hD7 hZ hR7 hY5 hY6 hD5 hD6 hown
  go_wp2_with fail
  refine Q1.out.mono ?_
  rintro e w8 ⟨rfl, b8⟩
  have bb8 := below_on bb7 b8
  have hR8 := HR7.out.later b8
  have hZ8 := HZ.out.later b8
  have hU8 := HU7.out.later b8
  have hp := HP.out
  cases hpv : Wi.pvec b 0 with
  | some r =>
    obtain ⟨x, a⟩ := r
    obtain ⟨rfl, rfl, rfl⟩ : u2 = x ∧ k = (a : Int) ∧ er = 0 := by
      rcases hp with ⟨a', h1, h2, h3⟩ | ⟨h1, -⟩
      · rw [hpv] at h1
        cases h1
        exact ⟨rfl, h2, h3⟩
      · rw [hpv] at h1
        cases h1
    have hn : Wi.nxt (Wi.pvec b) (some 0) = some a := by
      show (Wi.pvec b 0).map _ = _
      rw [hpv]
      rfl
    obtain rfl : want = u2 := HGOT.out u2 a hpv
    rw [hn] at hR8
    have Q2 := Lib.hid (wread_any g A c b (some a) _ _ w8 hR8 (.inl ⟨a, rfl, rfl, rfl⟩))
    obtain ⟨a0, bd, hB8, -, -, hs⟩ := hR8
    obtain rfl : bd = false := by
      cases bd with
      | false => rfl
      | true => simp at hs
    have HB8 := Lib.hid hB8; have HZ8 := Lib.hid hZ8; have HU8 := Lib.hid hU8
    have hzl := hZ8.len
    clear hp hpv hn hs hB8 hZ8 hU8 HP HGOT
    go_wp2_with fail
    refine Q2.out.mono ?_
    rintro e w9 ⟨rfl, b9⟩
    have bb9 := below_on bb8 b9
    have hB9 := HB8.out.later b9
    have c2 := hB9.cell (i := 2) rfl
    have Q3 := Lib.hid (same_self (HZ8.out.later b9) (HU8.out.later b9))
    clear hB9
    go_wp2_with fail
    refine Q3.out.mono ?_
    rintro e w10 ⟨rfl, b10⟩
    go_wp2
    go_ret
    exact ⟨rfl, below_on bb9 b10⟩
  | none =>
    obtain ⟨rfl, rfl, rfl⟩ : u2 = [] ∧ k = 0 ∧ er = 4 := by
      rcases hp with ⟨a', h1, -⟩ | ⟨-, h2, h3, h4⟩
      · rw [hpv] at h1
        cases h1
      · exact ⟨h2, h3, h4⟩
    have hn : Wi.nxt (Wi.pvec b) (some 0) = none := by
      show (Wi.pvec b 0).map _ = _
      rw [hpv]
      rfl
    rw [hn] at hR8
    have Q2 := Lib.hid (wread_any g A c b none _ _ w8 hR8 (.inr ⟨rfl, rfl, rfl⟩))
    obtain ⟨a0, bd, hB8, -, -, hs⟩ := hR8
    obtain rfl : bd = true := by
      cases bd with
      | true => rfl
      | false => simp at hs
    have HB8 := Lib.hid hB8
    clear hp hpv hn hs hB8 hZ8 hU8 HP HGOT
    go_wp2_with fail
    refine Q2.out.mono ?_
    rintro e w9 ⟨rfl, b9⟩
    have hB9 := HB8.out.later b9
    have c2 := hB9.cell (i := 2) rfl
    clear hB9
    go_wp2
    go_ret
    exact ⟨rfl, below_on bb8 b9⟩

set_option maxRecDepth 100000 in
set_option maxHeartbeats 6400000 in
theorem lawWVec_false (X A : Option Addr) (cx c : Nat) (v : List (Int × Int)) (b : List Int) (w : World) (hv : OneL w X cx v) (hb : OneB w A c b) (hi : Ints v) (hvl : v.length ≤ 1048576) (hbl : b.length ≤ 1048576) (hf : Ve.fmd v = false) :
    Calls Try.prog 3 #[.slice X v.length cx, .slice A b.length c] w (Says (.bool true) w) := by
  have CA := Lib.hid (fun wx => walive_any wx)
  have cf := fun wx (hx : OneL wx X cx v) => rformed_any X cx v wx hx.len hx.stamps
  have hft : Ve.fmd v = true → ∀ s ∈ v, Wi.fit s.1 ∧ Wi.fit s.2 := fun h => Wi.fit_vec hi h
  have hmax := Wi.est_max v
  have ca := fun wx (h1 : OneB wx A c b) (h2 : OneL wx X cx v) => (show Calls Try.prog 13 #[.slice A b.length c, .slice X v.length cx] wx (GivesB2 [] 1 wx) from by have h := dappvec_any A X c cx b v wx h1 h2 hi (by omega) (by omega); rw [hf] at h; exact h)
  have cr := fun g wx (h : RdAt wx g A c b (some 0)) => rdvec_any g A c b (some 0) wx (by omega) h
  have ct := fun wx (h : OneB wx A c b) => dvector_any A c b wx h
  simp only [hf] at cf
  have CF := Lib.hid cf; have CW := Lib.hid ca; have CR := Lib.hid cr; have CT := Lib.hid ct; have HV := Lib.hid hv; have HB := Lib.hid hb
  clear cf ca cr ct hv hb hft hf hi
  go_enter Try.func3, Try.ntmps3
  go_wp2_with fail
  refine (CA.out _).mono ?_
  rintro e w1 ⟨rfl, b1⟩
  go_wp2_with fail
  refine (CF.out _ (HV.out.later b1)).mono ?_
  rintro e w2 ⟨rfl, b2⟩
  have bb2 := below_on b1 b2
  have hD4 : OneB w2 none 0 [] := OneB.nil _
  go_wp2_with fail
  refine (CW.out _ (HB.out.later bb2) (HV.out.later bb2)).mono ?_
  rintro e w4 ⟨y, rfl, ho, b4⟩
  replace ho : w4.ownsRow w2.heap.size 5 1 y ([] : List Int).length (bCells []) := ho
  obtain ⟨Y, cy, rfl, hY⟩ := OneB.of_own ho (fun z hz => by cases hz)
  replace hD4 := hD4.later b4
  have bb4 := below_on bb2 b4
  obtain ⟨xs, hxs⟩ : ∃ xs : List Int, [] = xs := ⟨_, rfl⟩
  rw [hxs] at ho hY ⊢
  have b5 := below_new (Below.refl w4.heap.size w4) (.cells #[.slice A b.length c, .int .i64 0, .bool false] 32)
  have bb5 := below_on bb4 b5
  have hR : RdAt (w4.alloc (.cells #[.slice A b.length c, .int .i64 0, .bool false] 32)) w4.heap.size A c b (some 0) := ⟨0, false, Blk.new w4 _ _, HB.out.later bb5, Nat.zero_le _, rfl⟩
  obtain ⟨W, hW⟩ : ∃ W, w4.alloc (.cells #[.slice A b.length c, .int .i64 0, .bool false] 32) = W := ⟨_, rfl⟩
  obtain ⟨g, hg⟩ : ∃ g, w4.heap.size = g := ⟨_, rfl⟩
  have hgw : w.heap.size ≤ g := by have := bb4.size; omega
  have hWg : g < W.heap.size := by rw [← hW, ← hg]; simp
  have hY5 := hY.later b5
  have hD5 := hD4.later b5
  rw [hW] at bb5 hR hY5 hD5
  rw [hg] at hR
  have HW := Lib.hid hW; have HG := Lib.hid hg; have HR := Lib.hid hR; have HXS := Lib.hid hxs
  clear hW hg hR hxs ho hY hD4 b5
  go_wp2_with fail
  rw [HW.out, HG.out]
  refine (CR.out g W HR.out).mono ?_
  rintro e w6 ⟨U, u, want, rfl, hwl, hU, hR6, hO6, hgot⟩
  have bb6 : Below w.heap.size w w6 := bb5.trans (hO6.to_below (by have := bb5.size; omega) hgw)
  have hO6' : Below g W w6 := hO6.to_below (Nat.le_of_lt hWg) (Nat.le_refl _)
  have HU := Lib.hid hU; have HR6 := Lib.hid hR6; have HGOT := Lib.hid hgot
  obtain ⟨a9, bd9, hB9, -, -, -⟩ := HR.out.blk
  have hY6 := hY5.only hO6 hB9 rd_noU8s
  have hD6 := hD5.only hO6 hB9 rd_noU8s
  clear hU hR6 hgot HR hB9
  go_wp2_with fail
  refine (CT.out _ (HB.out.later bb6)).mono ?_
  rintro e w7 ⟨vv, u2, k, er, rfl, hul, huf, hown, b7, hp⟩
  have hR7 := HR6.out.later b7
  have bb7 := below_on bb6 b7
  obtain ⟨Z, cz, rfl, hZ⟩ := OneL.of_own hown
  have hU7 := HU.out.later b7
  have hY7 := hY6.later b7
  have hD7 := hD6.later b7
  have pm : (fun a => Wi.such Ve.fmd (Wi.plistm 64 (Wi.pst b) b a)) 0 = Wi.pvec b 0 := Wi.pvec_m b 0
  rw [pm] at hp
  clear pm
  have HP := Lib.hid hp; have HU7 := Lib.hid hU7; have HY7 := Lib.hid hY7; have HD7 := Lib.hid hD7; have HZ := Lib.hid hZ; have HR7 := Lib.hid hR7
  have Q1 := Lib.hid (wbehind_any Y A none cy c 0 xs b ([] : List Int) false _ w7 (by simp; omega) hY7 (HB.out.later bb7) hD7 HXS.out.symm rfl)
  clear hp hU7 hY7 hD7 hZ hR7 hY5 hY6 hD5 hD6 hown
  go_wp2_with fail
  refine Q1.out.mono ?_
  rintro e w8 ⟨rfl, b8⟩
  have bb8 := below_on bb7 b8
  have hR8 := HR7.out.later b8
  have hZ8 := HZ.out.later b8
  have hU8 := HU7.out.later b8
  have hp := HP.out
  cases hpv : Wi.pvec b 0 with
  | some r =>
    obtain ⟨x, a⟩ := r
    obtain ⟨rfl, rfl, rfl⟩ : u2 = x ∧ k = (a : Int) ∧ er = 0 := by
      rcases hp with ⟨a', h1, h2, h3⟩ | ⟨h1, -⟩
      · rw [hpv] at h1
        cases h1
        exact ⟨rfl, h2, h3⟩
      · rw [hpv] at h1
        cases h1
    have hn : Wi.nxt (Wi.pvec b) (some 0) = some a := by
      show (Wi.pvec b 0).map _ = _
      rw [hpv]
      rfl
    obtain rfl : want = u2 := HGOT.out u2 a hpv
    rw [hn] at hR8
    have Q2 := Lib.hid (wread_any g A c b (some a) _ _ w8 hR8 (.inl ⟨a, rfl, rfl, rfl⟩))
    obtain ⟨a0, bd, hB8, -, -, hs⟩ := hR8
    obtain rfl : bd = false := by
      cases bd with
      | false => rfl
      | true => simp at hs
    have HB8 := Lib.hid hB8; have HZ8 := Lib.hid hZ8; have HU8 := Lib.hid hU8
    have hzl := hZ8.len
    clear hp hpv hn hs hB8 hZ8 hU8 HP HGOT
    go_wp2_with fail
    refine Q2.out.mono ?_
    rintro e w9 ⟨rfl, b9⟩
    have bb9 := below_on bb8 b9
    have hB9 := HB8.out.later b9
    have c2 := hB9.cell (i := 2) rfl
    have Q3 := Lib.hid (same_self (HZ8.out.later b9) (HU8.out.later b9))
    clear hB9
    go_wp2_with fail
    refine Q3.out.mono ?_
    rintro e w10 ⟨rfl, b10⟩
    go_wp2
    go_ret
    exact ⟨rfl, below_on bb9 b10⟩
  | none =>
    obtain ⟨rfl, rfl, rfl⟩ : u2 = [] ∧ k = 0 ∧ er = 4 := by
      rcases hp with ⟨a', h1, -⟩ | ⟨-, h2, h3, h4⟩
      · rw [hpv] at h1
        cases h1
      · exact ⟨h2, h3, h4⟩
    have hn : Wi.nxt (Wi.pvec b) (some 0) = none := by
      show (Wi.pvec b 0).map _ = _
      rw [hpv]
      rfl
    rw [hn] at hR8
    have Q2 := Lib.hid (wread_any g A c b none _ _ w8 hR8 (.inr ⟨rfl, rfl, rfl⟩))
    obtain ⟨a0, bd, hB8, -, -, hs⟩ := hR8
    obtain rfl : bd = true := by
      cases bd with
      | true => rfl
      | false => simp at hs
    have HB8 := Lib.hid hB8
    clear hp hpv hn hs hB8 hZ8 hU8 HP HGOT
    go_wp2_with fail
    refine Q2.out.mono ?_
    rintro e w9 ⟨rfl, b9⟩
    have hB9 := HB8.out.later b9
    have c2 := hB9.cell (i := 2) rfl
    clear hB9
    go_wp2
    go_ret
    exact ⟨rfl, below_on bb8 b9⟩

theorem lawWVec_any (X A : Option Addr) (cx c : Nat) (v : List (Int × Int)) (b : List Int) (w : World) (hv : OneL w X cx v) (hb : OneB w A c b) (hi : Ints v) (hvl : v.length ≤ 1048576) (hbl : b.length ≤ 1048576) :
    Calls Try.prog 3 #[.slice X v.length cx, .slice A b.length c] w (Says (.bool true) w) := by
  cases hf : Ve.fmd v with
  | true => exact lawWVec_true X A cx c v b w hv hb hi hvl hbl hf
  | false => exact lawWVec_false X A cx c v b w hv hb hi hvl hbl hf
end Go.Proofs.Ytbbmngabbbehcaa
namespace Go.Proofs.Ytbbmngabbbehcaa.wireVectors
open Go.ChangeShapes Go.WideShapes Go.ChangeAt Go.RowKit

theorem own : ownKnob Try.prog.godebug = none := by kernel_rfl
theorem laidOut : laidOutB Try.prog = true := by kernel_rfl
theorem reads : ∀ t ∈ Try.f3.params.toList, Try.prog.readableRec t = true ∧ t < Try.prog.types.size := by
  intro t ht
  rw [Try.params3] at ht
  have : t = 22 ∨ t = 23 := by simpa using ht
  rcases this with rfl | rfl <;> exact ⟨by kernel_rfl, of_decide_eq_true (by kernel_rfl)⟩

set_option maxRecDepth 100000 in
theorem lifted (os : Os) (started : os.Started) (H : Type) (enc : TypeId × Value → H) (F : Stop.Interp) :
    ReturnsInHanded {} Try.checked os 3 .any ((Rows.OpenSpec.upto Rows.wireVectorsSpec).pre6 enc Try.prog Try.f3 Rows.wireVectorsUptoRow.domain false) (((Rows.OpenSpec.upto Rows.wireVectorsSpec).at F).post enc Try.prog Try.f3 false true false false) := by
  refine returnsInHanded_of_cond (C := Try.checked) (s := Rows.OpenSpec.upto Rows.wireVectorsSpec) (k := Rows.uptoSmall) rfl own started (by kernel_rfl) Try.func3
    (OpenSpec.witness (enc := enc) (C := Try.checked) (s := Rows.OpenSpec.upto Rows.wireVectorsSpec) (k := Rows.uptoSmall) rfl false ⟨#[], #[.slice none 0 0, .slice none 0 0], []⟩ 8 (by kernel_rfl) (by kernel_rfl) (by kernel_rfl)
      (x := ([.nil, .nil], [], [])) (by kernel_rfl) rfl (by kernel_rfl)) ?_
  intro W base args ds gs before hval0 hW _ hk _
  suffices hs : Calls Try.prog 3 args W (fun e W' => ∃ v, e = .returned v ∧ Rows.wireVectorsSpec.post enc Try.prog Try.f3 false true false false W args v W') from hs
  replace hW : DataW.Whole enc Try.prog Try.f3.params.toList Rows.wireVectorsSpec.vars false W args.toList ds gs before := hW
  have hval : ∀ (j : Nat) t v, Try.f3.params[j]? = some t → args[j]? = some v → Value.okWide Try.prog W .any base t v := hval0
  have hW' := hW
  obtain ⟨p, q, hA0, hV, rfl, hfz, hnd⟩ := hW
  have hA : DataW.TrodAll enc Try.prog W 0 (fun _ => true) true Try.f3.params.toList args.toList ds p := hA0
  rw [Try.params3] at hA hval
  obtain ⟨v0, vs0, d0, ds0, p0, q0, hargs, rfl, rfl, h0, r0⟩ := trodAll_cons hA
  obtain ⟨v1, vs1, d1, ds1, p1, q1, rfl, rfl, rfl, h1, r1⟩ := trodAll_cons r0
  obtain ⟨rfl, rfl, rfl⟩ := trodAll_nil r1
  obtain rfl : args = #[v0, v1] := by cases args; simp_all
  obtain ⟨rfl, rfl⟩ := trodVars_none hV
  have hb := bulk_all hk
  simp only [List.append_nil, bulk_cons] at hb
  obtain ⟨A0, cap0, l0, rfl, o0, g0, z0⟩ := open_stamps2 (hval 0 22 v0 rfl rfl) h0
  obtain ⟨A1, cap1, l1, rfl, o1, z1⟩ := open_bytes2 (hval 1 23 v1 rfl rfl) h1
  clear hA0 hval0
  refine (lawWVec_any A0 A1 cap0 cap1 l0 l1 W o0 o1 g0 (by omega) (by omega)).mono fun e W' ⟨he, hg⟩ => ?_
  subst he
  exact ⟨_, rfl, law_post laidOut hW' rfl rfl (by kernel_rfl) Try.underlying4 reads hg⟩

/-- The statement. -/
theorem proved : Rows.WireVectorsUptoSaid :=
  OpenClaim.holds_of_cond 3 Try.f3 rfl rfl rfl rfl rfl rfl rfl ⟨rfl, rfl, rfl, rfl, rfl⟩ rfl rfl rfl rfl rfl (by kernel_rfl) Try.func3 (by kernel_rfl)
    (of_decide_eq_true (by kernel_rfl)) (by unfold Func.isWrapper; first | (rw [if_pos (by decide +kernel)]; kernel_rfl) | (rw [if_neg (by decide +kernel)]; exact ⟨rfl, rfl⟩))
    (fun os started H enc _ F => lifted os started H enc F)

end Go.Proofs.Ytbbmngabbbehcaa.wireVectors
