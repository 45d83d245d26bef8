/-
  Bytes that are laid behind a row of the call's own: what a laying function answers. Nothing of the program is imported but by what it stands on.
  What wire's layNumbers answers.
  What wire's layStamp and laySpan answer.
  What wire's layList answers.
-/
import Derived.Test.YtbbmngabbbehcaaG13
import Derived.Test.YtbbmngabbbehcaaG12
namespace Go.Proofs.Ytbbmngabbbehcaa
open Go.RowKit

theorem Wi.flat_le {α : Type} (f : α → List Int) (l : List α) (k : Nat) : ((l.take k).flatMap f).length ≤ (l.flatMap f).length := by
  conv => rhs; rw [← List.take_append_drop k l, List.flatMap_append, List.length_append]
  omega
section
variable {w w1 w2 : World} {r r1 : Option Nat}
theorem grown_on (h : w.grownBy w1 r) (h' : w1.grownBy w2 r1) (hr : r1 = r ∨ ∃ k, r1 = some k ∧ w.heap.size ≤ k) : w.grownBy w2 r :=
  ⟨h'.os.trans h.os, h'.tape.trans h.tape, h'.output.trans h.output, Nat.le_trans h.size h'.size, fun k hk hn => (h'.block k (by have := h.size; omega) (by
    rcases hr with rfl | ⟨j, rfl, hj⟩
    · exact hn
    · intro e
      injection e with e
      omega)).trans (h.block k hk hn)⟩
theorem grown_below (h : w.grownBy w1 r) (hb : Below w1.heap.size w1 w2) : w.grownBy w2 r :=
  ⟨hb.os.trans h.os, hb.tape.trans h.tape, hb.output.trans h.output, Nat.le_trans h.size hb.size, fun k hk hn => (hb.block k (by have := h.size; omega)).trans (h.block k hk hn)⟩
theorem grown_of (r : Option Nat) (hb : Below w.heap.size w w1) : w.grownBy w1 r := grown_below ⟨rfl, rfl, rfl, Nat.le_refl _, fun _ _ _ => rfl⟩ hb
theorem grown_blk (h : w.grownBy w1 r) {g : Nat} {t : TypeId} {cs : Array Value} (hB : Blk w g t cs) (hg : r ≠ some g) : Blk w1 g t cs := (h.block g hB.lt (fun e => hg e.symm)).trans hB
/-- The block of an answered row: the old one, or a new one. -/
def Moved (w : World) (v v' : Value) : Prop := v'.ownBlock = v.ownBlock ∨ ∃ k, v'.ownBlock = some k ∧ w.heap.size ≤ k
theorem Moved.refl (w : World) (v : Value) : Moved w v v := .inl rfl
theorem Moved.on {v v1 v2 : Value} (h : Moved w v v1) (hs : w.heap.size ≤ w1.heap.size) (h' : Moved w1 v1 v2) : Moved w v v2 := by
  rcases h' with h' | ⟨k, h', hk⟩
  · rcases h with h | ⟨j, h, hj⟩
    · exact .inl (h'.trans h)
    · exact .inr ⟨j, h'.trans h, hj⟩
  · exact .inr ⟨k, h', by omega⟩
theorem Moved.ne {v v1 : Value} (h : Moved w v v1) {g : Nat} (hg : v.ownBlock ≠ some g) (hl : g < w.heap.size) : v1.ownBlock ≠ some g := by
  rcases h with h | ⟨k, h, hk⟩
  · rw [h]; exact hg
  · rw [h]
    intro e
    injection e with e
    omega
end
/-- Bytes laid behind a row of the call's own: it grows, and nothing else turns. -/
def Lays (w0 : World) (v : Value) (l : List Int) (w : World) (e : Ending) (w' : World) : Prop :=
  ∃ v', e = .returned v' ∧ w'.ownsRow w0.heap.size 5 1 v' l.length (bCells l) ∧ w.grownBy w' v.ownBlock ∧ Moved w v v'
section
variable {w0 w w' : World} {v : Value} {l l' : List Int}
theorem below_grown (hb : Below w0.heap.size w0 w) (hg : w.grownBy w' v.ownBlock) {n : Nat} {xs : List Value} {e : TypeId} {size : Nat} (ho : w.ownsRow w0.heap.size e size v n xs) : Below w0.heap.size w0 w' :=
  hb.grown hg hb.size (fun k hk => own_ge ho k hk)
/-- What is laid in two steps. -/
theorem Lays.on {v1 : Value} {w1 : World} {e : Ending} (hg : w.grownBy w1 v.ownBlock) (hm : Moved w v v1) (h : Lays w0 v1 l w1 e w') : Lays w0 v l w e w' := by
  obtain ⟨v', rfl, ho, hg', hm'⟩ := h
  refine ⟨v', rfl, ho, grown_on hg hg' ?_, hm.on hg.size hm'⟩
  exact hm
theorem Lays.cast {e : Ending} (h : Lays w0 v l w e w') (hl : l = l') : Lays w0 v l' w e w' := by subst hl; exact h
theorem own_ne {base n size g : Nat} {e : TypeId} {xs : List Value} (ho : w.ownsRow base e size v n xs) (hg : g < base ∨ w.heap.size ≤ g) : v.ownBlock ≠ some g := fun h => by
  have h1 := own_ge ho g h
  have h2 := own_lt ho g h
  omega
end
end Go.Proofs.Ytbbmngabbbehcaa
namespace Go.Proofs.Ytbbmngabbbehcaa
open Go.RowKit

def iCells (ns : List Int) : List Value := ns.map (Value.int .i64)
theorem iCells_get (ns : List Int) (k : Nat) (hk : k < ns.length) : (iCells ns).toArray[k]? = some (.int .i64 (ns.getD k 0)) := by
  unfold iCells
  simp [List.getD_eq_getElem?_getD, List.getElem?_eq_getElem hk]

set_option maxHeartbeats 3200000 in
theorem dnums_any (w0 : World) (v : Value) (pre : List Int) (g m : Nat) (ns : List Int) (w : World) (hm : m = ns.length) (hn : ns.length ≤ 1048576) (hpl : pre.length + (ns.flatMap Wi.by_).length ≤ 70368744177664) (hf : ∀ x ∈ ns, Wi.fit x)
    (hB : Blk w g 3 (iCells ns).toArray) (hg : v.ownBlock ≠ some g) (ho : w.ownsRow w0.heap.size 5 1 v pre.length (bCells pre)) (hb : w0.heap.size ≤ w.heap.size) :
    Calls Try.prog 106 #[v, .slice (some ⟨g, 0, none⟩) m m] w (Lays w0 v (pre ++ ns.flatMap Wi.by_) w) := by
  subst hm
  obtain ⟨i0, hi0, hz0, hz1, hz2⟩ := info_parts infoBy
  have HB := Lib.hid hB; have HG := Lib.hid hg; have HO := Lib.hid ho; have HF := Lib.hid hf
  have HFL := Lib.hid (Wi.flat_le Wi.by_ ns)
  have HFT := Lib.hid (fun k hk => Wi.flat_take Wi.by_ ns k 0 hk)
  clear hB hg ho hf
  go_enter Try.func106, Try.ntmps106
  go_wp2_with fail
  go_loopw [0, 11] (fun s0 s11 wr => ∃ k : Nat, k ≤ ns.length ∧ s11 = .int .i64 (k : Int) ∧ wr.ownsRow w0.heap.size 5 1 s0 (pre ++ (ns.take k).flatMap Wi.by_).length (bCells (pre ++ (ns.take k).flatMap Wi.by_)) ∧ w.grownBy wr v.ownBlock ∧ Moved w v s0) (fun _ s11 _ => ns.length - (intOf s11).toNat)
  case atStart => exact ⟨0, by omega, rfl, by simpa using HO.out, World.grownBy.refl _ _, Moved.refl _ _⟩
  case round =>
    obtain ⟨k, hk, rfl, hown, hgw, hmv⟩ := hrel
    have hsz := hgw.size
    by_cases hkl : k < ns.length
    · have hd : decide ((k : Int) < (ns.length : Int)) = true := decide_eq_true (by omega)
      have hBr := grown_blk hgw HB.out HG.out
      have d0 := hBr.cell (iCells_get ns k hkl)
      have hmem : ns.getD k 0 ∈ ns := by rw [List.getD_eq_getElem?_getD, List.getElem?_eq_getElem hkl]; exact List.getElem_mem hkl
      have g1 := HF.out _ hmem
      have hft := HFT.out k hkl
      have htl := HFL.out k
      obtain ⟨x, hx⟩ : ∃ x, ns.getD k 0 = x := ⟨_, rfl⟩
      rw [hx] at d0 g1 hft
      obtain ⟨q, hq⟩ : ∃ q, pre ++ (ns.take k).flatMap Wi.by_ = q := ⟨_, rfl⟩
      have hnew : pre ++ (ns.take (k + 1)).flatMap Wi.by_ = q ++ Wi.by_ x := by rw [hft, ← hq]; simp only [List.append_assoc]
      have hql : q.length ≤ 70368744177664 := by rw [← hq, List.length_append]; omega
      rw [hq] at hown
      obtain ⟨P, cp, hs3, -⟩ := own_form hown
      rw [hs3] at hown hmv
      subst hs3
      have q1 := Wi.by_len x
      have hap : Pk.appn [] x = (Wi.by_ x, 0) := by
        unfold Pk.appn
        rw [if_neg (by have := g1.1; omega), List.nil_append]
        rfl
      have CA := Lib.hid (fun wx => dappn_any none 0 [] x wx (by have := g1.1; omega) g1.2 (by simp) (OneB.nil _))
      rw [hap] at CA
      obtain ⟨bx, hbx⟩ : ∃ q, Wi.by_ x = q := ⟨_, rfl⟩
      rw [hbx] at CA q1 hnew
      have HNEW := Lib.hid hnew; have HOW := Lib.hid hown; have HGW := Lib.hid hgw; have HMV := Lib.hid hmv
      have hi1 : (0 : Int) ≤ (k : Int) := by omega
      have hi2 : (k : Int) < (ns.length : Int) := by omega
      clear hBr hmem g1 hft htl hx hnew hown hgw hmv hap hbx hq
      go_wp2_with fail
      refine (CA.out _).mono ?_
      rintro e w1 ⟨A, c, rfl, hob, b1⟩
      have hle := hob.le
      have ho1 := own_later HOW.out b1
      have HOB := Lib.hid hob
      have HO1 := Lib.hid ho1
      have hs0 : w0.heap.size ≤ w1.heap.size := by have := b1.size; omega
      have B1 := Lib.hid b1
      clear hob ho1 b1 CA d0
      go_wp2_with (at_builtin; refine wpList_append_lies _ rfl _ _ 23 rfl w0.heap.size 5 i0 (.int .u8 0) 1 1 Try.underlying23 hi0 hz0 hz1 hz2 rfl (by decide) _ q.length (bCells q) rfl HO1.out A bx.length c HOB.out.noA (bCells bx) rfl (by rw [bCells_length, Nat.mul_one]) HOB.out.lies (bCells_one _) ?c3 ?c4 hs0 ?_)
      case c3 => unfold maxLen; omega
      case c4 => omega
      intro v2 w2 ho2 hg2 hx2
      rw [← bCells_append, ← List.length_append, ← HNEW.out] at ho2
      have G2 := Lib.hid (grown_on HGW.out (grown_on (grown_of (Value.slice P q.length cp).ownBlock B1.out) hg2 (.inl rfl)) HMV.out)
      have M2 := Lib.hid (HMV.out.on hsz (show Moved wr (Value.slice P q.length cp) v2 from hx2.elim .inl (fun e => .inr ⟨_, e, B1.out.size⟩)))
      have HO2 := Lib.hid ho2
      clear ho2 hg2 hx2
      go_wp2_with fail
      go_roundw
      case rel => exact ⟨k + 1, by omega, by first | rfl | (congr 1; omega), HO2.out, G2.out, M2.out⟩
      case measure => simp [intOf]; omega
    · obtain rfl : k = ns.length := by omega
      have hd : decide ((ns.length : Int) < (ns.length : Int)) = false := decide_eq_false (by omega)
      rw [List.take_of_length_le (Nat.le_refl _)] at hown
      have HOW := Lib.hid hown; clear hown
      have HGW := Lib.hid hgw; have HMV := Lib.hid hmv
      clear hgw hmv
      go_wp2
      go_ret
      exact ⟨_, rfl, HOW.out, HGW.out, HMV.out⟩

/-- Two numbers. -/
theorem dnums2_any (w0 : World) (v : Value) (pre : List Int) (g : Nat) (x y : Int) (w : World) (hpl : pre.length + (Wi.etwo (x, y)).length ≤ 70368744177664) (hx : Wi.fit x) (hy : Wi.fit y)
    (hB : Blk w g 3 #[.int .i64 x, .int .i64 y]) (hg : v.ownBlock ≠ some g) (ho : w.ownsRow w0.heap.size 5 1 v pre.length (bCells pre)) (hb : w0.heap.size ≤ w.heap.size) :
    Calls Try.prog 106 #[v, .slice (some ⟨g, 0, none⟩) 2 2] w (Lays w0 v (pre ++ Wi.etwo (x, y)) w) := by
  have e : [x, y].flatMap Wi.by_ = Wi.etwo (x, y) := by simp [Wi.etwo]
  have h := dnums_any w0 v pre g 2 [x, y] w rfl (by simp) (by rw [e]; exact hpl) (fun z hz => by simp at hz; rcases hz with rfl | rfl <;> assumption) hB hg ho hb
  rwa [e] at h
/-- One number. -/
theorem dnums1_any (w0 : World) (v : Value) (pre : List Int) (g : Nat) (x : Int) (w : World) (hpl : pre.length + (Wi.by_ x).length ≤ 70368744177664) (hx : Wi.fit x)
    (hB : Blk w g 3 #[.int .i64 x]) (hg : v.ownBlock ≠ some g) (ho : w.ownsRow w0.heap.size 5 1 v pre.length (bCells pre)) (hb : w0.heap.size ≤ w.heap.size) :
    Calls Try.prog 106 #[v, .slice (some ⟨g, 0, none⟩) 1 1] w (Lays w0 v (pre ++ Wi.by_ x) w) := by
  have e : [x].flatMap Wi.by_ = Wi.by_ x := by simp
  have h := dnums_any w0 v pre g 1 [x] w rfl (by simp) (by rw [e]; exact hpl) (fun z hz => by simp at hz; rcases hz with rfl; assumption) hB hg ho hb
  rwa [e] at h

end Go.Proofs.Ytbbmngabbbehcaa
namespace Go.Proofs.Ytbbmngabbbehcaa
open Go.RowKit

set_option maxHeartbeats 1600000 in
theorem dst_any (w0 : World) (v : Value) (pre : List Int) (s : Int × Int) (w : World) (hpl : pre.length + (Wi.est s).length ≤ 70368744177664) (h1 : Wi.fit s.1) (h2 : Wi.fit s.2) (ho : w.ownsRow w0.heap.size 5 1 v pre.length (bCells pre)) (hb : w0.heap.size ≤ w.heap.size) :
    Calls Try.prog 88 #[v, .agg #[.int .i64 s.1, .int .i64 s.2]] w (Lays w0 v (pre ++ Wi.est s) w) := by
  obtain ⟨x, y⟩ := s
  have b1 := below_new (Below.refl w.heap.size w) (.cells #[.int .i64 x, .int .i64 y] 61)
  have b2 := below_new b1 (.cells #[.int .i64 y, .int .i64 x] 3)
  have hB := Blk.new (w.alloc (.cells #[.int .i64 x, .int .i64 y] 61)) 3 #[.int .i64 y, .int .i64 x]
  have HK := Lib.hid (dnums2_any w0 v pre (w.heap.size + 1) y x _ hpl h2 h1 (by simpa using hB) (own_ne ho (.inr (by omega))) (own_later ho b2) (Nat.le_trans hb b2.size))
  have B2 := Lib.hid b2
  have HO := Lib.hid ho
  clear hB b1 b2 ho h1 h2
  go_enter Try.func88, Try.ntmps88
  go_wp2_with fail
  refine HK.out.mono ?_
  rintro e w2 ⟨v', rfl, h1, h2, h3⟩
  have H1 := Lib.hid h1; have H2 := Lib.hid h2; have H3 := Lib.hid h3
  clear h1 h2 h3 HK
  go_wp2
  go_ret
  exact Lays.on (grown_of _ B2.out) (.inl rfl) ⟨v', rfl, H1.out, H2.out, H3.out⟩

set_option maxHeartbeats 1600000 in
theorem dsp_any (w0 : World) (v : Value) (pre : List Int) (s : Int × Int) (w : World) (hpl : pre.length + (Wi.etwo s).length ≤ 70368744177664) (h1 : Wi.fit s.1) (h2 : Wi.fit s.2) (ho : w.ownsRow w0.heap.size 5 1 v pre.length (bCells pre)) (hb : w0.heap.size ≤ w.heap.size) :
    Calls Try.prog 94 #[v, .agg #[.int .i64 s.1, .int .i64 s.2]] w (Lays w0 v (pre ++ Wi.etwo s) w) := by
  obtain ⟨x, y⟩ := s
  have b1 := below_new (Below.refl w.heap.size w) (.cells #[.int .i64 x, .int .i64 y] 95)
  have b2 := below_new b1 (.cells #[.int .i64 x, .int .i64 y] 3)
  have hB := Blk.new (w.alloc (.cells #[.int .i64 x, .int .i64 y] 95)) 3 #[.int .i64 x, .int .i64 y]
  have HK := Lib.hid (dnums2_any w0 v pre (w.heap.size + 1) x y _ hpl h1 h2 (by simpa using hB) (own_ne ho (.inr (by omega))) (own_later ho b2) (Nat.le_trans hb b2.size))
  have B2 := Lib.hid b2
  have HO := Lib.hid ho
  clear hB b1 b2 ho h1 h2
  go_enter Try.func94, Try.ntmps94
  go_wp2_with fail
  refine HK.out.mono ?_
  rintro e w2 ⟨v', rfl, h1, h2, h3⟩
  have H1 := Lib.hid h1; have H2 := Lib.hid h2; have H3 := Lib.hid h3
  clear h1 h2 h3 HK
  go_wp2
  go_ret
  exact Lays.on (grown_of _ B2.out) (.inl rfl) ⟨v', rfl, H1.out, H2.out, H3.out⟩

end Go.Proofs.Ytbbmngabbbehcaa
namespace Go.Proofs.Ytbbmngabbbehcaa
open Go.RowKit

set_option maxHeartbeats 3200000 in
theorem dlst_any (w0 : World) (v : Value) (pre : List Int) (A : Option Addr) (c : Nat) (l : List (Int × Int)) (w : World) (hpl : pre.length + (Wi.elist Wi.est l).length ≤ 70368744177664) (hll : l.length ≤ 1099511627776) (hf : ∀ s ∈ l, Wi.fit s.1 ∧ Wi.fit s.2) (h : OneL w0 A c l)
    (ho : w.ownsRow w0.heap.size 5 1 v pre.length (bCells pre)) (hb : Below w0.heap.size w0 w) :
    Calls Try.prog 87 #[v, .slice A l.length c, .func (.func 88) #[] #[]] w (Lays w0 v (pre ++ Wi.elist Wi.est l) w) := by
  have hel : Wi.elist Wi.est l = Wi.by_ (l.length : Int) ++ l.flatMap Wi.est := rfl
  rw [hel] at hpl ⊢
  rw [← List.append_assoc, List.length_append] at *
  have b1 := below_new (Below.refl w.heap.size w) (.cells #[.int .i64 (l.length : Int)] 3)
  have hs0 := hb.size
  have HK := Lib.hid (dnums1_any w0 v pre w.heap.size (l.length : Int) _ (by omega) ⟨by omega, by omega⟩ (Blk.new w 3 #[.int .i64 (l.length : Int)]) (own_ne ho (.inr (Nat.le_refl _))) (own_later ho b1) (Nat.le_trans hs0 b1.size))
  have B1 := Lib.hid b1; have HO := Lib.hid ho; have HB := Lib.hid hb; have H := Lib.hid h; have HF := Lib.hid hf
  have HFL := Lib.hid (Wi.flat_le Wi.est l)
  have HFT := Lib.hid (fun k hk => Wi.flat_take Wi.est l k (0, 0) hk)
  obtain ⟨hd, hhd⟩ : ∃ q, Wi.by_ (l.length : Int) = q := ⟨_, rfl⟩
  rw [hhd] at HK hpl ⊢
  clear b1 ho hb h hf hel hhd
  go_enter Try.func87, Try.ntmps87
  go_wp2_with fail
  refine HK.out.mono ?_
  rintro e w1 ⟨v1, rfl, h1, h2, h3⟩
  have H1 := Lib.hid h1
  have H2 := Lib.hid (grown_on (grown_of v.ownBlock B1.out) h2 (.inl rfl))
  have H3 := Lib.hid ((Moved.refl w v).on B1.out.size h3)
  clear h1 h2 h3 HK
  go_wp2_with fail
  go_loopw [0, 16] (fun s0 s16 wr => ∃ k : Nat, k ≤ l.length ∧ s16 = .int .i64 (k : Int) ∧ wr.ownsRow w0.heap.size 5 1 s0 (pre ++ hd ++ (l.take k).flatMap Wi.est).length (bCells (pre ++ hd ++ (l.take k).flatMap Wi.est)) ∧ w.grownBy wr v.ownBlock ∧ Moved w v s0) (fun _ s16 _ => l.length - (intOf s16).toNat)
  case atStart => exact ⟨0, by omega, rfl, by simpa using H1.out, H2.out, H3.out⟩
  case round =>
    obtain ⟨k, hk, rfl, hown, hgw, hmv⟩ := hrel
    have hsz := hgw.size
    by_cases hkl : k < l.length
    · have hdk : decide ((k : Int) < (l.length : Int)) = true := decide_eq_true (by omega)
      have hbr := below_grown HB.out hgw HO.out
      have hsr := hbr.size
      have hne : l ≠ [] := fun e => by rw [e] at hkl; simp at hkl
      obtain ⟨b, off, hA, hcA⟩ := H.out.stamps hne
      obtain ⟨c0, c1⟩ := hcA k hkl
      have dd := And.intro (cell_later hbr c0) (cell_later hbr c1)
      subst hA
      have hmem : l.getD k (0, 0) ∈ l := by rw [List.getD_eq_getElem?_getD, List.getElem?_eq_getElem hkl]; exact List.getElem_mem hkl
      have g0 := HF.out _ hmem
      have hft := HFT.out k hkl
      have htl := HFL.out (k + 1)
      rw [hft, List.length_append] at htl
      obtain ⟨q, hq⟩ : ∃ q, pre ++ hd ++ (l.take k).flatMap Wi.est = q := ⟨_, rfl⟩
      have hql : q.length = pre.length + hd.length + ((l.take k).flatMap Wi.est).length := by rw [← hq, List.length_append, List.length_append]
      have hnew : pre ++ hd ++ (l.take (k + 1)).flatMap Wi.est = q ++ Wi.est (l.getD k (0, 0)) := by rw [hft, ← hq]; simp only [List.append_assoc]
      rw [hq] at hown
      obtain ⟨x, hx⟩ : ∃ x, l.getD k (0, 0) = x := ⟨_, rfl⟩
      rw [hx] at dd g0 htl hnew
      obtain ⟨x1, x2⟩ := x
      obtain ⟨d0, d1⟩ := dd
      obtain ⟨g1, g2⟩ := g0
      simp only at d0 d1 g1 g2
      obtain ⟨P, cp, hs3, -⟩ := own_form hown
      rw [hs3] at hown hmv
      subst hs3
      have hi1 : (0 : Int) ≤ (k : Int) := by omega
      have hi2 : (k : Int) < (l.length : Int) := by omega
      have CE := Lib.hid (fun (wx : World) (hx : Below wr.heap.size wr wx) => dst_any w0 (.slice P q.length cp) q (x1, x2) wx (by omega) g1 g2 (own_later hown hx) (Nat.le_trans hsr hx.size))
      have HNEW := Lib.hid hnew; have HOW := Lib.hid hown; have HGW := Lib.hid hgw; have HMV := Lib.hid hmv
      clear hmem g1 g2 hft htl hx hnew hown hgw hmv hq hbr HO HB HF H1 H2 H3 HFL HFT hql hpl
      go_wp2_with fail
      refine (CE.out _ (below_new (Below.refl _ _) _)).mono ?_
      rintro e w2 ⟨v2, rfl, h1, h2, h3⟩
      have hx1 := below_new (Below.refl wr.heap.size wr) (.cells #[.int .i64 x1, .int .i64 x2] 61)
      rw [← HNEW.out] at h1
      have H1 := Lib.hid h1
      have H2 := Lib.hid (grown_on HGW.out (grown_on (grown_of (Value.slice P q.length cp).ownBlock hx1) h2 (.inl rfl)) HMV.out)
      have H3 := Lib.hid (HMV.out.on hsz ((Moved.refl wr (Value.slice P q.length cp)).on hx1.size h3))
      clear h1 h2 h3 CE d0 d1 hx1
      go_wp2_with fail
      go_roundw
      case rel => exact ⟨k + 1, by omega, by first | rfl | (congr 1; omega), H1.out, H2.out, H3.out⟩
      case measure => simp [intOf]; omega
    · obtain rfl : k = l.length := by omega
      have hdk : decide ((l.length : Int) < (l.length : Int)) = false := decide_eq_false (by omega)
      rw [List.take_of_length_le (Nat.le_refl _)] at hown
      have H1 := Lib.hid hown; have H2 := Lib.hid hgw; have H3 := Lib.hid hmv
      clear hown hgw hmv
      go_wp2
      go_ret
      exact ⟨_, rfl, H1.out, H2.out, H3.out⟩

set_option maxHeartbeats 3200000 in
theorem dlsp_any (w0 : World) (v : Value) (pre : List Int) (A : Option Addr) (c : Nat) (l : List (Int × Int)) (w : World) (hpl : pre.length + (Wi.elist Wi.etwo l).length ≤ 70368744177664) (hll : l.length ≤ 1099511627776) (hf : ∀ s ∈ l, Wi.fit s.1 ∧ Wi.fit s.2) (h : OneL w0 A c l)
    (ho : w.ownsRow w0.heap.size 5 1 v pre.length (bCells pre)) (hb : Below w0.heap.size w0 w) :
    Calls Try.prog 93 #[v, .slice A l.length c, .func (.func 94) #[] #[]] w (Lays w0 v (pre ++ Wi.elist Wi.etwo l) w) := by
  have hel : Wi.elist Wi.etwo l = Wi.by_ (l.length : Int) ++ l.flatMap Wi.etwo := rfl
  rw [hel] at hpl ⊢
  rw [← List.append_assoc, List.length_append] at *
  have b1 := below_new (Below.refl w.heap.size w) (.cells #[.int .i64 (l.length : Int)] 3)
  have hs0 := hb.size
  have HK := Lib.hid (dnums1_any w0 v pre w.heap.size (l.length : Int) _ (by omega) ⟨by omega, by omega⟩ (Blk.new w 3 #[.int .i64 (l.length : Int)]) (own_ne ho (.inr (Nat.le_refl _))) (own_later ho b1) (Nat.le_trans hs0 b1.size))
  have B1 := Lib.hid b1; have HO := Lib.hid ho; have HB := Lib.hid hb; have H := Lib.hid h; have HF := Lib.hid hf
  have HFL := Lib.hid (Wi.flat_le Wi.etwo l)
  have HFT := Lib.hid (fun k hk => Wi.flat_take Wi.etwo l k (0, 0) hk)
  obtain ⟨hd, hhd⟩ : ∃ q, Wi.by_ (l.length : Int) = q := ⟨_, rfl⟩
  rw [hhd] at HK hpl ⊢
  clear b1 ho hb h hf hel hhd
  go_enter Try.func93, Try.ntmps93
  go_wp2_with fail
  refine HK.out.mono ?_
  rintro e w1 ⟨v1, rfl, h1, h2, h3⟩
  have H1 := Lib.hid h1
  have H2 := Lib.hid (grown_on (grown_of v.ownBlock B1.out) h2 (.inl rfl))
  have H3 := Lib.hid ((Moved.refl w v).on B1.out.size h3)
  clear h1 h2 h3 HK
  go_wp2_with fail
  go_loopw [0, 16] (fun s0 s16 wr => ∃ k : Nat, k ≤ l.length ∧ s16 = .int .i64 (k : Int) ∧ wr.ownsRow w0.heap.size 5 1 s0 (pre ++ hd ++ (l.take k).flatMap Wi.etwo).length (bCells (pre ++ hd ++ (l.take k).flatMap Wi.etwo)) ∧ w.grownBy wr v.ownBlock ∧ Moved w v s0) (fun _ s16 _ => l.length - (intOf s16).toNat)
  case atStart => exact ⟨0, by omega, rfl, by simpa using H1.out, H2.out, H3.out⟩
  case round =>
    obtain ⟨k, hk, rfl, hown, hgw, hmv⟩ := hrel
    have hsz := hgw.size
    by_cases hkl : k < l.length
    · have hdk : decide ((k : Int) < (l.length : Int)) = true := decide_eq_true (by omega)
      have hbr := below_grown HB.out hgw HO.out
      have hsr := hbr.size
      have hne : l ≠ [] := fun e => by rw [e] at hkl; simp at hkl
      obtain ⟨b, off, hA, hcA⟩ := H.out.stamps hne
      obtain ⟨c0, c1⟩ := hcA k hkl
      have dd := And.intro (cell_later hbr c0) (cell_later hbr c1)
      subst hA
      have hmem : l.getD k (0, 0) ∈ l := by rw [List.getD_eq_getElem?_getD, List.getElem?_eq_getElem hkl]; exact List.getElem_mem hkl
      have g0 := HF.out _ hmem
      have hft := HFT.out k hkl
      have htl := HFL.out (k + 1)
      rw [hft, List.length_append] at htl
      obtain ⟨q, hq⟩ : ∃ q, pre ++ hd ++ (l.take k).flatMap Wi.etwo = q := ⟨_, rfl⟩
      have hql : q.length = pre.length + hd.length + ((l.take k).flatMap Wi.etwo).length := by rw [← hq, List.length_append, List.length_append]
      have hnew : pre ++ hd ++ (l.take (k + 1)).flatMap Wi.etwo = q ++ Wi.etwo (l.getD k (0, 0)) := by rw [hft, ← hq]; simp only [List.append_assoc]
      rw [hq] at hown
      obtain ⟨x, hx⟩ : ∃ x, l.getD k (0, 0) = x := ⟨_, rfl⟩
      rw [hx] at dd g0 htl hnew
      obtain ⟨x1, x2⟩ := x
      obtain ⟨d0, d1⟩ := dd
      obtain ⟨g1, g2⟩ := g0
      simp only at d0 d1 g1 g2
      obtain ⟨P, cp, hs3, -⟩ := own_form hown
      rw [hs3] at hown hmv
      subst hs3
      have hi1 : (0 : Int) ≤ (k : Int) := by omega
      have hi2 : (k : Int) < (l.length : Int) := by omega
      have CE := Lib.hid (fun (wx : World) (hx : Below wr.heap.size wr wx) => dsp_any w0 (.slice P q.length cp) q (x1, x2) wx (by omega) g1 g2 (own_later hown hx) (Nat.le_trans hsr hx.size))
      have HNEW := Lib.hid hnew; have HOW := Lib.hid hown; have HGW := Lib.hid hgw; have HMV := Lib.hid hmv
      clear hmem g1 g2 hft htl hx hnew hown hgw hmv hq hbr HO HB HF H1 H2 H3 HFL HFT hql hpl
      go_wp2_with fail
      refine (CE.out _ (below_new (Below.refl _ _) _)).mono ?_
      rintro e w2 ⟨v2, rfl, h1, h2, h3⟩
      have hx1 := below_new (Below.refl wr.heap.size wr) (.cells #[.int .i64 x1, .int .i64 x2] 95)
      rw [← HNEW.out] at h1
      have H1 := Lib.hid h1
      have H2 := Lib.hid (grown_on HGW.out (grown_on (grown_of (Value.slice P q.length cp).ownBlock hx1) h2 (.inl rfl)) HMV.out)
      have H3 := Lib.hid (HMV.out.on hsz ((Moved.refl wr (Value.slice P q.length cp)).on hx1.size h3))
      clear h1 h2 h3 CE d0 d1 hx1
      go_wp2_with fail
      go_roundw
      case rel => exact ⟨k + 1, by omega, by first | rfl | (congr 1; omega), H1.out, H2.out, H3.out⟩
      case measure => simp [intOf]; omega
    · obtain rfl : k = l.length := by omega
      have hdk : decide ((l.length : Int) < (l.length : Int)) = false := decide_eq_false (by omega)
      rw [List.take_of_length_le (Nat.le_refl _)] at hown
      have H1 := Lib.hid hown; have H2 := Lib.hid hgw; have H3 := Lib.hid hmv
      clear hown hgw hmv
      go_wp2
      go_ret
      exact ⟨_, rfl, H1.out, H2.out, H3.out⟩

end Go.Proofs.Ytbbmngabbbehcaa
