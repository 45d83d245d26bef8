/-
  What trust's functions answer: contracts, one a function; what stands in all of trust's laws.
  Plain mathematics of a walk over the objects of a set. Nothing of the program is imported.
  Plain mathematics of trust's pieces: the spans that make up a span whole, each with the reach of its objects; what is made of them. Nothing of the program is imported.
  What a round of a loop over a function keeps; loads and stores of a whole block within a fence. Nothing of the program is imported.
-/
import Derived.Test.YtcfkpjbakccgiaaG12
import Derived.Test.YtcfkpjbakccgiaaG03
import Derived.Test.YtcfkpjbakccgiaaG06
import Derived.RangeFuncFrom
import Derived.RangeFuncNested
import Derived.RangeFuncBound
import Derived.RangeFuncCalls
import Derived.RangeFuncLeaves
import Derived.RangeFuncWrites
import Derived.Maps.AppendAt
import Derived.Shelf.Abstract
import Derived.Shelf.RegionOpen
import Derived.OwnWalkIn
import Derived.TacticsInMore
import Derived.LoopNIn
import Derived.LoopIn
import Derived.Lib.Hide
import Derived.Laws.CopyOwn
import Derived.Test.YtcfkpjbakccgiaaG01
namespace Go.Proofs.Ytcfkpjbakccgiaa
open Go.RowKit

structure TrustSpec : Prop where
  formed : ∀ (A : Option Addr) (c : Nat) (L : List Zc) (w : World), OneZ w A c L → Calls Try.prog 11 #[.slice A L.length c] w (Says (.bool (Tr.fmd (L.map Zc.zn))) w)
  blurred : ∀ (A : Option Addr) (c : Nat) (L : List Zc) (w : World), OneZ w A c L → Calls Try.prog 14 #[.slice A L.length c] w (Ans (Tr.blr (L.map Zc.zn)) w)
  reach : ∀ (A B : Option Addr) (c cb : Nat) (L : List Zc) (kn : List (Int × Int)) (o : Int) (w : World), OneZ w A c L → OneL w B cb kn → Calls Try.prog 17 #[.slice A L.length c, .slice B kn.length cb, .int .i64 o] w (Ans (Tr.rchR (L.map Zc.zn) kn o) w)
  since : ∀ (A B C : Option Addr) (c cb cc : Nat) (L : List Zc) (kn it : List (Int × Int)) (w : World), OneZ w A c L → OneL w B cb kn → OneL w C cc it → Calls Try.prog 20 #[.slice A L.length c, .slice B kn.length cb, .slice C it.length cc] w (Ans (Tr.sncR (L.map Zc.zn) kn it) w)
  take : ∀ (A B S E Bl V : Option Addr) (c cb cs ce cl cv : Nat) (L : List Zc) (kn : List (Int × Int)) (n : Note) (w : World), OneZ w A c L → OneL w B cb kn → NoteAt w S E Bl V cs ce cl cv n → Calls Try.prog 23 #[.slice A L.length c, .slice B kn.length cb, .agg (noteCells S E Bl V cs ce cl cv n)] w (GivesT (Tr.tkR (L.map Zc.zn) kn n) w)

theorem GivesT.open {r : Tr.Ans3} {w w' : World} {e : Ending} (h : GivesT r w e w') :
    ∃ A c L B cb, e = .returned (.tuple #[.slice A (List.length L) c, .slice B r.2.1.length cb, .int .i64 r.2.2]) ∧ OneZ w' A c L ∧ L.map Zc.zn = r.1 ∧ OneL w' B cb r.2.1 ∧ Below w.heap.size w w' := h
def aliveN : Note := ⟨[], [(1, 0)], [(3, 5)], []⟩
theorem Tr.alive_take : Tr.tkR [] [] aliveN = ([(3, 5, [])], [(1, 0)], 0) := by decide +kernel

set_option maxRecDepth 100000 in
set_option maxHeartbeats 3200000 in
theorem talive_any (TS : TrustSpec) (w : World) : Calls Try.prog 9 #[] w (Says (.bool true) w) := by
  have b1 := below_new (below_new (Below.refl w.heap.size w) (.cells #[.int .i64 1, .int .i64 0] 53)) (.cells #[.int .i64 3, .int .i64 5] 55)
  have B0 := (Blk.new w 53 #[.int .i64 1, .int .i64 0]).alloc (.cells #[.int .i64 3, .int .i64 5] 55)
  have B1 : Blk ((w.alloc (.cells #[.int .i64 1, .int .i64 0] 53)).alloc (.cells #[.int .i64 3, .int .i64 5] 55)) (w.heap.size + 1) 55 #[.int .i64 3, .int .i64 5] := by simpa using Blk.new (w.alloc (.cells #[.int .i64 1, .int .i64 0] 53)) 55 #[.int .i64 3, .int .i64 5]
  have n1 := TS.take none none none (some ⟨w.heap.size, 0, none⟩) (some ⟨w.heap.size + 1, 0, none⟩) none 0 0 0 1 1 0 [] [] aliveN _ (OneZ.nil _) OneL.nil ⟨OneL.nil, one_stamp B0, one_stamp B1, OneW.nil⟩
  rw [show ([] : List Zc).map Zc.zn = [] from rfl, Tr.alive_take] at n1
  have N1 := Lib.hid (show Calls Try.prog 23 #[.slice none 0 0, .slice none 0 0, .agg #[.slice none 0 0, .slice (some ⟨w.heap.size, 0, none⟩) 1 1, .slice (some ⟨w.heap.size + 1, 0, none⟩) 1 1, .slice none 0 0]] _ (GivesT ([(3, 5, [])], [(1, 0)], 0) _) from n1)
  have BB := Lib.hid b1
  clear n1 b1 B0 B1
  go_enter Try.func9, Try.ntmps9
  go_wp2_with fail
  refine N1.out.mono ?_
  intro e w2 h
  obtain ⟨A, c, L, B, cb, rfl, hO, hf, hB, b2⟩ := h.open
  have BB2 := Lib.hid (below_on BB.out b2)
  obtain ⟨z, rfl⟩ : ∃ z, L = [z] := by
    cases L with
    | nil => cases hf
    | cons z r => cases r with
      | nil => exact ⟨z, rfl⟩
      | cons y r => simp at hf
  have hz : z.zn = (3, 5, []) := by simpa using hf
  obtain ⟨b, off, hA, hc⟩ := hO.at (by simp)
  obtain ⟨e0, e1, e2⟩ := hc 0 z rfl
  obtain ⟨lo, hi, X, cx, l⟩ := z
  injection hz with h1 h2
  injection h2 with h2 h3
  subst hA h1 h2 h3
  simp only [Nat.zero_mul, Nat.add_zero] at e0 e1 e2
  clear h hO hf hB b2 hc N1 BB
  go_wp2
  go_ret
  exact ⟨rfl, BB2.out⟩
end Go.Proofs.Ytcfkpjbakccgiaa
namespace Go.Proofs.Ytcfkpjbakccgiaa
namespace Sp

/-- The objects of a set, up to k, rising. -/
def obTo (f : Nat → Bool) : Nat → List Int
  | 0 => []
  | k + 1 => obTo f k ++ (if f k = true then [(k : Int)] else [])
def obL (f : Nat → Bool) : List Int := obTo f 256
theorem obTo_yes (f : Nat → Bool) (k : Nat) (h : f k = true) : obTo f (k + 1) = obTo f k ++ [(k : Int)] := by rw [obTo, if_pos h]
theorem obTo_no (f : Nat → Bool) (k : Nat) (h : f k = false) : obTo f (k + 1) = obTo f k := by rw [obTo, if_neg (by rw [h]; simp), List.append_nil]
theorem obTo_len (f : Nat → Bool) : ∀ k, (obTo f k).length = szTo f k
  | 0 => rfl
  | k + 1 => by
    rcases two (f k) with h | h
    · rw [obTo_yes f k h, List.length_append, obTo_len f k, szTo, if_pos h]
      rfl
    · rw [obTo_no f k h, obTo_len f k, szTo, if_neg (by rw [h]; simp)]
theorem obL_len (f : Nat → Bool) : (obL f).length = sz f := obTo_len f 256
theorem obTo_pre (f : Nat → Bool) (k : Nat) : ∀ m, k ≤ m → obTo f k <+: obTo f m
  | 0, h => by rw [Nat.le_zero.1 h]; exact List.prefix_rfl
  | m + 1, h => by
    rcases Nat.lt_or_ge m k with h1 | h1
    · rw [show k = m + 1 from by omega]; exact List.prefix_rfl
    · exact (obTo_pre f k m h1).trans ⟨_, rfl⟩
theorem obTo_gap (f : Nat → Bool) (m : Nat) : ∀ n, m ≤ n → (∀ p, m ≤ p → p < n → f p = false) → obTo f n = obTo f m
  | 0, h, _ => by rw [Nat.le_zero.1 h]
  | n + 1, h, hf => by
    rcases Nat.lt_or_ge n m with h1 | h1
    · rw [show m = n + 1 from by omega]
    · rw [obTo_no f n (hf n h1 (by omega)), obTo_gap f m n h1 (fun p h2 h3 => hf p h2 (by omega))]

/-- The last that has come; -1 if none has. -/
def lastOf (pre : List Int) : Int := pre.getLast?.getD (-1)
theorem lastOf_snoc (pre : List Int) (x : Int) : lastOf (pre ++ [x]) = x := by unfold lastOf; rw [List.getLast?_concat]; rfl
theorem pre_at (f : Nat → Bool) (pre : List Int) : ∀ k, pre <+: obTo f k → ∃ m, m ≤ k ∧ lastOf pre = (m : Int) - 1 ∧ pre = obTo f m ∧ (0 < m → f (m - 1) = true)
  | 0, h => by
    have : pre = [] := List.prefix_nil.1 h
    subst this
    exact ⟨0, Nat.le_refl _, rfl, rfl, fun h => by omega⟩
  | k + 1, h => by
    rcases two (f k) with hf | hf
    · rw [obTo_yes f k hf] at h
      rcases List.prefix_concat_iff.1 h with h | h
      · refine ⟨k + 1, Nat.le_refl _, ?_, by rw [obTo_yes f k hf]; exact h, fun _ => hf⟩
        rw [h, lastOf_snoc]
        omega
      · obtain ⟨m, h1, h2, h3, h4⟩ := pre_at f pre k h
        exact ⟨m, by omega, h2, h3, h4⟩
    · rw [obTo_no f k hf] at h
      obtain ⟨m, h1, h2, h3, h4⟩ := pre_at f pre k h
      exact ⟨m, by omega, h2, h3, h4⟩
theorem lastOf_bd (f : Nat → Bool) (pre : List Int) (h : pre <+: obL f) : -1 ≤ lastOf pre ∧ lastOf pre ≤ 255 := by
  obtain ⟨m, h1, h2, _, _⟩ := pre_at f pre 256 h
  omega
/-- Which is the next one? -/
theorem next_iff (f : Nat → Bool) (pre : List Int) (x : Int) (h : pre <+: obL f) :
    pre ++ [x] <+: obL f ↔ lastOf pre < x ∧ x ≤ 255 ∧ f x.toNat = true ∧ ∀ p : Nat, lastOf pre < (p : Int) → (p : Int) < x → f p = false := by
  obtain ⟨m, h1, h2, h3, _⟩ := pre_at f pre 256 h
  constructor
  · intro hx
    obtain ⟨n, g1, g2, g3, g4⟩ := pre_at f (pre ++ [x]) 256 hx
    rw [lastOf_snoc] at g2
    have hn : 0 < n := by
      cases n with
      | zero => simp [obTo] at g3
      | succ n => omega
    obtain ⟨k, rfl⟩ : ∃ k, n = k + 1 := ⟨n - 1, by omega⟩
    have hk : f k = true := g4 hn
    have e1 : pre = obTo f k := by
      rw [obTo_yes f k hk] at g3
      exact List.append_inj_left' g3 rfl
    have lm : ∀ a c, a ≤ c → (obTo f a).length ≤ (obTo f c).length := fun a c hac => (obTo_pre f a c hac).length_le
    have lk : (obTo f (k + 1)).length = (obTo f k).length + 1 := by rw [obTo_yes f k hk]; simp
    have e2 : (obTo f m).length = (obTo f k).length := by rw [← h3, ← e1]
    have hmk : m ≤ k := by
      rcases Nat.lt_or_ge k m with hlt | hge
      · have := lm (k + 1) m (by omega)
        omega
      · exact hge
    refine ⟨by omega, by omega, by rw [show x.toNat = k from by omega]; exact hk, fun p hp1 hp2 => ?_⟩
    rcases two (f p) with hp | hp
    · have l1 : (obTo f (p + 1)).length = (obTo f p).length + 1 := by rw [obTo_yes f p hp]; simp
      have l2 := lm m p (by omega)
      have l3 := lm (p + 1) k (by omega)
      omega
    · exact hp
  · rintro ⟨a1, a2, a3, a4⟩
    obtain ⟨k, rfl⟩ : ∃ k : Nat, x = (k : Int) := ⟨x.toNat, by omega⟩
    have hk : f k = true := a3
    have e1 : obTo f k = obTo f m := obTo_gap f m k (by omega) (fun p p1 p2 => a4 p (by omega) (by omega))
    rw [h3, ← e1, ← obTo_yes f k hk]
    exact obTo_pre f (k + 1) 256 (by omega)

end Sp
end Go.Proofs.Ytcfkpjbakccgiaa
namespace Go.Proofs.Ytcfkpjbakccgiaa
open Go.RowKit

namespace Tr
/-- The pieces of what lies from k up to hi: zones, and between them the rest. -/
def pcs (rest : List (Int × Int)) (hi : Int) : Int → List Zn → List Zn
  | k, [] => if k ≤ hi then [(k, hi, rest)] else []
  | k, z :: r => (if k < z.1 then [(k, z.1 - 1, rest)] else []) ++ z :: pcs rest hi (z.2.1 + 1) r
/-- Zones that rise, from k up to hi. -/
def Rise (hi : Int) : Int → List Zn → Prop
  | _, [] => True
  | k, z :: r => k ≤ z.1 ∧ z.1 ≤ z.2.1 ∧ z.2.1 ≤ hi ∧ Rise hi (z.2.1 + 1) r
/-- Pieces one behind the other, from object k up to m, each with what g says of its objects. -/
def Tiles (g : Nat → List (Int × Int)) : Nat → List Zn → Nat → Prop
  | k, [], m => k = m
  | k, z :: r, m => ∃ e : Nat, z.1 = (k : Int) ∧ z.2.1 + 1 = (e : Int) ∧ k < e ∧ e ≤ m ∧ (∀ o, k ≤ o → o < e → g o = z.2.2) ∧ Tiles g e r m

theorem tiles_congr {g g' : Nat → List (Int × Int)} : ∀ (P : List Zn) (k m : Nat), (∀ o, k ≤ o → o < m → g o = g' o) → Tiles g k P m → Tiles g' k P m
  | [], _, _, _, h => h
  | z :: r, k, m, hg, ⟨e, h1, h2, h3, h4, h5, h6⟩ => ⟨e, h1, h2, h3, h4, fun o q1 q2 => by rw [← hg o q1 (by omega)]; exact h5 o q1 q2, tiles_congr r e m (fun o q1 q2 => hg o (by omega) q2) h6⟩
theorem tiles_le {g : Nat → List (Int × Int)} : ∀ (P : List Zn) (k m : Nat), Tiles g k P m → k ≤ m
  | [], k, m, h => by
    have : k = m := h
    omega
  | _ :: r, k, m, ⟨e, _, _, h3, h4, _, h6⟩ => by omega
theorem rise_none {hi : Int} : ∀ (r : List Zn) (k o : Int), Rise hi k r → o < k → at_ r o = none
  | [], _, _, _, _ => rfl
  | z :: r, k, o, ⟨h1, h2, _, h4⟩, ho => by
    rw [at_cons, if_neg (by unfold holds; rw [decide_eq_true_iff]; omega)]
    exact rise_none r _ o h4 (by omega)
theorem pcs_tiles (rest : List (Int × Int)) (h : Nat) : ∀ (zs : List Zn) (k : Nat), Rise (h : Int) (k : Int) zs → k ≤ h + 1 → Tiles (fun o => (at_ zs (o : Int)).getD rest) k (pcs rest (h : Int) (k : Int) zs) (h + 1)
  | [], k, _, hk => by
    unfold pcs
    by_cases hc : (k : Int) ≤ (h : Int)
    · rw [if_pos hc]
      exact ⟨h + 1, rfl, by show (h : Int) + 1 = ((h + 1 : Nat) : Int); omega, by omega, Nat.le_refl _, fun o _ _ => rfl, rfl⟩
    · rw [if_neg hc]
      show k = h + 1
      omega
  | z :: r, k, ⟨h1, h2, h3, h4⟩, hk => by
    obtain ⟨a, b, v⟩ := z
    have h1 : (k : Int) ≤ a := h1
    have h2 : a ≤ b := h2
    have h3 : b ≤ (h : Int) := h3
    have h4 : Rise (h : Int) (b + 1) r := h4
    obtain ⟨p, rfl⟩ : ∃ p : Nat, a = (p : Int) := ⟨a.toNat, by omega⟩
    obtain ⟨q, rfl⟩ : ∃ q : Nat, b = (q : Int) := ⟨b.toNat, by omega⟩
    have e1 : ((q : Int) + 1) = ((q + 1 : Nat) : Int) := by omega
    have h4' := h4
    rw [e1] at h4'
    have ih := pcs_tiles rest h r (q + 1) h4' (by omega)
    have hold : ∀ o : Nat, holds ((p : Int), (q : Int), v) (o : Int) = decide (p ≤ o ∧ o ≤ q) := fun o => by
      unfold holds
      rw [decide_eq_decide]
      show ((p : Int) ≤ (o : Int) ∧ (o : Int) ≤ (q : Int)) ↔ _
      omega
    have tl : Tiles (fun o => (at_ (((p : Int), (q : Int), v) :: r) (o : Int)).getD rest) p (((p : Int), (q : Int), v) :: pcs rest (h : Int) ((q : Int) + 1) r) (h + 1) := by
      refine ⟨q + 1, rfl, e1, by omega, by omega, fun o o1 o2 => ?_, ?_⟩
      · show (at_ _ _).getD rest = v
        rw [at_cons, hold, if_pos (decide_eq_true (by omega))]
        rfl
      · rw [e1]
        refine tiles_congr _ _ _ (fun o o1 _ => ?_) ih
        show (at_ r _).getD rest = (at_ _ _).getD rest
        rw [at_cons, hold, if_neg (by rw [decide_eq_true_iff]; omega)]
    show Tiles _ k ((if (k : Int) < (p : Int) then [((k : Int), (p : Int) - 1, rest)] else []) ++ ((p : Int), (q : Int), v) :: pcs rest (h : Int) ((q : Int) + 1) r) (h + 1)
    by_cases hc : (k : Int) < (p : Int)
    · rw [if_pos hc]
      refine ⟨p, rfl, by show (p : Int) - 1 + 1 = (p : Int); omega, by omega, by omega, fun o o1 o2 => ?_, tl⟩
      show (at_ _ _).getD rest = rest
      rw [at_cons, hold, if_neg (by rw [decide_eq_true_iff]; omega), rise_none r _ _ h4 (by omega)]
      rfl
    · rw [if_neg hc]
      have hkp : k = p := by omega
      subst hkp
      exact tl

/-- Formed zones rise. -/
theorem rise_fm : ∀ (d : Nat) (zs : List Zn) (j : Nat), zs.length - j = d → fmTo zs zs.length → ∀ k : Int, k ≤ 0 ∨ (0 < j ∧ k = (zs.getD (j - 1) (0, 0, [])).2.1 + 1) → j ≤ zs.length → (j = 0 → k ≤ 0) → Rise 255 k (zs.drop j)
  | 0, zs, j, hd, _, k, _, hj, _ => by
    rw [List.drop_eq_nil_of_le (by omega)]
    trivial
  | d + 1, zs, j, hd, hf, k, hk, hj, hj0 => by
    have hlt : j < zs.length := by omega
    have hg : zs.getD j (0, 0, []) = zs[j] := by rw [List.getD_eq_getElem?_getD, List.getElem?_eq_getElem hlt]; rfl
    obtain ⟨⟨a1, a2, a3⟩, _, a5⟩ := hf j hlt
    rw [hg] at a1 a2 a3
    rw [List.drop_eq_getElem_cons hlt]
    refine ⟨?_, a2, a3, rise_fm d zs (j + 1) (by omega) hf _ (.inr ⟨by omega, by rw [Nat.add_sub_cancel, hg]⟩) (by omega) (by omega)⟩
    rcases hk with hk | ⟨h0, rfl⟩
    · omega
    · have := (a5 h0).1
      rw [hg] at this
      omega
theorem rise_fmd {zs : List Zn} (h : fmd zs = true) : Rise 255 0 zs := rise_fm zs.length zs 0 rfl ((fmd_iff zs).1 h) 0 (.inl (Int.le_refl _)) (Nat.zero_le _) (fun _ => Int.le_refl _)
/-- The pieces of all objects. -/
def all (zs : List Zn) (known : List (Int × Int)) : List Zn := pcs known 255 0 zs
theorem all_tiles {zs : List Zn} (h : fmd zs = true) (known : List (Int × Int)) : Tiles (fun o => rch zs known (o : Int)) 0 (all zs known) 256 := pcs_tiles known 255 zs 0 (rise_fmd h) (by omega)

/-- Which piece holds an object. -/
theorem tiles_at {g : Nat → List (Int × Int)} : ∀ (P : List Zn) (k m : Nat), Tiles g k P m → ∀ o, k ≤ o → o < m → ∃ z ∈ P, holds z (o : Int) = true ∧ g o = z.2.2
  | [], k, m, h, o, h1, h2 => by
    have : k = m := h
    omega
  | z :: r, k, m, ⟨e, q1, q2, q3, q4, q5, q6⟩, o, h1, h2 => by
    by_cases hc : o < e
    · exact ⟨z, List.mem_cons_self, by unfold holds; rw [decide_eq_true_iff]; omega, q5 o h1 hc⟩
    · obtain ⟨y, y1, y2, y3⟩ := tiles_at r e m q6 o (by omega) h2
      exact ⟨y, List.mem_cons_of_mem _ y1, y2, y3⟩
theorem tiles_of {g : Nat → List (Int × Int)} : ∀ (P : List Zn) (k m : Nat), Tiles g k P m → ∀ z ∈ P, (k : Int) ≤ z.1 ∧ z.1 ≤ z.2.1 ∧ z.2.1 < (m : Int) ∧ ∀ o : Nat, holds z (o : Int) = true → k ≤ o ∧ o < m ∧ g o = z.2.2
  | [], _, _, _, z, h => by cases h
  | y :: r, k, m, ⟨e, q1, q2, q3, q4, q5, q6⟩, z, h => by
    rcases List.mem_cons.1 h with rfl | h
    · refine ⟨by omega, by omega, by omega, fun o ho => ?_⟩
      unfold holds at ho
      rw [decide_eq_true_iff] at ho
      exact ⟨by omega, by omega, q5 o (by omega) (by omega)⟩
    · obtain ⟨a1, a2, a3, a4⟩ := tiles_of r e m q6 z h
      refine ⟨by omega, a2, a3, fun o ho => ?_⟩
      obtain ⟨b1, b2, b3⟩ := a4 o ho
      exact ⟨by omega, b2, b3⟩

/-- What is put behind zones: a span with its reach. -/
def put (T : List (Int × Int)) (L : List Zn) (z : Zn) : List Zn :=
  if Ve.cov (Ve.cnt z.2.2) (Ve.cnt T) = true then L else if goesOn L z.1.toNat z.2.2 = true then ext L z.2.1.toNat else L ++ [z]
theorem ext_ext (L : List Zn) (a b : Nat) : ext (ext L a) b = ext L b := by
  unfold ext
  rw [List.dropLast_concat, last_snoc]
theorem put_mk (T : List (Int × Int)) {f : Nat → Option (List (Int × Int))} {k : Nat} {v : List (Int × Int)} : ∀ (d : Nat), (∀ o, k ≤ o → o < k + (d + 1) → f o = if Ve.cov (Ve.cnt v) (Ve.cnt T) = true then none else some v) → put T (mkTo f k) ((k : Int), ((k + d : Nat) : Int), v) = mkTo f (k + (d + 1))
  | 0, hf => by
    have h0 := hf k (Nat.le_refl _) (by omega)
    unfold put
    dsimp only
    by_cases hc : Ve.cov (Ve.cnt v) (Ve.cnt T) = true
    · rw [if_pos hc] at h0 ⊢
      rw [mkTo_none h0]
    · rw [if_neg hc] at h0 ⊢
      rw [Int.toNat_natCast]
      cases hg : goesOn (mkTo f k) k v with
      | true => rw [if_pos rfl, mkTo_on h0 hg]; rfl
      | false => rw [if_neg Bool.false_ne_true, mkTo_new h0 hg]; rfl
  | d + 1, hf => by
    have ih := put_mk T d (fun o o1 o2 => hf o o1 (by omega))
    have h0 := hf (k + (d + 1)) (by omega) (by omega)
    unfold put at ih ⊢
    dsimp only at ih ⊢
    by_cases hc : Ve.cov (Ve.cnt v) (Ve.cnt T) = true
    · rw [if_pos hc] at h0 ih ⊢
      rw [show k + (d + 1 + 1) = k + (d + 1) + 1 from by omega, mkTo_none h0]
      exact ih
    · rw [if_neg hc] at h0 ih ⊢
      rw [Int.toNat_natCast, Int.toNat_natCast] at ih ⊢
      rw [show k + (d + 1 + 1) = k + (d + 1) + 1 from by omega]
      cases hg : goesOn (mkTo f k) k v with
      | true =>
        rw [hg, if_pos rfl] at ih
        rw [if_pos rfl]
        obtain ⟨g1, g2, g3⟩ := of_decide_eq_true hg
        have hon : goesOn (mkTo f (k + (d + 1))) (k + (d + 1)) v = true := by
          rw [← ih]
          unfold ext
          rw [goes_snoc]
          exact decide_eq_true ⟨by dsimp only; omega, g3⟩
        rw [mkTo_on h0 hon, ← ih, ext_ext]
      | false =>
        rw [hg, if_neg Bool.false_ne_true] at ih
        rw [if_neg Bool.false_ne_true]
        have hon : goesOn (mkTo f (k + (d + 1))) (k + (d + 1)) v = true := by
          rw [← ih, goes_snoc]
          exact decide_eq_true ⟨by dsimp only; omega, rfl⟩
        rw [mkTo_on h0 hon, ← ih, ext_snoc]
theorem fold_tiles (T : List (Int × Int)) {f : Nat → Option (List (Int × Int))} {g : Nat → List (Int × Int)} : ∀ (P : List Zn) (k m : Nat), Tiles g k P m → (∀ o, k ≤ o → o < m → f o = if Ve.cov (Ve.cnt (g o)) (Ve.cnt T) = true then none else some (g o)) → P.foldl (put T) (mkTo f k) = mkTo f m
  | [], k, m, h, _ => by
    have : k = m := h
    rw [this]
    rfl
  | z :: r, k, m, ⟨e, q1, q2, q3, q4, q5, q6⟩, hf => by
    obtain ⟨a, b, v⟩ := z
    have q1 : a = (k : Int) := q1
    have q2 : b + 1 = (e : Int) := q2
    obtain ⟨d, rfl⟩ : ∃ d, e = k + (d + 1) := ⟨e - k - 1, by omega⟩
    have hb : b = ((k + d : Nat) : Int) := by omega
    subst q1 hb
    have h1 := put_mk T (f := f) (k := k) (v := v) d (fun o o1 o2 => by rw [hf o o1 (by omega), q5 o o1 o2])
    rw [List.foldl_cons, h1]
    exact fold_tiles T r _ m q6 (fun o o1 o2 => hf o (by omega) o2)
end Tr

namespace Ve
theorem mtTo_some {ls : List (List (Int × Int))} (i : Nat) : ∀ k, k < ls.length → ∃ l ∈ ls, mtTo ls k i = cnt l i
  | 0, h => ⟨ls.getD 0 [], by rw [List.getD_eq_getElem?_getD, List.getElem?_eq_getElem h]; exact List.getElem_mem h, rfl⟩
  | k + 1, h => by
    show ∃ l ∈ ls, (if cnt (ls.getD (k + 1) []) i < mtTo ls k i then cnt (ls.getD (k + 1) []) i else mtTo ls k i) = cnt l i
    split
    · exact ⟨ls.getD (k + 1) [], by rw [List.getD_eq_getElem?_getD, List.getElem?_eq_getElem h]; exact List.getElem_mem h, rfl⟩
    · exact mtTo_some i k (by omega)
/-- The meet of lists hangs on which lists there are alone. -/
theorem meet_same {ls rs : List (List (Int × Int))} (h1 : ∀ l ∈ ls, l ∈ rs) (h2 : ∀ l ∈ rs, l ∈ ls) : meetL ls = meetL rs := by
  unfold meetL
  by_cases e : ls = []
  · subst e
    have : rs = [] := List.eq_nil_iff_forall_not_mem.2 (fun l hl => by have := h2 l hl; cases this)
    rw [if_pos rfl, if_pos this]
  · have e2 : rs ≠ [] := fun e2 => e (List.eq_nil_iff_forall_not_mem.2 (fun l hl => by have := h1 l hl; rw [e2] at this; cases this))
    rw [if_neg e, if_neg e2]
    refine ofL_ext (fun i _ => ?_)
    have p1 := List.length_pos_iff.2 e
    have p2 := List.length_pos_iff.2 e2
    obtain ⟨l, m1, m2⟩ := mtTo_some (ls := ls) i (ls.length - 1) (by omega)
    obtain ⟨r, n1, n2⟩ := mtTo_some (ls := rs) i (rs.length - 1) (by omega)
    have le : ∀ {xs : List (List (Int × Int))} {x : List (Int × Int)}, x ∈ xs → mt xs i ≤ cnt x i := fun {xs x} hx => by
      obtain ⟨j, hj⟩ := List.getElem?_of_mem hx
      have hlt := (List.getElem?_eq_some_iff.1 hj).1
      have hg : xs.getD j [] = x := by rw [List.getD_eq_getElem?_getD, hj]; rfl
      have := Tr.mt_le (ls := xs) i (xs.length - 1) j (by omega)
      rw [hg] at this
      exact this
    have a1 := le (h2 r n1)
    have a2 := le (h1 l m1)
    have m2 : mt ls i = cnt l i := m2
    have n2 : mt rs i = cnt r i := n2
    omega
end Ve

namespace Tr
theorem rchs_is (zs : List Zn) (kn : List (Int × Int)) {f : Nat → Bool} {r : List (Int × Int)} : ∀ k, r ∈ rchs zs kn f k → ∃ o, o < k ∧ f o = true ∧ r = rch zs kn (o : Int)
  | 0, h => by cases h
  | k + 1, h => by
    have h : r ∈ (if f k = true then rchs zs kn f k ++ [rch zs kn (k : Int)] else rchs zs kn f k) := h
    have go : r ∈ rchs zs kn f k → ∃ o, o < k + 1 ∧ f o = true ∧ r = rch zs kn (o : Int) := fun h => by
      obtain ⟨o, a, b, c⟩ := rchs_is zs kn k h
      exact ⟨o, by omega, b, c⟩
    split at h
    · rename_i hf
      rcases List.mem_append.1 h with h | h
      · exact go h
      · exact ⟨k, by omega, hf, List.mem_singleton.1 h⟩
    · exact go h
/-- Has a piece an object of a set? -/
def hits (f : Nat → Bool) (z : Zn) : Bool := Sp.touch (Sp.inL [(z.1, z.2.1)]) f
theorem hits_iff (f : Nat → Bool) (z : Zn) : hits f z = true ↔ ∃ o : Nat, o < 256 ∧ holds z (o : Int) = true ∧ f o = true := by
  unfold hits Sp.touch holds
  rw [decide_eq_true_iff]
  constructor
  · rintro ⟨o, h1, h2⟩
    refine ⟨o.val, o.isLt, ?_, h2⟩
    rw [Sp.inL_iff] at h1
    obtain ⟨s, hs, hh⟩ := h1
    rw [List.mem_singleton] at hs
    subst hs
    exact decide_eq_true hh
  · rintro ⟨o, h0, h1, h2⟩
    refine ⟨⟨o, h0⟩, ?_, h2⟩
    rw [Sp.inL_iff]
    exact ⟨_, List.mem_singleton.2 rfl, of_decide_eq_true h1⟩
/-- The reaches of the pieces that an interest meets. -/
def hit (zs : List Zn) (kn : List (Int × Int)) (f : Nat → Bool) : List (List (Int × Int)) := ((all zs kn).filter (hits f)).map fun z => z.2.2
theorem hit_same {zs : List Zn} (hz : fmd zs = true) (kn : List (Int × Int)) (f : Nat → Bool) : (∀ l ∈ hit zs kn f, l ∈ rchs zs kn f 256) ∧ (∀ l ∈ rchs zs kn f 256, l ∈ hit zs kn f) := by
  have ht := all_tiles hz kn
  constructor
  · intro l hl
    obtain ⟨z, hz2, rfl⟩ := List.mem_map.1 hl
    obtain ⟨h1, h2⟩ := List.mem_filter.1 hz2
    obtain ⟨o, o1, o2, o3⟩ := (hits_iff f z).1 h2
    have h3 := (tiles_of _ _ _ ht z h1).2.2.2 o o2
    rw [← h3.2.2]
    exact rchs_mem zs kn o3 256 o1
  · intro l hl
    obtain ⟨o, o1, o2, rfl⟩ := rchs_is zs kn 256 hl
    obtain ⟨z, z1, z2, z3⟩ := tiles_at _ _ _ ht o (Nat.zero_le _) o1
    have z3 : rch zs kn (o : Int) = z.2.2 := z3
    rw [z3]
    exact List.mem_map.2 ⟨z, List.mem_filter.2 ⟨z1, (hits_iff f z).2 ⟨o, o1, z2, o2⟩⟩, rfl⟩
/-- What Since answers, piece by piece. -/
theorem snc_hit {zs : List Zn} (hz : fmd zs = true) {kn : List (Int × Int)} (hk : Ve.fmd kn = true) (it : List (Int × Int)) {f : Nat → Bool} (hf : ∀ o, o < 256 → f o = Sp.inL it o) : sncR zs kn it = if (hit zs kn f).length = 0 then kn else Ve.meetL (hit zs kn f) := by
  have h1 := hit_same hz kn f
  have e0 : rchs zs kn (Sp.inL it) 256 = rchs zs kn f 256 := by
    have : ∀ k, k ≤ 256 → rchs zs kn (Sp.inL it) k = rchs zs kn f k := fun k => by
      induction k with
      | zero => intro _; rfl
      | succ k ih =>
        intro h
        show (if Sp.inL it k = true then _ else _) = (if f k = true then _ else _)
        rw [ih (by omega), hf k (by omega)]
    exact this 256 (Nat.le_refl _)
  unfold sncR
  rw [if_pos ⟨hz, hk⟩, e0, Ve.meet_same h1.1 h1.2]
  have e1 : (rchs zs kn f 256).length = 0 ↔ (hit zs kn f).length = 0 := by
    rw [List.length_eq_zero_iff, List.length_eq_zero_iff]
    constructor
    · intro e
      exact List.eq_nil_iff_forall_not_mem.2 (fun l hl => by have := h1.1 l hl; rw [e] at this; cases this)
    · intro e
      exact List.eq_nil_iff_forall_not_mem.2 (fun l hl => by have := h1.2 l hl; rw [e] at this; cases this)
  by_cases h0 : (rchs zs kn f 256).length = 0
  · rw [if_pos h0, if_pos (e1.1 h0)]
  · rw [if_neg h0, if_neg (fun h => h0 (e1.2 h))]

/-- What Reach answers: of the piece that holds the object. -/
theorem rch_piece {zs : List Zn} (hz : fmd zs = true) {kn : List (Int × Int)} (hk : Ve.fmd kn = true) {o : Int} {z : Zn} (hz2 : z ∈ all zs kn) (ho : inOf [(z.1, z.2.1)] o = true) : rchR zs kn o = z.2.2 := by
  have ht := tiles_of _ _ _ (all_tiles hz kn) z hz2
  unfold inOf at ho
  rw [Bool.and_eq_true, decide_eq_true_iff, Sp.inL_iff] at ho
  obtain ⟨h0, s, hs, hh⟩ := ho
  rw [List.mem_singleton] at hs
  subst hs
  obtain ⟨p, rfl⟩ : ∃ p : Nat, o = (p : Int) := ⟨o.toNat, by omega⟩
  rw [Int.toNat_natCast] at hh
  have h3 := (ht.2.2.2 p (decide_eq_true hh)).2.2
  unfold rchR
  rw [if_pos ⟨hz, hk, h0.1, h0.2⟩]
  exact h3
theorem rch_nowhere {zs : List Zn} (hz : fmd zs = true) {kn : List (Int × Int)} {o : Int} (h : ∀ z ∈ all zs kn, inOf [(z.1, z.2.1)] o = false) : rchR zs kn o = [] := by
  unfold rchR
  by_cases h0 : 0 ≤ o ∧ o ≤ 255
  · obtain ⟨p, rfl⟩ : ∃ p : Nat, o = (p : Int) := ⟨o.toNat, by omega⟩
    obtain ⟨z, z1, z2, _⟩ := tiles_at _ _ _ (all_tiles hz kn) p (Nat.zero_le _) (by omega)
    have := h z z1
    unfold inOf at this
    rw [decide_eq_true h0, Bool.true_and, Int.toNat_natCast] at this
    have h2 : Sp.inL [(z.1, z.2.1)] p = true := (Sp.inL_iff _ _).2 ⟨_, List.mem_singleton.2 rfl, of_decide_eq_true z2⟩
    rw [this] at h2
    cases h2
  · rw [if_neg (fun h => h0 ⟨h.2.2.1, h.2.2.2⟩)]
end Tr
end Go.Proofs.Ytcfkpjbakccgiaa
namespace Go.Proofs.Ytcfkpjbakccgiaa
open Go.RowKit Go.Shelf
attribute [local go_sem] Oper.semAt_some

section
variable {F : Fence} {n : Nat} {P : Program} {ops : Array Oper} {rest : List Oper} {o : Oper} {a : Act} {w : World} {Q : Exit → Act → World → Prop}
theorem in_load_row (hgd : o.guard = none) (ty : TypeId) (x : Operand) (ho : o.op = .load ty x)
    (g : Nat) (hx : a.eval x = .pointer (some ⟨g, 0, none⟩)) (t : TypeId) (cs : Array Value) (d : TypeDesc) (hg : Blk w g t cs)
    (hu : P.underlying ty = some d) (hd : (match d with | .struct _ | .array _ _ => true | _ => false) = true) (hi : (P.info? ty).map (·.size) = some cs.size)
    (h : wpListIn F n P ops Q rest (a.put o.dst (.agg cs)) w) : wpListIn F n P ops Q (o :: rest) a w := by
  refine wpListIn_plain hgd fun K hK => ?_
  unfold Oper.wpIn
  refine ⟨by simp [Oper.about, ho], ?_⟩
  rw [Oper.semAt_plain F _ _ (by rw [ho]; intro c hc; cases hc)]
  simp only [execOp, ho, hx, Instr.loadAt, Instr.sureAddr, Sem.run_bind, Sem.run_pure, Result.andThen_ok, run_loadVar_row w g t ty cs (0, 0) d hg hu hd hi]
  exact hK _ _ h
theorem in_store_row (hgd : o.guard = none) (ty : TypeId) (x y : Operand) (ho : o.op = .store ty x y)
    (g : Nat) (cells : Array Value) (hx : a.eval x = .pointer (some ⟨g, 0, none⟩)) (hy : a.eval y = .agg cells)
    (t : TypeId) (old : Array Value) (hg : Blk w g t old) (hi : (P.info? ty).map (·.size) = some cells.size)
    (hold : old.size = cells.size) (h1 : cells.all (·.oneCell') = true)
    (h : wpListIn F n P ops Q rest (a.put o.dst undef) (w.setRow g cells)) : wpListIn F n P ops Q (o :: rest) a w := by
  refine wpListIn_plain hgd fun K hK => ?_
  unfold Oper.wpIn
  refine ⟨by simp [Oper.about, ho], ?_⟩
  rw [Oper.semAt_plain F _ _ (by rw [ho]; intro c hc; cases hc)]
  simp only [execOp, ho, hx, hy, Instr.storeAt, Instr.sureAddr, Sem.run_bind, Sem.run_pure, Result.andThen_ok, run_storeVar_row w g t ty old cells hg hi hold h1]
  exact hK _ _ h
end

/-- What a round keeps: all that lay before the statement's call, and the blocks from B to E (the iterator's own). -/
def Keep (n₀ B E : Nat) (W W' : World) : Prop := Below n₀ W W' ∧ ∀ k, B ≤ k → k < E → W'.heap[k]? = W.heap[k]?
theorem Keep.refl (n₀ B E : Nat) (W : World) : Keep n₀ B E W W := ⟨Below.refl _ _, fun _ _ _ => rfl⟩
theorem Keep.trans {n₀ B E : Nat} {W1 W2 W3 : World} (h : Keep n₀ B E W1 W2) (h' : Keep n₀ B E W2 W3) : Keep n₀ B E W1 W3 := ⟨h.1.trans h'.1, fun k h1 h2 => (h'.2 k h1 h2).trans (h.2 k h1 h2)⟩

def Mark (D : Nat) : Deferred := { target := .collected D, args := #[] }
/-- The marks that have been left: each has its own block, which holds no call. -/
def Marks (n₀ : Nat) (Ds : List Nat) (W : World) : Prop := Ds.Nodup ∧ ∀ D ∈ Ds, n₀ ≤ D ∧ W.heap[D]? = some (.deferred (some []))
theorem Marks.nil (n₀ : Nat) (W : World) : Marks n₀ [] W := ⟨List.nodup_nil, fun _ h => by cases h⟩
theorem Marks.lt {n₀ : Nat} {Ds : List Nat} {W : World} (h : Marks n₀ Ds W) : ∀ D ∈ Ds, D < W.heap.size := fun D hD => (Array.getElem?_eq_some_iff.1 (h.2 D hD).2).1
theorem Marks.later {n₀ : Nat} {Ds : List Nat} {W W' : World} (h : Marks n₀ Ds W) (hb : Below W.heap.size W W') : Marks n₀ Ds W' := ⟨h.1, fun D hD => ⟨(h.2 D hD).1, (hb.block D (h.lt D hD)).trans (h.2 D hD).2⟩⟩
theorem Marks.others {n₀ : Nat} {Ds : List Nat} {W W' : World} (h : Marks n₀ Ds W) (hb : KeepsOthers W W') : Marks n₀ Ds W' := ⟨h.1, fun D hD => ⟨(h.2 D hD).1, hb.same D _ (h.2 D hD).2 rfl⟩⟩
theorem Marks.cons {n₀ D : Nat} {Ds : List Nat} {W : World} (h : Marks n₀ Ds W) (hn : n₀ ≤ D) (hD : D ∉ Ds) (hK : W.heap[D]? = some (.deferred (some []))) : Marks n₀ (D :: Ds) W :=
  ⟨List.nodup_cons.2 ⟨hD, h.1⟩, fun k hk => by
    rcases List.mem_cons.1 hk with rfl | hk
    · exact ⟨hn, hK⟩
    · exact h.2 k hk⟩
theorem marks_own {β : Type} {n₀ B : Nat} {Ds : List Nat} (hlt : ∀ D ∈ Ds, D < B) : OwnFrom (β := β) B (fun _ W => Marks n₀ Ds W) := fun _ A C row hs hg hr =>
  ⟨hs.1, fun D hD => ⟨(hs.2 D hD).1, (hg.block D (hs.lt D hD) (fun e => by have := (hr D e.symm).1; have := hlt D hD; omega)).trans (hs.2 D hD).2⟩⟩
theorem blk_own {β : Type} (g : Nat) (t : TypeId) (f : β → Array Value) : Own (fun s W => Blk W g t (f s)) := fun s A C row hs hg hr =>
  (hg.block g hs.lt (fun e => by
    obtain ⟨o, ho, hc⟩ := hr g e.symm
    rw [show A.heap[g]? = _ from hs] at ho
    cases ho
    cases hc)).trans hs

/-- The function's return: all its marks are taken up. -/
theorem leaves_marks {P : Program} {F : Fence} {n : Nat} {fn : Func} {tmps : Array Value} {R : Ending → World → Prop} {n₀ : Nat} (Q : World → Prop)
    (hQ : ∀ w D, Q w → n₀ ≤ D → w.heap[D]? = some (.deferred (some [])) → Q (w.putObj D (.deferred none)))
    (hR : ∀ w, Q w → LeavesInM F n P fn tmps R [] .returning w) : ∀ (Ds : List Nat) (w : World), Marks n₀ Ds w → Q w → LeavesInM F n P fn tmps R (Ds.map Mark) .returning w
  | [], w, _, h => hR w h
  | D :: Ds, w, hm, h => by
    have hD := hm.2 D (List.mem_cons_self ..)
    have hnd := List.nodup_cons.1 hm.1
    refine ⟨by simp, .inl ⟨D, _, rfl, run_takeDeferred hD.2, ?_⟩⟩
    refine leaves_marks Q hQ hR Ds _ ⟨hnd.2, fun k hk => ⟨(hm.2 k (List.mem_cons_of_mem _ hk)).1, ?_⟩⟩ (hQ w D h hD.1 hD.2)
    have hne : D ≠ k := fun e => hnd.1 (by rw [e]; exact hk)
    exact (World.putObj_heap_other (fun e => hne e.symm)).trans (hm.2 k (List.mem_cons_of_mem _ hk)).2

end Go.Proofs.Ytcfkpjbakccgiaa
