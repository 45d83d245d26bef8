/-
  Plain mathematics of frame, two: what is opened, whole, cut; what was sealed is opened again; one byte that is another one is told.
-/
import Derived.Test.YtobgbaejdamecaaDoorFrWord
namespace Go.Proofs.YtobgbaejdamecaaDoor
open Go.RowKit

namespace Fr
/-- A payload's frame. -/
def frm (p : List Int) : List Int := w4 p.length ++ (w4 (sum (w4 p.length ++ p)) ++ p)
theorem seal_len (p : List Int) : (frm p).length = 8 + p.length := by
  unfold frm
  simp only [List.length_append, w4_len]
  omega
theorem seal_byte {p : List Int} (h : ∀ x ∈ p, isB x) : ∀ x ∈ frm p, isB x := by
  intro x hx
  unfold frm at hx
  simp only [List.mem_append] at hx
  rcases hx with k | k | k
  · exact w4_byte _ x k
  · exact w4_byte _ x k
  · exact h x k
/-- The error of bytes that don't begin with as many as a frame says. -/
def err0 (l : List Int) : Int := if l.length < 8 then 5 else if 1048576 < num4 l then 4 else if l.length < 8 + num4 l then 5 else 0
/-- The payload, the frame's size, the error. -/
def opn (l : List Int) : List Int × Int × Int :=
  if err0 l = 0 then (if sum (l.take 4 ++ (l.take (8 + num4 l)).drop 8) = num4 (l.drop 4) then ((l.take (8 + num4 l)).drop 8, ((8 + num4 l : Nat) : Int), 0) else ([], 0, 6)) else ([], 0, err0 l)
def whl (l : List Int) : List Int × Int := if err0 l = 0 then (if 8 + num4 l < l.length then ([], 4) else ((opn l).1, (opn l).2.2)) else ([], err0 l)
theorem num4_lt {l : List Int} (h : ∀ x ∈ l, isB x) : num4 l < 4294967296 := by
  have g : ∀ k, (l.getD k 0).toNat < 256 := fun k => by
    rw [List.getD_eq_getElem?_getD]
    by_cases hk : k < l.length
    · rw [List.getElem?_eq_getElem hk]
      have := h _ (List.getElem_mem hk)
      unfold isB at this
      show (l[k]).toNat < 256
      omega
    · rw [List.getElem?_eq_none (by omega)]
      decide
  unfold num4
  have := g 0
  have := g 1
  have := g 2
  have := g 3
  omega
theorem num4_take {l : List Int} {k : Nat} (h : 4 ≤ k) : num4 (l.take k) = num4 l := by
  unfold num4
  have e : ∀ j, j < 4 → (l.take k).getD j 0 = l.getD j 0 := fun j hj => by
    rw [List.getD_eq_getElem?_getD, List.getD_eq_getElem?_getD, List.getElem?_take_of_lt (by omega)]
  rw [e 0 (by omega), e 1 (by omega), e 2 (by omega), e 3 (by omega)]
theorem four_bytes {l : List Int} (h : l.length = 4) (hb : ∀ x ∈ l, isB x) : w4 (num4 l) = l := by
  match l, h with
  | [a, b, c, d], _ =>
    have ha := hb a (by simp)
    have hb' := hb b (by simp)
    have hc := hb c (by simp)
    have hd := hb d (by simp)
    unfold isB at ha hb' hc hd
    unfold w4 num4
    simp only [List.getD_cons_zero, List.getD_cons_succ]
    congr 1
    · omega
    congr 1
    · omega
    congr 1
    · omega
    congr 1
    omega
theorem w4_inj {a b : Nat} (ha : a < 4294967296) (hb : b < 4294967296) (h : w4 a = w4 b) : a = b := by
  have h1 := num4_w4 a ha []
  have h2 := num4_w4 b hb []
  rw [h] at h1
  omega
/-- A frame's parts. -/
theorem parts (f : List Int) : f = f.take 4 ++ ((f.drop 4).take 4 ++ f.drop 8) := by
  have h1 := List.take_append_drop 4 f
  have h2 := List.take_append_drop 4 (f.drop 4)
  rw [List.drop_drop] at h2
  rw [h2, h1]
/-- Bytes are the frame of their payload where their sum is right. -/
theorem seal_iff {f : List Int} {n : Nat} (hl : f.length = 8 + n) (hn : num4 f = n) (hb : ∀ x ∈ f, isB x) : frm (f.drop 8) = f ↔ sum (f.take 4 ++ f.drop 8) = num4 (f.drop 4) := by
  have hd : (f.drop 8).length = n := by rw [List.length_drop]; omega
  have h4 : w4 n = f.take 4 := by
    have := four_bytes (l := f.take 4) (by rw [List.length_take]; omega) (fun x hx => hb x (List.mem_of_mem_take hx))
    rw [num4_take (by omega), hn] at this
    exact this
  have h5 : w4 (num4 (f.drop 4)) = (f.drop 4).take 4 := by
    have := four_bytes (l := (f.drop 4).take 4) (by rw [List.length_take, List.length_drop]; omega) (fun x hx => hb x (List.mem_of_mem_drop (List.mem_of_mem_take hx)))
    rwa [num4_take (by omega)] at this
  have hlt := num4_lt (l := f.drop 4) (fun x hx => hb x (List.mem_of_mem_drop hx))
  unfold frm
  rw [hd, h4]
  constructor
  · intro h
    have h6 := h.trans (parts f)
    have h7 := List.append_cancel_left h6
    have h8 : w4 (sum (f.take 4 ++ f.drop 8)) = (f.drop 4).take 4 := (List.append_inj h7 (by rw [w4_len, List.length_take, List.length_drop]; omega)).1
    rw [← h5] at h8
    exact w4_inj (sum_lt _) hlt h8
  · intro h
    rw [h, h5]
    exact (parts f).symm
theorem seal_num (p more : List Int) (h : p.length < 4294967296) : num4 (frm p ++ more) = p.length := by
  unfold frm
  rw [List.append_assoc]
  exact num4_w4 _ h _
/-- What is sealed is opened as it was, whatever stands behind. -/
theorem opn_seal (p more : List Int) (h : p.length ≤ 1048576) : opn (frm p ++ more) = (p, ((8 + p.length : Nat) : Int), 0) := by
  have hn := seal_num p more (by omega)
  have hs := seal_len p
  have e0 : err0 (frm p ++ more) = 0 := by
    unfold err0
    rw [hn, List.length_append, hs, if_neg (by omega), if_neg (by omega), if_neg (by omega)]
  have ht : (frm p ++ more).take (8 + p.length) = frm p := by rw [← hs, List.take_left]
  have hd : (frm p).drop 8 = p := by
    unfold frm
    rw [← List.append_assoc]
    exact List.drop_left' (by simp only [List.length_append, w4_len])
  have h4 : (frm p ++ more).take 4 = w4 p.length := by
    unfold frm
    rw [List.append_assoc]
    exact List.take_left' (by rw [w4_len])
  have h5 : num4 ((frm p ++ more).drop 4) = sum (w4 p.length ++ p) := by
    have : (frm p ++ more).drop 4 = w4 (sum (w4 p.length ++ p)) ++ (p ++ more) := by
      unfold frm
      rw [List.append_assoc, List.append_assoc]
      exact List.drop_left' (by rw [w4_len])
    rw [this]
    exact num4_w4 _ (sum_lt _) _
  unfold opn
  rw [if_pos e0, hn, ht, hd, h4, h5, if_pos rfl]
/-- A beginning of a frame isn't one. -/
theorem opn_short (p : List Int) (h : p.length ≤ 1048576) (k : Nat) (hk : k < 8 + p.length) : (opn ((frm p).take k)).2.2 = 5 := by
  have hs := seal_len p
  have hl : ((frm p).take k).length = k := by rw [List.length_take]; omega
  have e0 : err0 ((frm p).take k) = 5 := by
    unfold err0
    rw [hl]
    by_cases h8 : k < 8
    · rw [if_pos h8]
    · have hn : num4 ((frm p).take k) = p.length := by
        rw [num4_take (by omega)]
        have := seal_num p [] (by omega)
        rwa [List.append_nil] at this
      rw [if_neg h8, hn, if_neg (by omega), if_pos hk]
  unfold opn
  rw [e0, if_neg (by decide)]
theorem whl_seal (p : List Int) (h : p.length ≤ 1048576) : whl (frm p) = (p, 0) := by
  have ho := opn_seal p [] h
  rw [List.append_nil] at ho
  have hn := seal_num p [] (by omega)
  rw [List.append_nil] at hn
  have hs := seal_len p
  have e0 : err0 (frm p) = 0 := by
    unfold err0
    rw [hn, hs, if_neg (by omega), if_neg (by omega), if_neg (by omega)]
  unfold whl
  rw [if_pos e0, hn, hs, if_neg (by omega), ho]
theorem opn_err {l : List Int} (h : (opn l).2.2 ≠ 0) : (opn l).1 = [] ∧ (opn l).2.1 = 0 := by
  unfold opn at h ⊢
  split
  · rename_i he
    rw [if_pos he] at h
    split
    · rename_i hs
      rw [if_pos hs] at h
      exact absurd rfl h
    · exact ⟨rfl, rfl⟩
  · exact ⟨rfl, rfl⟩
theorem opn_ok {l : List Int} (h : (opn l).2.2 = 0) : err0 l = 0 ∧ sum (l.take 4 ++ (l.take (8 + num4 l)).drop 8) = num4 (l.drop 4) ∧ opn l = ((l.take (8 + num4 l)).drop 8, ((8 + num4 l : Nat) : Int), 0) ∧ 8 + num4 l ≤ l.length ∧ num4 l ≤ 1048576 := by
  unfold opn at h ⊢
  split
  · rename_i he
    rw [if_pos he] at h
    have hle : 8 + num4 l ≤ l.length ∧ num4 l ≤ 1048576 := by
      unfold err0 at he
      split at he
      · cases he
      split at he
      · cases he
      split at he
      · cases he
      omega
    split
    · rename_i hs
      exact ⟨he, hs, rfl, hle⟩
    · rename_i hs
      rw [if_neg hs] at h
      cases h
  · rename_i he
    rw [if_neg he] at h
    exact absurd h he

/-- A step of cutting: the place and the payloads behind the next frame, if there is one. -/
def stp (l : List Int) (s : Nat × List (List Int)) : Nat × List (List Int) := if (opn (l.drop s.1)).2.2 = 0 then (s.1 + (opn (l.drop s.1)).2.1.toNat, s.2 ++ [(opn (l.drop s.1)).1]) else s
def it (l : List Int) : Nat → Nat × List (List Int)
  | 0 => (0, [])
  | k + 1 => stp l (it l k)
/-- No frame comes there. -/
def Stop (l : List Int) (k : Nat) : Prop := (opn (l.drop (it l k).1)).2.2 ≠ 0
theorem it_stays {l : List Int} {k : Nat} (h : Stop l k) : ∀ m, it l (k + m) = it l k
  | 0 => rfl
  | m + 1 => by
    show stp l (it l (k + m)) = _
    rw [it_stays h m]
    unfold stp
    rw [if_neg h]
theorem it_one {l : List Int} {k j : Nat} (h : Stop l k) (h' : Stop l j) : it l k = it l j := by
  rcases Nat.le_total k j with hk | hk
  · have := it_stays h (j - k)
    rw [show k + (j - k) = j from by omega] at this
    exact this.symm
  · have := it_stays h' (k - j)
    rwa [show j + (k - j) = k from by omega] at this
/-- Frames one behind the other, cut. -/
theorem it_frames : ∀ (k : Nat) (ps : List (List Int)) (l : List Int), k ≤ ps.length → (∀ p ∈ ps, p.length ≤ 1048576) → ((ps.take k).map frm).flatten <+: l → it l k = (((ps.take k).map frm).flatten.length, ps.take k)
  | 0, ps, l, _, _, _ => by simp [it]
  | k + 1, ps, l, hk, hp, hl => by
    have ht : ps.take (k + 1) = ps.take k ++ [ps.getD k []] := by
      rw [List.take_succ_eq_append_getElem (by omega), List.getD_eq_getElem?_getD, List.getElem?_eq_getElem (by omega)]
      rfl
    have hm : ps.getD k [] ∈ ps := by
      rw [List.getD_eq_getElem?_getD, List.getElem?_eq_getElem (by omega)]
      exact List.getElem_mem _
    have hf : ((ps.take (k + 1)).map frm).flatten = ((ps.take k).map frm).flatten ++ frm (ps.getD k []) := by
      rw [ht]
      simp
    obtain ⟨r, hr⟩ := hl
    rw [hf] at hr
    have ih := it_frames k ps l (by omega) hp ⟨frm (ps.getD k []) ++ r, by rw [← List.append_assoc]; exact hr⟩
    have hd : l.drop (((ps.take k).map frm).flatten.length) = frm (ps.getD k []) ++ r := by
      rw [← hr, List.append_assoc, List.drop_left]
    have ho := opn_seal (ps.getD k []) r (hp _ hm)
    show stp l (it l k) = _
    unfold stp
    rw [ih]
    dsimp only
    rw [hd, ho, if_pos rfl, hf, ht, List.length_append, seal_len]
    congr 1
theorem whl_err {l : List Int} (h : (whl l).2 ≠ 0) : (whl l).1 = [] := by
  unfold whl at h ⊢
  split
  · rename_i he
    rw [if_pos he] at h
    split
    · rfl
    · rename_i hs
      rw [if_neg hs] at h
      exact (opn_err h).1
  · rfl
/-- A frame of which one byte is another one is not whole. -/
theorem whl_turned {p : List Int} (hb : ∀ x ∈ p, isB x) {i : Nat} (hi : i < 8 + p.length) {y : Int} (hy : isB y) (hne : y ≠ (frm p).getD i 0) : (whl ((frm p).set i y)).2 ≠ 0 := by
  intro h
  have hs := seal_len p
  have hl : ((frm p).set i y).length = 8 + p.length := by rw [List.length_set, hs]
  have hfb : ∀ x ∈ (frm p).set i y, isB x := fun x hx => by
    rcases List.mem_or_eq_of_mem_set hx with k | rfl
    · exact seal_byte hb x k
    · exact hy
  have hat : ((frm p).set i y).getD i 0 = y := by
    rw [List.getD_eq_getElem?_getD, List.getElem?_set_self (by omega)]
    rfl
  obtain ⟨f, hf⟩ : ∃ f, (frm p).set i y = f := ⟨_, rfl⟩
  rw [hf] at h hl hfb hat
  have hq : frm (f.drop 8) = f := by
    unfold whl at h
    split at h
    · rename_i he
      split at h
      · cases h
      · rename_i hns
        obtain ⟨-, h2, -, h4, -⟩ := opn_ok h
        have hn : num4 f = p.length := by
          have h5 : ¬ 8 + num4 f < f.length := hns
          omega
        rw [hn, show f.take (8 + p.length) = f from List.take_of_length_le (by omega)] at h2
        exact (seal_iff hl hn hfb).2 h2
    · rename_i he
      exact absurd h he
  by_cases h8 : i < 8
  · have hd : f.drop 8 = p := by
      rw [← hf, List.drop_set_of_lt h8]
      unfold frm
      rw [← List.append_assoc]
      exact List.drop_left' (by simp only [List.length_append, w4_len])
    rw [hd] at hq
    rw [hq, hat] at hne
    exact hne rfl
  · have e1 : frm p = (w4 p.length ++ w4 (sum (w4 p.length ++ p))) ++ p := by
      unfold frm
      rw [List.append_assoc]
    have h8l : (w4 p.length ++ w4 (sum (w4 p.length ++ p))).length = 8 := by simp only [List.length_append, w4_len]
    have e2 : f = (w4 p.length ++ w4 (sum (w4 p.length ++ p))) ++ p.set (i - 8) y := by
      rw [← hf, e1, List.set_append_right _ _ (by omega), h8l]
    have e3 : f.drop 8 = p.set (i - 8) y := by rw [e2]; exact List.drop_left' h8l
    rw [e3, e2] at hq
    unfold frm at hq
    rw [List.length_set, List.append_assoc] at hq
    have hq2 := List.append_cancel_left hq
    have hq3 := (List.append_inj hq2 (by rw [w4_len, w4_len])).1
    have hq4 := w4_inj (sum_lt _) (sum_lt _) hq3
    have hj : i - 8 < p.length := by omega
    have e4 : p.set (i - 8) y = p.take (i - 8) ++ y :: p.drop (i - 8 + 1) := List.set_eq_take_append_cons_drop.trans (by rw [if_pos hj])
    have e5 : p = p.take (i - 8) ++ p[i - 8] :: p.drop (i - 8 + 1) := by
      rw [List.getElem_cons_drop hj, List.take_append_drop]
    have hpt : ∀ z ∈ w4 p.length ++ p.take (i - 8), isB z := fun z hz => (List.mem_append.1 hz).elim (w4_byte _ z) (fun k => hb z (List.mem_of_mem_take k))
    have hpj : isB p[i - 8] := hb _ (List.getElem_mem hj)
    have hpd : ∀ z ∈ p.drop (i - 8 + 1), isB z := fun z hz => hb z (List.mem_of_mem_drop hz)
    have h6 : sum ((w4 p.length ++ p.take (i - 8)) ++ y :: p.drop (i - 8 + 1)) = sum ((w4 p.length ++ p.take (i - 8)) ++ p[i - 8] :: p.drop (i - 8 + 1)) := by
      rw [List.append_assoc, List.append_assoc, ← e4, ← e5]
      exact hq4
    have h7 := sum_tells hpt hy hpj hpd h6
    apply hne
    rw [h7, e1, List.getD_eq_getElem?_getD, List.getElem?_append_right (by omega), h8l, List.getElem?_eq_getElem hj]
    rfl
theorem opn_nil : (opn []).2.2 = 5 := by decide
end Fr
end Go.Proofs.YtobgbaejdamecaaDoor
