/-
  Plain mathematics of frame, two: what is opened, whole, cut; what was sealed is opened again; one byte that is another one is told.
  What journals are and become, as plain mathematics. Nothing of the program is imported but the contracts' words.
  What slices.Grow answers of no slice at files, and slices.Concat of three lists of files.
  What disk's Sync, file, Get, Cut answer.
-/
import Derived.Test.YtkhggofcbdcliaaDoorG09
import Derived.Test.YtkhggofcbdcliaaDoorG08
import Derived.Test.YtkhggofcbdcliaaDoorG07
import Derived.Lib.AppendZerosOnto
import Derived.Lib.Walk
import Derived.Deep.RegionWith
namespace Go.Proofs.YtkhggofcbdcliaaDoor
open Go.RowKit

namespace Fr
/-- A payload's frame. -/
def frm (p : List Int) : List Int := w4 p.length ++ (w4 (sum (w4 p.length ++ p)) ++ p)
theorem seal_len (p : List Int) : (frm p).length = 8 + p.length := by
  unfold frm
  simp only [List.length_append, w4_len]
  omega
theorem seal_byte {p : List Int} (h : ∀ x ∈ p, isB x) : ∀ x ∈ frm p, isB x := by
  intro x hx
  unfold frm at hx
  simp only [List.mem_append] at hx
  rcases hx with k | k | k
  · exact w4_byte _ x k
  · exact w4_byte _ x k
  · exact h x k
/-- The error of bytes that don't begin with as many as a frame says. -/
def err0 (l : List Int) : Int := if l.length < 8 then 5 else if 1048576 < num4 l then 4 else if l.length < 8 + num4 l then 5 else 0
/-- The payload, the frame's size, the error. -/
def opn (l : List Int) : List Int × Int × Int :=
  if err0 l = 0 then (if sum (l.take 4 ++ (l.take (8 + num4 l)).drop 8) = num4 (l.drop 4) then ((l.take (8 + num4 l)).drop 8, ((8 + num4 l : Nat) : Int), 0) else ([], 0, 6)) else ([], 0, err0 l)
def whl (l : List Int) : List Int × Int := if err0 l = 0 then (if 8 + num4 l < l.length then ([], 4) else ((opn l).1, (opn l).2.2)) else ([], err0 l)
theorem num4_lt {l : List Int} (h : ∀ x ∈ l, isB x) : num4 l < 4294967296 := by
  have g : ∀ k, (l.getD k 0).toNat < 256 := fun k => by
    rw [List.getD_eq_getElem?_getD]
    by_cases hk : k < l.length
    · rw [List.getElem?_eq_getElem hk]
      have := h _ (List.getElem_mem hk)
      unfold isB at this
      show (l[k]).toNat < 256
      omega
    · rw [List.getElem?_eq_none (by omega)]
      decide
  unfold num4
  have := g 0
  have := g 1
  have := g 2
  have := g 3
  omega
theorem num4_take {l : List Int} {k : Nat} (h : 4 ≤ k) : num4 (l.take k) = num4 l := by
  unfold num4
  have e : ∀ j, j < 4 → (l.take k).getD j 0 = l.getD j 0 := fun j hj => by
    rw [List.getD_eq_getElem?_getD, List.getD_eq_getElem?_getD, List.getElem?_take_of_lt (by omega)]
  rw [e 0 (by omega), e 1 (by omega), e 2 (by omega), e 3 (by omega)]
theorem four_bytes {l : List Int} (h : l.length = 4) (hb : ∀ x ∈ l, isB x) : w4 (num4 l) = l := by
  match l, h with
  | [a, b, c, d], _ =>
    have ha := hb a (by simp)
    have hb' := hb b (by simp)
    have hc := hb c (by simp)
    have hd := hb d (by simp)
    unfold isB at ha hb' hc hd
    unfold w4 num4
    simp only [List.getD_cons_zero, List.getD_cons_succ]
    congr 1
    · omega
    congr 1
    · omega
    congr 1
    · omega
    congr 1
    omega
theorem w4_inj {a b : Nat} (ha : a < 4294967296) (hb : b < 4294967296) (h : w4 a = w4 b) : a = b := by
  have h1 := num4_w4 a ha []
  have h2 := num4_w4 b hb []
  rw [h] at h1
  omega
/-- A frame's parts. -/
theorem parts (f : List Int) : f = f.take 4 ++ ((f.drop 4).take 4 ++ f.drop 8) := by
  have h1 := List.take_append_drop 4 f
  have h2 := List.take_append_drop 4 (f.drop 4)
  rw [List.drop_drop] at h2
  rw [h2, h1]
/-- Bytes are the frame of their payload where their sum is right. -/
theorem seal_iff {f : List Int} {n : Nat} (hl : f.length = 8 + n) (hn : num4 f = n) (hb : ∀ x ∈ f, isB x) : frm (f.drop 8) = f ↔ sum (f.take 4 ++ f.drop 8) = num4 (f.drop 4) := by
  have hd : (f.drop 8).length = n := by rw [List.length_drop]; omega
  have h4 : w4 n = f.take 4 := by
    have := four_bytes (l := f.take 4) (by rw [List.length_take]; omega) (fun x hx => hb x (List.mem_of_mem_take hx))
    rw [num4_take (by omega), hn] at this
    exact this
  have h5 : w4 (num4 (f.drop 4)) = (f.drop 4).take 4 := by
    have := four_bytes (l := (f.drop 4).take 4) (by rw [List.length_take, List.length_drop]; omega) (fun x hx => hb x (List.mem_of_mem_drop (List.mem_of_mem_take hx)))
    rwa [num4_take (by omega)] at this
  have hlt := num4_lt (l := f.drop 4) (fun x hx => hb x (List.mem_of_mem_drop hx))
  unfold frm
  rw [hd, h4]
  constructor
  · intro h
    have h6 := h.trans (parts f)
    have h7 := List.append_cancel_left h6
    have h8 : w4 (sum (f.take 4 ++ f.drop 8)) = (f.drop 4).take 4 := (List.append_inj h7 (by rw [w4_len, List.length_take, List.length_drop]; omega)).1
    rw [← h5] at h8
    exact w4_inj (sum_lt _) hlt h8
  · intro h
    rw [h, h5]
    exact (parts f).symm
theorem seal_num (p more : List Int) (h : p.length < 4294967296) : num4 (frm p ++ more) = p.length := by
  unfold frm
  rw [List.append_assoc]
  exact num4_w4 _ h _
/-- What is sealed is opened as it was, whatever stands behind. -/
theorem opn_seal (p more : List Int) (h : p.length ≤ 1048576) : opn (frm p ++ more) = (p, ((8 + p.length : Nat) : Int), 0) := by
  have hn := seal_num p more (by omega)
  have hs := seal_len p
  have e0 : err0 (frm p ++ more) = 0 := by
    unfold err0
    rw [hn, List.length_append, hs, if_neg (by omega), if_neg (by omega), if_neg (by omega)]
  have ht : (frm p ++ more).take (8 + p.length) = frm p := by rw [← hs, List.take_left]
  have hd : (frm p).drop 8 = p := by
    unfold frm
    rw [← List.append_assoc]
    exact List.drop_left' (by simp only [List.length_append, w4_len])
  have h4 : (frm p ++ more).take 4 = w4 p.length := by
    unfold frm
    rw [List.append_assoc]
    exact List.take_left' (by rw [w4_len])
  have h5 : num4 ((frm p ++ more).drop 4) = sum (w4 p.length ++ p) := by
    have : (frm p ++ more).drop 4 = w4 (sum (w4 p.length ++ p)) ++ (p ++ more) := by
      unfold frm
      rw [List.append_assoc, List.append_assoc]
      exact List.drop_left' (by rw [w4_len])
    rw [this]
    exact num4_w4 _ (sum_lt _) _
  unfold opn
  rw [if_pos e0, hn, ht, hd, h4, h5, if_pos rfl]
/-- A beginning of a frame isn't one. -/
theorem opn_short (p : List Int) (h : p.length ≤ 1048576) (k : Nat) (hk : k < 8 + p.length) : (opn ((frm p).take k)).2.2 = 5 := by
  have hs := seal_len p
  have hl : ((frm p).take k).length = k := by rw [List.length_take]; omega
  have e0 : err0 ((frm p).take k) = 5 := by
    unfold err0
    rw [hl]
    by_cases h8 : k < 8
    · rw [if_pos h8]
    · have hn : num4 ((frm p).take k) = p.length := by
        rw [num4_take (by omega)]
        have := seal_num p [] (by omega)
        rwa [List.append_nil] at this
      rw [if_neg h8, hn, if_neg (by omega), if_pos hk]
  unfold opn
  rw [e0, if_neg (by decide)]
theorem whl_seal (p : List Int) (h : p.length ≤ 1048576) : whl (frm p) = (p, 0) := by
  have ho := opn_seal p [] h
  rw [List.append_nil] at ho
  have hn := seal_num p [] (by omega)
  rw [List.append_nil] at hn
  have hs := seal_len p
  have e0 : err0 (frm p) = 0 := by
    unfold err0
    rw [hn, hs, if_neg (by omega), if_neg (by omega), if_neg (by omega)]
  unfold whl
  rw [if_pos e0, hn, hs, if_neg (by omega), ho]
theorem opn_err {l : List Int} (h : (opn l).2.2 ≠ 0) : (opn l).1 = [] ∧ (opn l).2.1 = 0 := by
  unfold opn at h ⊢
  split
  · rename_i he
    rw [if_pos he] at h
    split
    · rename_i hs
      rw [if_pos hs] at h
      exact absurd rfl h
    · exact ⟨rfl, rfl⟩
  · exact ⟨rfl, rfl⟩
theorem opn_ok {l : List Int} (h : (opn l).2.2 = 0) : err0 l = 0 ∧ sum (l.take 4 ++ (l.take (8 + num4 l)).drop 8) = num4 (l.drop 4) ∧ opn l = ((l.take (8 + num4 l)).drop 8, ((8 + num4 l : Nat) : Int), 0) ∧ 8 + num4 l ≤ l.length ∧ num4 l ≤ 1048576 := by
  unfold opn at h ⊢
  split
  · rename_i he
    rw [if_pos he] at h
    have hle : 8 + num4 l ≤ l.length ∧ num4 l ≤ 1048576 := by
      unfold err0 at he
      split at he
      · cases he
      split at he
      · cases he
      split at he
      · cases he
      omega
    split
    · rename_i hs
      exact ⟨he, hs, rfl, hle⟩
    · rename_i hs
      rw [if_neg hs] at h
      cases h
  · rename_i he
    rw [if_neg he] at h
    exact absurd h he

/-- A step of cutting: the place and the payloads behind the next frame, if there is one. -/
def stp (l : List Int) (s : Nat × List (List Int)) : Nat × List (List Int) := if (opn (l.drop s.1)).2.2 = 0 then (s.1 + (opn (l.drop s.1)).2.1.toNat, s.2 ++ [(opn (l.drop s.1)).1]) else s
def it (l : List Int) : Nat → Nat × List (List Int)
  | 0 => (0, [])
  | k + 1 => stp l (it l k)
/-- No frame comes there. -/
def Stop (l : List Int) (k : Nat) : Prop := (opn (l.drop (it l k).1)).2.2 ≠ 0
theorem it_stays {l : List Int} {k : Nat} (h : Stop l k) : ∀ m, it l (k + m) = it l k
  | 0 => rfl
  | m + 1 => by
    show stp l (it l (k + m)) = _
    rw [it_stays h m]
    unfold stp
    rw [if_neg h]
theorem it_one {l : List Int} {k j : Nat} (h : Stop l k) (h' : Stop l j) : it l k = it l j := by
  rcases Nat.le_total k j with hk | hk
  · have := it_stays h (j - k)
    rw [show k + (j - k) = j from by omega] at this
    exact this.symm
  · have := it_stays h' (k - j)
    rwa [show j + (k - j) = k from by omega] at this
/-- Frames one behind the other, cut. -/
theorem it_frames : ∀ (k : Nat) (ps : List (List Int)) (l : List Int), k ≤ ps.length → (∀ p ∈ ps, p.length ≤ 1048576) → ((ps.take k).map frm).flatten <+: l → it l k = (((ps.take k).map frm).flatten.length, ps.take k)
  | 0, ps, l, _, _, _ => by simp [it]
  | k + 1, ps, l, hk, hp, hl => by
    have ht : ps.take (k + 1) = ps.take k ++ [ps.getD k []] := by
      rw [List.take_succ_eq_append_getElem (by omega), List.getD_eq_getElem?_getD, List.getElem?_eq_getElem (by omega)]
      rfl
    have hm : ps.getD k [] ∈ ps := by
      rw [List.getD_eq_getElem?_getD, List.getElem?_eq_getElem (by omega)]
      exact List.getElem_mem _
    have hf : ((ps.take (k + 1)).map frm).flatten = ((ps.take k).map frm).flatten ++ frm (ps.getD k []) := by
      rw [ht]
      simp
    obtain ⟨r, hr⟩ := hl
    rw [hf] at hr
    have ih := it_frames k ps l (by omega) hp ⟨frm (ps.getD k []) ++ r, by rw [← List.append_assoc]; exact hr⟩
    have hd : l.drop (((ps.take k).map frm).flatten.length) = frm (ps.getD k []) ++ r := by
      rw [← hr, List.append_assoc, List.drop_left]
    have ho := opn_seal (ps.getD k []) r (hp _ hm)
    show stp l (it l k) = _
    unfold stp
    rw [ih]
    dsimp only
    rw [hd, ho, if_pos rfl, hf, ht, List.length_append, seal_len]
    congr 1
theorem whl_err {l : List Int} (h : (whl l).2 ≠ 0) : (whl l).1 = [] := by
  unfold whl at h ⊢
  split
  · rename_i he
    rw [if_pos he] at h
    split
    · rfl
    · rename_i hs
      rw [if_neg hs] at h
      exact (opn_err h).1
  · rfl
/-- A frame of which one byte is another one is not whole. -/
theorem whl_turned {p : List Int} (hb : ∀ x ∈ p, isB x) {i : Nat} (hi : i < 8 + p.length) {y : Int} (hy : isB y) (hne : y ≠ (frm p).getD i 0) : (whl ((frm p).set i y)).2 ≠ 0 := by
  intro h
  have hs := seal_len p
  have hl : ((frm p).set i y).length = 8 + p.length := by rw [List.length_set, hs]
  have hfb : ∀ x ∈ (frm p).set i y, isB x := fun x hx => by
    rcases List.mem_or_eq_of_mem_set hx with k | rfl
    · exact seal_byte hb x k
    · exact hy
  have hat : ((frm p).set i y).getD i 0 = y := by
    rw [List.getD_eq_getElem?_getD, List.getElem?_set_self (by omega)]
    rfl
  obtain ⟨f, hf⟩ : ∃ f, (frm p).set i y = f := ⟨_, rfl⟩
  rw [hf] at h hl hfb hat
  have hq : frm (f.drop 8) = f := by
    unfold whl at h
    split at h
    · rename_i he
      split at h
      · cases h
      · rename_i hns
        obtain ⟨-, h2, -, h4, -⟩ := opn_ok h
        have hn : num4 f = p.length := by
          have h5 : ¬ 8 + num4 f < f.length := hns
          omega
        rw [hn, show f.take (8 + p.length) = f from List.take_of_length_le (by omega)] at h2
        exact (seal_iff hl hn hfb).2 h2
    · rename_i he
      exact absurd h he
  by_cases h8 : i < 8
  · have hd : f.drop 8 = p := by
      rw [← hf, List.drop_set_of_lt h8]
      unfold frm
      rw [← List.append_assoc]
      exact List.drop_left' (by simp only [List.length_append, w4_len])
    rw [hd] at hq
    rw [hq, hat] at hne
    exact hne rfl
  · have e1 : frm p = (w4 p.length ++ w4 (sum (w4 p.length ++ p))) ++ p := by
      unfold frm
      rw [List.append_assoc]
    have h8l : (w4 p.length ++ w4 (sum (w4 p.length ++ p))).length = 8 := by simp only [List.length_append, w4_len]
    have e2 : f = (w4 p.length ++ w4 (sum (w4 p.length ++ p))) ++ p.set (i - 8) y := by
      rw [← hf, e1, List.set_append_right _ _ (by omega), h8l]
    have e3 : f.drop 8 = p.set (i - 8) y := by rw [e2]; exact List.drop_left' h8l
    rw [e3, e2] at hq
    unfold frm at hq
    rw [List.length_set, List.append_assoc] at hq
    have hq2 := List.append_cancel_left hq
    have hq3 := (List.append_inj hq2 (by rw [w4_len, w4_len])).1
    have hq4 := w4_inj (sum_lt _) (sum_lt _) hq3
    have hj : i - 8 < p.length := by omega
    have e4 : p.set (i - 8) y = p.take (i - 8) ++ y :: p.drop (i - 8 + 1) := List.set_eq_take_append_cons_drop.trans (by rw [if_pos hj])
    have e5 : p = p.take (i - 8) ++ p[i - 8] :: p.drop (i - 8 + 1) := by
      rw [List.getElem_cons_drop hj, List.take_append_drop]
    have hpt : ∀ z ∈ w4 p.length ++ p.take (i - 8), isB z := fun z hz => (List.mem_append.1 hz).elim (w4_byte _ z) (fun k => hb z (List.mem_of_mem_take k))
    have hpj : isB p[i - 8] := hb _ (List.getElem_mem hj)
    have hpd : ∀ z ∈ p.drop (i - 8 + 1), isB z := fun z hz => hb z (List.mem_of_mem_drop hz)
    have h6 : sum ((w4 p.length ++ p.take (i - 8)) ++ y :: p.drop (i - 8 + 1)) = sum ((w4 p.length ++ p.take (i - 8)) ++ p[i - 8] :: p.drop (i - 8 + 1)) := by
      rw [List.append_assoc, List.append_assoc, ← e4, ← e5]
      exact hq4
    have h7 := sum_tells hpt hy hpj hpd h6
    apply hne
    rw [h7, e1, List.getD_eq_getElem?_getD, List.getElem?_append_right (by omega), h8l, List.getElem?_eq_getElem hj]
    rfl
theorem opn_nil : (opn []).2.2 = 5 := by decide
end Fr
end Go.Proofs.YtkhggofcbdcliaaDoor
namespace Go.Proofs.YtkhggofcbdcliaaDoor
open Go.RowKit

namespace Jn
/-- The last segment's number. -/
def lastR (room : Int) (fs : List Fi) : Int := if Dk.fmd room fs = true then (match fs.getLast? with | none => -1 | some f => f.1) else -1
def startR (room : Int) (fs : List Fi) (p : List Int) : Dk.Ans3 :=
  if Dk.fmd room fs = true ∧ p.length ≤ 1048576 then (if lastR room fs = 1048576 then (0, [], 15) else Dk.appR room (fs.map Dk.syn1) ((if lastR room fs < 0 then 0 else lastR room fs) + 1) (Fr.frm p)) else (0, [], 1)
/-- Is a record put into a new segment? -/
def fresh (fs : List Fi) (p : List Int) : Bool := match fs.getLast? with | none => true | some f => decide (0 < f.2.1.length ∧ 512 < f.2.1.length + p.length + 8)
def appJR (room : Int) (fs : List Fi) (p : List Int) : Dk.Ans3 :=
  if Dk.fmd room fs = true ∧ p.length ≤ 1048576 then (if fresh fs p = true then startR room fs p else Dk.appR room fs (lastR room fs) (Fr.frm p)) else (0, [], 1)
def dropR (room : Int) (fs : List Fi) : Dk.Ans3 := if Dk.fmd room fs = true then (match fs.getLast? with | none => (0, [], 16) | some f => (room, [f], 0)) else (0, [], 1)
/-- What a segment's bytes begin with: whole frames: how many bytes, the payloads. -/
def cut (l : List Int) : Nat × List (List Int) := Fr.it l (l.length + 1)
/-- The records, and the segments as they go on (nothing of them is sure). -/
def scan : List Fi → List (List Int) × List Fi
  | [] => ([], [])
  | f :: r => if (cut f.2.1).1 < f.2.1.length then ((cut f.2.1).2, [(f.1, f.2.1.take (cut f.2.1).1, 0)]) else ((cut f.2.1).2 ++ (scan r).1, (f.1, f.2.1.take (cut f.2.1).1, 0) :: (scan r).2)
def scanR (room : Int) (fs : List Fi) : List (List Int) × Dk.Ans3 := if Dk.fmd room fs = true then ((scan fs).1, (room, (scan fs).2.map Dk.syn1, 0)) else ([], (0, [], 1))

theorem last_le {room : Int} {fs : List Fi} : -1 ≤ lastR room fs ∧ lastR room fs ≤ 1048576 := by
  unfold lastR
  split
  · next h =>
    cases hl : fs.getLast? with
    | none => exact ⟨Int.le_refl _, by decide⟩
    | some f =>
      have := (Dk.fmd_facts h).num f (List.mem_of_getLast? hl)
      exact ⟨by dsimp only; omega, this.2.1⟩
  · exact ⟨Int.le_refl _, by decide⟩
/-- The last file. -/
theorem getLast_at {α : Type} {l : List α} (h : l ≠ []) : ∃ x, l[l.length - 1]? = some x ∧ l.getLast? = some x := by
  have hl : 0 < l.length := List.length_pos_iff.2 h
  exact ⟨l[l.length - 1], List.getElem?_eq_getElem (by omega), by rw [List.getLast?_eq_getElem?]; exact List.getElem?_eq_getElem (by omega)⟩
section
variable {l : List Int}
theorem opn_grow (h : (Fr.opn l).2.2 = 0) : 8 ≤ (Fr.opn l).2.1 ∧ (Fr.opn l).2.1 ≤ (l.length : Int) := by
  unfold Fr.opn at h ⊢
  by_cases he : Fr.err0 l = 0
  · rw [if_pos he] at h ⊢
    split at h
    · next hs =>
      rw [if_pos hs]
      dsimp only
      unfold Fr.err0 at he
      split at he
      · cases he
      · split at he
        · cases he
        · split at he
          · cases he
          · constructor <;> omega
    · cases h
  · rw [if_neg he] at h
    exact absurd h he
end
end Jn
end Go.Proofs.YtkhggofcbdcliaaDoor
namespace Go.Proofs.YtkhggofcbdcliaaDoor
open Go.RowKit

set_option maxHeartbeats 3200000 in
set_option maxRecDepth 100000 in
theorem growF_any (n : Nat) (w : World) (hn : n * 40 ≤ 140737488355328) :
    Calls Tryd.prog 71 #[.slice none 0 0, .int .i64 n] w fun e w' => ∃ v, e = .returned v ∧ w'.ownsRow w.heap.size 50 3 v 0 [] ∧ Below w.heap.size w w' := by
  by_cases h0 : n = 0
  · subst h0
    go_enter Tryd.func71, Tryd.ntmps71
    go_wp2
    go_ret
    exact ⟨_, rfl, ⟨rfl, .inl ⟨rfl, rfl⟩⟩, Below.refl _ _⟩
  · obtain ⟨i0, hI, hz0, hz1, hz2⟩ := info_parts infoFi
    have hn1 : ¬ ((n : Int) < 0) := by omega
    have hn2 : (0 : Int) < (n : Int) := by omega
    have hold : (Builtin.firstCells i0.size 0 (.slice none 0 0)).run Tryd.prog w.drew = .ok ([] : List Value).toArray w.drew := run_firstCells_none w.drew i0.size 0 0 0
    obtain ⟨G, hG⟩ : ∃ G, grownCap w n 0 50 = G := ⟨_, rfl⟩
    have hGn : n ≤ G := by rw [← hG]; exact grownCap_ge w _ _ _
    have hG63 : G ≤ maxLen := by rw [← hG]; exact grownCap_le_maxLen w n 0 50 (by unfold maxLen; omega)
    obtain ⟨Z, hZ⟩ : ∃ Z, ([] : List Value).toArray ++ Builtin.zeroCells (Value.cells (.agg #[.int .i64 0, .slice none 0 0, .int .i64 0])) n ++ Builtin.zeroCells (Value.cells (.agg #[.int .i64 0, .slice none 0 0, .int .i64 0])) (G - n) = Z := ⟨_, rfl⟩
    have hZs : Z.size = G * 3 := by
      rw [← hZ, Array.size_append, Array.size_append, size_zeroCells, size_zeroCells]
      show 0 + n * 3 + (G - n) * 3 = G * 3
      omega
    have hrz : ∀ ty, (Builtin.append_ #[22, 3] ty #[.slice none 0 0, .int .i64 (n : Int)]).run Tryd.prog w = .ok (.slice (some ⟨w.heap.size, 0, none⟩) n G) (w.drew.alloc (.cells Z 50)) := fun ty => by
      have h := Lib.run_append_grow_zeros w 22 3 ty 50 i0 (.agg #[.int .i64 0, .slice none 0 0, .int .i64 0]) .i64 .i64 Tryd.underlying22 Tryd.underlying3 hI hz0 none 0 0 [] hold n (by omega) (by rw [hz1]; omega) (by omega) (by omega) (by rw [hz2]; omega) (growslice_fits (by omega) (by rw [hz2]; omega))
      rw [Nat.zero_add, hG, hZ] at h
      exact h
    have hB := Blk.new w.drew 50 Z
    have HB := Lib.hid (show Blk (w.drew.alloc (.cells Z 50)) w.heap.size 50 Z from hB)
    have hG1 : G ≤ 9223372036854775807 := by unfold maxLen at hG63; exact hG63
    have HZS := Lib.hid hZs
    have HGM := Lib.hid hG63
    have hbz := (Below.drew (Below.refl w.heap.size w)).alloc (Nat.le_refl _) (.cells Z 50)
    clear hold hG hZ hB hZs hG63
    go_enter Tryd.func71, Tryd.ntmps71
    go_wp2_with (at_builtin; refine Lib.wpList_append_run _ rfl _ _ _ _ rfl _ _ rfl rfl _ _ (hrz _) ?_)
    all_goals (go_ret; exact ⟨_, rfl, ⟨rfl, .inr ⟨w.heap.size, G, Z, rfl, Nat.le_refl _, HB.out, Nat.zero_le _, HGM.out, HZS.out, rfl⟩⟩, hbz⟩)

set_option maxHeartbeats 6400000 in
set_option maxRecDepth 100000 in
theorem concatF_any (g : Nat) (A1 A2 A3 : Option Addr) (c1 c2 c3 n1 n2 n3 : Nat) (x1 x2 x3 : List Value) (w : World) (hB : Blk w g 22 #[.slice A1 n1 c1, .slice A2 n2 c2, .slice A3 n3 c3])
    (a1 : A1 = none → n1 = 0 ∧ c1 = 0) (a2 : A2 = none → n2 = 0 ∧ c2 = 0) (a3 : A3 = none → n3 = 0 ∧ c3 = 0) (l1 : x1.length = n1 * 3) (l2 : x2.length = n2 * 3) (l3 : x3.length = n3 * 3) (o1 : ∀ u ∈ x1, u.oneCell' = true) (o2 : ∀ u ∈ x2, u.oneCell' = true) (o3 : ∀ u ∈ x3, u.oneCell' = true)
    (h1 : Lies w A1 x1) (h2 : Lies w A2 x2) (h3 : Lies w A3 x3) (hsz : (n1 + n2 + n3) * 40 ≤ 140737488355328) :
    Calls Tryd.prog 62 #[.slice (some ⟨g, 0, none⟩) 3 3] w fun e w' => ∃ v, e = .returned v ∧ w'.ownsRow w.heap.size 50 3 v (n1 + n2 + n3) (x1 ++ x2 ++ x3) ∧ Below w.heap.size w w' := by
  obtain ⟨i0, hI, hz0, hz1, hz2⟩ := info_parts infoFi
  obtain ⟨n, hn⟩ : ∃ n, n1 + n2 + n3 = n := ⟨_, rfl⟩
  have N0 := Lib.hid (growF_any n w (by omega))
  have d0 := hB.cell (i := 0) rfl
  have d1 := hB.cell (i := 1) rfl
  have d2 := hB.cell (i := 2) rfl
  have q0 : ¬ ((n1 : Int) < 0) := by omega
  have q1 : (n1 : Int) + (n2 : Int) + (n3 : Int) = (n : Int) := by omega
  have q2 : ¬ ((n : Int) < 0) := by omega
  have q3 : ¬ ((n1 : Int) + (n2 : Int) < 0) := by omega
  have H1 := Lib.hid h1; have H2 := Lib.hid h2; have H3 := Lib.hid h3
  have L1 := Lib.hid l1; have L2 := Lib.hid l2; have L3 := Lib.hid l3
  have D0 := Lib.hid d0; have D1 := Lib.hid d1; have D2 := Lib.hid d2
  clear hB h1 h2 h3 hn l1 l2 l3
  go_enter Tryd.func62, Tryd.ntmps62
  go_wp2_with fail
  refine wp_loop_rounds 4 ?_
  rw [rounds_succ]
  go_wp2
  rw [rounds_succ]
  go_wp2
  rw [rounds_succ]
  go_wp2
  rw [rounds_succ]
  go_wp2_with fail
  refine N0.out.mono ?_
  rintro e w1 ⟨v, rfl, ho, b1⟩
  have e0 := cell_later b1 D0.out
  have HO := Lib.hid ho
  have hz := b1.size
  clear ho d0 d1 d2
  go_wp2_with fail
  refine wp_loop_rounds 4 ?_
  rw [rounds_succ]
  go_wp2_with (at_builtin; refine wpList_append_lies _ rfl _ _ 22 rfl w.heap.size 50 i0 (.agg #[.int .i64 0, .slice none 0 0, .int .i64 0]) 3 40 Tryd.underlying22 hI hz0 hz1 hz2 rfl (by decide) _ 0 [] rfl HO.out A1 n1 c1 a1 x1 rfl L1.out (H1.out.later b1) o1 (by unfold maxLen; omega) (by omega) hz ?_)
  intro v2 w2 ho2 hg2 _
  have b2 : Below w.heap.size w w2 := b1.grown hg2 hz (fun k hk => own_ge HO.out _ hk)
  have HO2 := Lib.hid ho2
  have e1 := cell_later b2 D1.out
  have hz2' := b2.size
  clear ho2 hg2 e0
  go_wp2_with fail
  rw [rounds_succ]
  go_wp2_with (at_builtin; refine wpList_append_lies _ rfl _ _ 22 rfl w.heap.size 50 i0 (.agg #[.int .i64 0, .slice none 0 0, .int .i64 0]) 3 40 Tryd.underlying22 hI hz0 hz1 hz2 rfl (by decide) _ n1 x1 rfl HO2.out A2 n2 c2 a2 x2 rfl L2.out (H2.out.later b2) o2 (by unfold maxLen; omega) (by omega) hz2' ?_)
  intro v3 w3 ho3 hg3 _
  have b3 : Below w.heap.size w w3 := b2.grown hg3 hz2' (fun k hk => own_ge HO2.out _ hk)
  have HO3 := Lib.hid ho3
  have e2 := cell_later b3 D2.out
  have hz3' := b3.size
  clear ho3 hg3 e1
  go_wp2_with fail
  rw [rounds_succ]
  go_wp2_with (at_builtin; refine wpList_append_lies _ rfl _ _ 22 rfl w.heap.size 50 i0 (.agg #[.int .i64 0, .slice none 0 0, .int .i64 0]) 3 40 Tryd.underlying22 hI hz0 hz1 hz2 rfl (by decide) _ (n1 + n2) (x1 ++ x2) rfl HO3.out A3 n3 c3 a3 x3 rfl L3.out (H3.out.later b3) o3 (by unfold maxLen; omega) (by omega) hz3' ?_)
  intro v4 w4 ho4 hg4 _
  have b4 : Below w.heap.size w w4 := b3.grown hg4 hz3' (fun k hk => own_ge HO3.out _ hk)
  have HO4 := Lib.hid ho4
  clear ho4 hg4 e2
  go_wp2_with fail
  rw [rounds_succ]
  go_wp2
  go_ret
  exact ⟨v4, rfl, by rw [List.append_assoc]; exact HO4.out, b4⟩

end Go.Proofs.YtkhggofcbdcliaaDoor
namespace Go.Proofs.YtkhggofcbdcliaaDoor
open Go.RowKit

set_option maxRecDepth 100000 in
set_option maxHeartbeats 1600000 in
theorem dsync_any (room : Int) (A : Option Addr) (c : Nat) (L : List Fc) (w : World) (h : OneD w A c L) :
    Calls Tryd.prog 39 #[.agg #[.int .i64 room, .slice A L.length c]] w (GivesDE (Dk.synR room (L.map Fc.fi)) w) := by
  have bn := below_new (below_new (Below.refl w.heap.size w) (.cells #[.int .i64 room, .slice A L.length c] 24)) (.cells #[.int .i64 0, .slice none 0 0] 24)
  have N := Lib.hid (dformed_any room A c L _ (h.later bn))
  have B1 := Lib.hid (Blk.new (w.alloc (.cells #[.int .i64 room, .slice A L.length c] 24)) 24 #[.int .i64 0, .slice none 0 0])
  have B0 := Lib.hid ((Blk.new w 24 #[.int .i64 room, .slice A L.length c]).alloc (.cells #[.int .i64 0, .slice none 0 0] 24))
  have HD := Lib.hid h
  clear h
  cases hq : Dk.fmd room (L.map Fc.fi) with
  | false =>
    have hR : Dk.synR room (L.map Fc.fi) = (0, [], 1) := by unfold Dk.synR; rw [if_neg (by rw [hq]; exact Bool.false_ne_true)]
    rw [hR]
    rw [hq] at N
    clear hq hR HD
    go_enter Tryd.func39, Tryd.ntmps39
    go_wp2_with fail
    refine N.out.mono ?_
    rintro e w1 ⟨rfl, b1⟩
    have z := (B1.out.later b1)
    have z' : Blk w1 (w.heap.size + 1) 24 #[.int .i64 0, .slice none 0 0] := by simpa using z
    have y0 := z'.cell (i := 0) rfl
    have y1 := z'.cell (i := 1) rfl
    have s0 := z'.free 0
    have s1 := z'.free 1
    have hz := (z'.put 0 (.int .i64 0)).put 1 (.slice none 0 0)
    have z0 := Lib.hid (hz.cell (i := 0) rfl)
    have z1 := Lib.hid (hz.cell (i := 1) rfl)
    have FIN := Lib.hid (GivesDE.err 1 (((below_on bn b1).setCell (p := ⟨w.heap.size + 1, 0, none⟩) (by show w.heap.size ≤ w.heap.size + 1; omega) (.int .i64 0)).setCell (p := ⟨w.heap.size + 1, 1, none⟩) (by show w.heap.size ≤ w.heap.size + 1; omega) (.slice none 0 0)))
    clear z z' hz
    go_wp2
    have z0 := z0.out
    have z1 := z1.out
    exact bodyPost_ret (v := .tuple #[.agg #[.int .i64 0, .slice none 0 0], .int .i64 1]) (by simp [results, Tryd.results39, go_sem, z0, z1]) rfl FIN.out
  | true =>
    have hR : Dk.synR room (L.map Fc.fi) = (room, (L.map Fc.fi).map Dk.syn1, 0) := by unfold Dk.synR; rw [if_pos hq]
    rw [hR]
    rw [hq] at N
    have HF := Lib.hid (Dk.fit hq)
    clear hq hR
    go_enter Tryd.func39, Tryd.ntmps39
    go_wp2_with fail
    refine N.out.mono ?_
    rintro e w1 ⟨rfl, b1⟩
    have bb := below_on bn b1
    have c0 := (B0.out.later b1).cell (i := 0) rfl
    have c1 := (B0.out.later b1).cell (i := 1) rfl
    have N2 := Lib.hid (changed_any room A c L 57 #[] (fun _ _ => rfl) (JB w1.heap.size w1 (L.map Fc.fi) Dk.syn1) w1 (HD.out.later bb) HF.out (JB.start _ _ _ _) (fun d W W' => JB.stab d W W') (syncChg _ _ _ _))
    have z' : Blk w1 (w.heap.size + 1) 24 #[.int .i64 0, .slice none 0 0] := by simpa using B1.out.later b1
    have hs1 := b1.size
    have Z := Lib.hid z'
    clear z'
    go_wp2_with fail
    refine N2.out.mono ?_
    rintro e w2 ⟨v, L2, rfl, hO, hl, hJ⟩
    have b2 := hJ.1
    have hfi := hJ.done (by simp [hl])
    obtain ⟨V, cv, rfl, -, -, -, -⟩ := own_form hO.row
    have z' := Z.out.later b2
    have y0 := z'.cell (i := 0) rfl
    have y1 := z'.cell (i := 1) rfl
    have s0 := z'.free 0
    have s1 := z'.free 1
    have hz := (z'.put 0 (.int .i64 room)).put 1 (.slice V L2.length cv)
    have z0 := Lib.hid (hz.cell (i := 0) rfl)
    have z1 := Lib.hid (hz.cell (i := 1) rfl)
    have hlt := Z.out.lt
    have hO2 := ((hO.low (p := ⟨w.heap.size + 1, 0, none⟩) hlt (.int .i64 room)).low (p := ⟨w.heap.size + 1, 1, none⟩) hlt (.slice V L2.length cv)).lower (base' := w.heap.size) (by omega)
    have hbz := ((below_on bb b2).setCell (p := ⟨w.heap.size + 1, 0, none⟩) (by show w.heap.size ≤ w.heap.size + 1; omega) (.int .i64 room)).setCell (p := ⟨w.heap.size + 1, 1, none⟩) (by show w.heap.size ≤ w.heap.size + 1; omega) (.slice V L2.length cv)
    have FIN := Lib.hid (show GivesDE (room, (L.map Fc.fi).map Dk.syn1, 0) w (.returned (.tuple #[.agg #[.int .i64 room, .slice V L2.length cv], .int .i64 0])) _ from ⟨_, L2, rfl, hO2, hfi, hbz⟩)
    clear hO hl hJ hfi z' hz hO2 hbz b2
    go_wp2
    have z0 := z0.out
    have z1 := z1.out
    exact bodyPost_ret (v := .tuple #[.agg #[.int .i64 room, .slice V L2.length cv], .int .i64 0]) (by simp [results, Tryd.results39, go_sem, z0, z1]) rfl FIN.out
end Go.Proofs.YtkhggofcbdcliaaDoor
