/-
  What frame's Cut, and telltaleref07's Cut and Lists, answer.
-/
import Derived.Test.YtobgbaejdamecaaDoorFrRefOpen
import Derived.Lib.QuietBelow
namespace Go.Proofs.YtobgbaejdamecaaDoor
open Go.RowKit

theorem infoSl : (Tryd.prog.info? 22).map (fun i => (i.zero, i.size, i.bytes)) = some (some (.slice none 0 0), 1, 24) := by kernel_rfl
theorem Fr.opn_bounds {l : List Int} (h : (Fr.opn l).2.2 = 0) : ∃ n : Nat, (Fr.opn l).2.1 = (n : Int) ∧ 8 ≤ n ∧ n ≤ l.length := by
  obtain ⟨-, -, h3, h4, -⟩ := Fr.opn_ok h
  rw [h3]
  exact ⟨_, rfl, by omega, h4⟩
theorem Fr.opn_byte {l p : List Int} {a : Nat} {k e : Int} (hb : ∀ x ∈ l, isB x) (h : Fr.opn (l.drop a) = (p, k, e)) : ∀ x ∈ p, isB x := by
  intro x hx
  by_cases he : (Fr.opn (l.drop a)).2.2 = 0
  · obtain ⟨-, -, h3, -, -⟩ := Fr.opn_ok he
    rw [h] at h3
    cases h3
    exact hb x (List.mem_of_mem_drop (List.mem_of_mem_take (List.mem_of_mem_drop hx)))
  · have h1 := (Fr.opn_err he).1
    rw [h] at h1
    simp only at h1
    subst h1
    cases hx
theorem dopen2_any (A : Option Addr) (c : Nat) (l : List Int) (w : World) {n : Nat} (hn : l.length = n) (h : OneB w A c l) (hH : Halves w) : Calls Tryd.prog 16 #[.slice A n c] w (GivesO (Fr.opn l) w) := by
  subst hn
  exact dopen_any A c l w h hH
theorem ropen2_any (A : Option Addr) (c : Nat) (l : List Int) (w : World) {n : Nat} (hn : l.length = n) (h : OneB w A c l) : Calls Tryd.prog 17 #[.slice A n c] w (GivesO (Fr.opn l) w) := by
  subst hn
  exact ropen_any A c l w h
theorem sliCells_snoc : ∀ (cs : List (Option Addr × Nat)) (ls : List (List Int)) (x : Option Addr × Nat) (p : List Int), cs.length = ls.length → sliCells (cs ++ [x]) (ls ++ [p]) = sliCells cs ls ++ [.slice x.1 p.length x.2]
  | [], [], _, _, _ => rfl
  | [], _ :: _, _, _, h => by simp at h
  | _ :: _, [], _, _, h => by simp at h
  | c :: cs, l :: ls, x, p, h => by
    simp only [List.cons_append, sliCells]
    rw [sliCells_snoc cs ls x p (by simpa using h)]
/-- A list of lists of bytes in memory of the call's own. -/
structure OwnRows (w : World) (base : Nat) (v : Value) (cs : List (Option Addr × Nat)) (ls : List (List Int)) : Prop where
  row : w.ownsRow base 22 1 v ls.length (sliCells cs ls)
  lens : cs.length = ls.length
  each : ∀ k, k < ls.length → w.ownsRow base 5 1 (.slice (cs.getD k (none, 0)).1 (ls.getD k []).length (cs.getD k (none, 0)).2) (ls.getD k []).length (bCells (ls.getD k []))
  byte : ∀ l ∈ ls, ∀ x ∈ l, isB x
theorem OwnRows.nil (w : World) (base : Nat) : OwnRows w base (.slice none 0 0) [] [] := ⟨⟨rfl, .inl ⟨rfl, rfl⟩⟩, rfl, (fun k hk => by cases hk), (fun _ h => by cases h)⟩
theorem OwnRows.later {w w' : World} {base : Nat} {v : Value} {cs : List (Option Addr × Nat)} {ls : List (List Int)} (h : OwnRows w base v cs ls) (hb : Below w.heap.size w w') : OwnRows w' base v cs ls := ⟨own_later h.row hb, h.lens, fun k hk => own_later (h.each k hk) hb, h.byte⟩
theorem OwnRows.snoc {w w2 : World} {base : Nat} {v v2 : Value} {cs : List (Option Addr × Nat)} {ls : List (List Int)} (h : OwnRows w base v cs ls) {X : Option Addr} {cx : Nat} {p : List Int} (ho : w.ownsRow base 5 1 (.slice X p.length cx) p.length (bCells p)) (hp : ∀ x ∈ p, isB x) {ob : Obj} (hg : (w.alloc ob).grownBy w2 v.ownBlock)
    (h2 : w2.ownsRow base 22 1 v2 (ls.length + 1) (sliCells cs ls ++ [.slice X p.length cx])) : OwnRows w2 base v2 (cs ++ [(X, cx)]) (ls ++ [p]) := by
  have keep : ∀ {u : Value} {n : Nat} {xs : List Value}, w.ownsRow base 5 1 u n xs → w2.ownsRow base 5 1 u n xs := fun {u n xs} hu => by
    have hu' := hu.alloc ob
    exact own_stays hu' (fun k hk => hg.block k (own_lt hu' k hk) (own_apart hu' (h.row.alloc ob) (by decide) k hk))
  refine ⟨by rw [sliCells_snoc cs ls (X, cx) p h.lens, List.length_append, List.length_singleton]; exact h2, by simp [h.lens], fun k hk => ?_, fun l hl => ?_⟩
  · rw [List.length_append, List.length_singleton] at hk
    by_cases e : k < ls.length
    · have e1 : (cs ++ [(X, cx)]).getD k (none, 0) = cs.getD k (none, 0) := by rw [List.getD_eq_getElem?_getD, List.getD_eq_getElem?_getD, List.getElem?_append_left (by rw [h.lens]; exact e)]
      have e2 : (ls ++ [p]).getD k [] = ls.getD k [] := by rw [List.getD_eq_getElem?_getD, List.getD_eq_getElem?_getD, List.getElem?_append_left e]
      rw [e1, e2]
      exact keep (h.each k e)
    · have ek : k = ls.length := by omega
      subst ek
      have e1 : (cs ++ [(X, cx)]).getD ls.length (none, 0) = (X, cx) := by rw [List.getD_eq_getElem?_getD, ← h.lens, List.getElem?_concat_length]; rfl
      have e2 : (ls ++ [p]).getD ls.length [] = p := by rw [List.getD_eq_getElem?_getD, List.getElem?_concat_length]; rfl
      rw [e1, e2]
      exact keep ho
  · rcases List.mem_append.1 hl with k | k
    · exact h.byte l k
    · simp at k
      subst k
      exact hp
/-- A list of lists of bytes by value. -/
structure RowB (w : World) (A : Option Addr) (c : Nat) (ls : List (List Int)) : Prop where
  le : ls.length ≤ c
  cap : c ≤ maxLen
  noA : A = none → ls.length = 0 ∧ c = 0
  lies : ls ≠ [] → ∃ b off, A = some ⟨b, off, none⟩ ∧ ∀ k, k < ls.length → ∃ X cx, w.cell? ⟨b, off + k, none⟩ = some (.slice X (ls.getD k []).length cx) ∧ OneB w X cx (ls.getD k [])
theorem RowB.later {w w' : World} {A : Option Addr} {c : Nat} {ls : List (List Int)} (h : RowB w A c ls) (hb : Below w.heap.size w w') : RowB w' A c ls := by
  refine ⟨h.le, h.cap, h.noA, fun hne => ?_⟩
  obtain ⟨b, off, hA, hc⟩ := h.lies hne
  refine ⟨b, off, hA, fun k hk => ?_⟩
  obtain ⟨X, cx, h1, h2⟩ := hc k hk
  exact ⟨X, cx, cell_later hb h1, h2.later hb⟩
theorem RowB.len {w : World} {A : Option Addr} {c : Nat} {ls : List (List Int)} (h : RowB w A c ls) : ls.length ≤ 9223372036854775807 := by
  have h1 := h.le
  have h2 := h.cap
  unfold maxLen at h2
  omega
theorem one_own {w : World} {base : Nat} {X : Option Addr} {cx : Nat} {p : List Int} (h : w.ownsRow base 5 1 (.slice X p.length cx) p.length (bCells p)) (hp : ∀ x ∈ p, isB x) : OneB w X cx p := by
  obtain ⟨A, c, hv, ho⟩ := OneB.of_own h hp
  cases hv
  exact ho
theorem OwnRows.one {w : World} {base : Nat} {v : Value} {cs : List (Option Addr × Nat)} {ls : List (List Int)} (h : OwnRows w base v cs ls) : ∃ A c, v = .slice A ls.length c ∧ RowB w A c ls := by
  obtain ⟨A, c, h1, h2, h3, h4, h5⟩ := own_form h.row
  refine ⟨A, c, h1, ⟨h2, h3, h4, fun hne => ?_⟩⟩
  have hne2 : sliCells cs ls ≠ [] := fun e => by
    have h0 : 0 < ls.length := List.length_pos_iff.2 hne
    have := sliCells_get cs ls 0 (by rw [h.lens]; exact h0) h0
    rw [e] at this
    cases this
  obtain ⟨b, off, hA, hc⟩ := h5 hne2
  refine ⟨b, off, hA, fun k hk => ⟨_, _, hc k _ (sliCells_get cs ls k (by rw [h.lens]; exact hk) hk), ?_⟩⟩
  have hm : ls.getD k [] ∈ ls := by rw [List.getD_eq_getElem?_getD, List.getElem?_eq_getElem hk]; exact List.getElem_mem hk
  exact one_own (h.each k hk) (h.byte _ hm)
/-- What Cut answers. -/
def CutB (l : List Int) (w : World) (e : Ending) (w' : World) : Prop :=
  ∃ v cs acc at_ k, e = .returned (.tuple #[v, .int .i64 ((at_ : Nat) : Int)]) ∧ OwnRows w' w.heap.size v cs acc ∧ Fr.it l k = (at_, acc) ∧ Fr.Stop l k ∧ Below w.heap.size w w'
theorem lists_ext {l r : List (List Int)} (h : l.length = r.length) (hk : ∀ k, k < l.length → l.getD k [] = r.getD k []) : l = r := by
  apply List.ext_getElem h
  intro i h1 h2
  have := hk i h1
  rw [List.getD_eq_getElem?_getD, List.getD_eq_getElem?_getD, List.getElem?_eq_getElem h1, List.getElem?_eq_getElem h2] at this
  simpa using this

set_option maxRecDepth 100000 in
set_option maxHeartbeats 3200000 in
theorem rlists_any (A B : Option Addr) (c1 c2 : Nat) (l r : List (List Int)) (w : World) (h1 : RowB w A c1 l) (h2 : RowB w B c2 r) :
    Calls Tryd.prog 22 #[.slice A l.length c1, .slice B r.length c2] w (Says (.bool (decide (l = r))) w) := by
  have hl := h1.len
  have H1 := Lib.hid h1
  have H2 := Lib.hid h2
  clear h1 h2
  by_cases hlen : l.length = r.length
  · have hd0 : ((l.length : Int) != (r.length : Int)) = false := by rw [bne_eq_false_iff_eq]; omega
    have HLEN := Lib.hid hlen
    have hr1 : r.length ≤ l.length := by omega
    have hr2 : l.length ≤ r.length := by omega
    clear hlen
    go_enter Tryd.func22, Tryd.ntmps22
    go_wp2_with fail
    go_loopw [5] (fun s5 wr => ∃ k : Nat, k ≤ l.length ∧ s5 = .int .i64 (k : Int) ∧ (∀ j, j < k → l.getD j [] = r.getD j []) ∧ Below w.heap.size w wr) (fun s5 _ => l.length - (intOf s5).toNat)
    case atStart => exact ⟨0, Nat.zero_le _, rfl, fun j hj => by omega, Below.refl _ _⟩
    case round =>
      obtain ⟨k, hk, rfl, heq, hbw⟩ := hrel
      have HEQ := Lib.hid heq
      clear heq
      by_cases hlt : k < l.length
      · have hne : l ≠ [] := fun e => by subst e; simp at hlt
        have hne2 : r ≠ [] := fun e => by have := HLEN.out; subst e; simp at this; exact hne this
        obtain ⟨b, off, hA, hcA⟩ := (H1.out.later hbw).lies hne
        obtain ⟨b', off', hB, hcB⟩ := (H2.out.later hbw).lies hne2
        obtain ⟨X, cx, e0, hX⟩ := hcA k hlt
        obtain ⟨Y, cy, f0, hY⟩ := hcB k (by omega)
        subst hA hB
        obtain ⟨x, hx⟩ : ∃ x, l.getD k [] = x := ⟨_, rfl⟩
        obtain ⟨y, hy⟩ : ∃ y, r.getD k [] = y := ⟨_, rfl⟩
        rw [hx] at e0 hX
        rw [hy] at f0 hY
        have hi0 : (0 : Int) ≤ (k : Int) := by omega
        have hi1 : (k : Int) < (l.length : Int) := by omega
        have hi2 : (k : Int) < (r.length : Int) := by omega
        have k0 := fun d os => cell_regrown (d := d) (os := os) e0
        have j0 := fun d os => cell_regrown (d := d) (os := os) f0
        have CN := Lib.hid (fun d os => Calls.regrown_of (bsame_any X Y cx cy x y (Sort.grow (redrawn wr d) os) (hX.later (below_regrown wr d os)) (hY.later (below_regrown wr d os))))
        have HX := Lib.hid hx
        have HY := Lib.hid hy
        obtain ⟨sm, hsm⟩ : ∃ sm, decide (x = y) = sm := ⟨_, rfl⟩
        rw [hsm] at CN
        have HSM := Lib.hid hsm
        clear hx hy hcA hcB e0 f0 hX hY hsm hne hne2
        go_wp2_with fail
        refine wp_region_quiet_below (by kernel_rfl) (by kernel_rfl) ?_
        repeat (first | go_big_quiet_step (exact CN.out _ _) | quiet_step (exact CN.out _ _))
        refine wpQuiet_nil ?_
        intro _ hw'
        obtain ⟨⟨dq, osq⟩, hw''⟩ := hw'
        subst hw''
        have bq := below_regrown wr dq osq
        cases sm with
        | true =>
          have HXY := Lib.hid (of_decide_eq_true HSM.out)
          go_wp2_with fail
          go_roundw
          case rel =>
            refine ⟨k + 1, by omega, by first | rfl | go_num | (congr 1; omega), ?_, below_on hbw bq⟩
            intro j hj
            by_cases e : j = k
            · subst e; rw [HX.out, HY.out, HXY.out]
            · exact HEQ.out j (by omega)
          case measure => simp [intOf]; omega
        | false =>
          have hno : decide (l = r) = false := decide_eq_false (fun e => by
            have h2 : x = y := by rw [← HX.out, ← HY.out, e]
            exact of_decide_eq_false HSM.out h2)
          have HNO := Lib.hid hno
          clear hno
          go_wp2
          go_ret
          exact ⟨by rw [HNO.out]; rfl, below_on hbw bq⟩
      · have hyes : decide (l = r) = true := decide_eq_true (lists_ext HLEN.out (fun j hj => HEQ.out j (by omega)))
        have HY := Lib.hid hyes
        clear hyes
        go_wp2
        go_ret
        exact ⟨by rw [HY.out]; rfl, hbw⟩
  · have hd0 : ((l.length : Int) != (r.length : Int)) = true := by rw [bne_iff_ne]; omega
    have HNO := Lib.hid (show decide (l = r) = false from decide_eq_false (fun e => hlen (by rw [e])))
    go_enter Tryd.func22, Tryd.ntmps22
    go_wp2
    go_ret
    exact ⟨by rw [HNO.out]; rfl, Below.refl _ _⟩

set_option maxRecDepth 100000 in
set_option maxHeartbeats 12800000 in
theorem dcut_any (A : Option Addr) (c : Nat) (l : List Int) (w : World) (hl : l.length ≤ 8388608) (h : OneB w A c l) (hH : Halves w) :
    Calls Tryd.prog 20 #[.slice A l.length c] w (CutB l w) := by
  obtain ⟨i0, hi, hz0, hz1, hz2⟩ := info_parts infoSl
  have hle := h.le
  have hcap := h.cap
  unfold maxLen at hcap
  have HB := Lib.hid h; have HH := Lib.hid hH
  clear h hH
  go_enter Tryd.func20, Tryd.ntmps20
  go_wp2_with fail
  go_loopw [2, 3, 4, 5, 6] (fun s2 s3 _ _ _ wr => ∃ (k at_ : Nat) (acc : List (List Int)) (cs : List (Option Addr × Nat)), s3 = .int .i64 (at_ : Int) ∧ at_ ≤ l.length ∧ acc.length * 8 ≤ at_ ∧ OwnRows wr w.heap.size s2 cs acc ∧ Fr.it l k = (at_, acc) ∧ Below w.heap.size w wr) (fun _ s3 _ _ _ _ => l.length - (intOf s3).toNat)
  case atStart => exact ⟨0, 0, [], [], rfl, Nat.zero_le _, Nat.zero_le _, OwnRows.nil _ _, rfl, Below.refl _ _⟩
  case round =>
    obtain ⟨k, at_, acc, cs, rfl, hat, hac, hown, hit, hbw⟩ := hrel
    have HOW := Lib.hid hown; have HIT := Lib.hid hit; have HBW := Lib.hid hbw
    clear hown hit hbw
    cases A with
    | none =>
      obtain ⟨hl0, hc0⟩ := HB.out.noA rfl
      obtain rfl : l = [] := List.eq_nil_of_length_eq_zero hl0
      subst hc0
      obtain rfl : at_ = 0 := by simpa using hat
      clear hl0
      obtain ⟨r, hr⟩ : ∃ r, Fr.opn (([] : List Int).drop 0) = r := ⟨_, rfl⟩
      have CO := Lib.hid (show Calls Tryd.prog 16 #[.slice none 0 0] wr (GivesO r wr) from by rw [← hr]; exact dopen2_any none 0 ([] : List Int) wr (rfl) (OneB.nil wr) (HH.out.later HBW.out))
      have HR := Lib.hid hr
      have hbb := fun h => Fr.opn_bounds (l := ([] : List Int).drop 0) h
      rw [hr] at hbb
      have hbd : r.2.2 = 0 → ∃ n : Nat, r.2.1 = (n : Int) ∧ 8 ≤ n ∧ 0 + n ≤ ([] : List Int).length := fun h => by
        obtain ⟨n, h1, h2, h3⟩ := hbb h
        rw [List.length_drop] at h3
        exact ⟨n, h1, h2, by omega⟩
      clear hr hbb
      by_cases he : r.2.2 = 0
      · obtain ⟨n, hn, hn8, hnl⟩ := hbd he
        exfalso
        first | omega | (simp at hnl; omega)
      · have hd : (r.2.2 != 0) = true := bne_iff_ne.2 he
        have hst : Fr.Stop ([] : List Int) k := by
          unfold Fr.Stop
          rw [HIT.out]
          dsimp only
          rw [HR.out]
          exact he
        obtain ⟨p, k1, er⟩ := r
        simp only at hd
        have HST := Lib.hid hst
        clear he hst hbd
        go_wp2_with fail
        refine CO.out.mono ?_
        rintro e w1 ⟨v, rfl, ho, b1⟩
        have FIN := Lib.hid (fun (x : Value) (hx : OwnRows wr w.heap.size x cs acc) => (show CutB ([] : List Int) w (.returned (.tuple #[x, .int .i64 ((0 : Nat) : Int)])) w1 from ⟨_, cs, acc, 0, k, rfl, hx.later b1, HIT.out, HST.out, below_on HBW.out b1⟩))
        clear ho b1
        go_wp2
        go_ret2
        exact FIN.out _ HOW.out
    | some ad =>
      by_cases hca : c = at_
      · have hla : l.length ≤ at_ := by omega
        have hdr : l.drop at_ = [] := List.drop_of_length_le hla
        have HDR := Lib.hid hdr
        subst hca
        clear hdr
        obtain ⟨r, hr⟩ : ∃ r, Fr.opn (l.drop c) = r := ⟨_, rfl⟩
        have CO := Lib.hid (show Calls Tryd.prog 16 #[.slice (some ad) 0 0] wr (GivesO r wr) from by rw [← hr]; exact (by rw [HDR.out]; exact dopen2_any (some ad) 0 ([] : List Int) wr (rfl) ⟨Nat.le_refl _, Nat.zero_le _, (fun h => by cases h), fun h => absurd rfl h, fun x hx => by cases hx⟩ (HH.out.later HBW.out)))
        have HR := Lib.hid hr
        have hbb := fun h => Fr.opn_bounds (l := l.drop c) h
        rw [hr] at hbb
        have hbd : r.2.2 = 0 → ∃ n : Nat, r.2.1 = (n : Int) ∧ 8 ≤ n ∧ c + n ≤ l.length := fun h => by
          obtain ⟨n, h1, h2, h3⟩ := hbb h
          rw [List.length_drop] at h3
          exact ⟨n, h1, h2, by omega⟩
        clear hr hbb
        by_cases he : r.2.2 = 0
        · obtain ⟨n, hn, hn8, hnl⟩ := hbd he
          exfalso
          first | omega | (simp at hnl; omega)
        · have hd : (r.2.2 != 0) = true := bne_iff_ne.2 he
          have hst : Fr.Stop l k := by
            unfold Fr.Stop
            rw [HIT.out]
            dsimp only
            rw [HR.out]
            exact he
          obtain ⟨p, k1, er⟩ := r
          simp only at hd
          have HST := Lib.hid hst
          clear he hst hbd
          go_wp2_with fail
          refine CO.out.mono ?_
          rintro e w1 ⟨v, rfl, ho, b1⟩
          have FIN := Lib.hid (fun (x : Value) (hx : OwnRows wr w.heap.size x cs acc) => (show CutB l w (.returned (.tuple #[x, .int .i64 ((c : Nat) : Int)])) w1 from ⟨_, cs, acc, c, k, rfl, hx.later b1, HIT.out, HST.out, below_on HBW.out b1⟩))
          clear ho b1
          go_wp2
          go_ret2
          exact FIN.out _ HOW.out
      · have hlt : at_ < c := by omega
        clear hca
        obtain ⟨r, hr⟩ : ∃ r, Fr.opn (l.drop at_) = r := ⟨_, rfl⟩
        have CO := Lib.hid (show Calls Tryd.prog 16 #[.slice (some (ad.add at_)) (l.length - at_) (c - at_)] wr (GivesO r wr) from by rw [← hr]; exact dopen2_any (some (ad.add at_)) (c - at_) (l.drop at_) wr (by rw [List.length_drop]) ((HB.out.later HBW.out).rest hat) (HH.out.later HBW.out))
        have HR := Lib.hid hr
        have hbb := fun h => Fr.opn_bounds (l := l.drop at_) h
        rw [hr] at hbb
        have hbd : r.2.2 = 0 → ∃ n : Nat, r.2.1 = (n : Int) ∧ 8 ≤ n ∧ at_ + n ≤ l.length := fun h => by
          obtain ⟨n, h1, h2, h3⟩ := hbb h
          rw [List.length_drop] at h3
          exact ⟨n, h1, h2, by omega⟩
        clear hr hbb
        by_cases he : r.2.2 = 0
        · obtain ⟨n, hn, hn8, hnl⟩ := hbd he
          obtain ⟨p, k1, er⟩ := r
          simp only at he hn
          subst he hn
          have HNL := Lib.hid hnl
          have hsz0 := HBW.out.size
          have hal2 : acc.length + 1 ≤ 1048577 := by omega
          clear hbd
          go_wp2_with fail
          refine CO.out.mono ?_
          rintro e w1 ⟨v, rfl, ho, b1⟩
          have hopb : ∀ x ∈ p, isB x := Fr.opn_byte HB.out.byte HR.out
          have ho' : w1.ownsRow w.heap.size 5 1 v p.length (bCells p) := own_base ho (show w.heap.size ≤ wr.heap.size from hsz0)
          obtain ⟨X, cx, hv, -⟩ := own_form ho'
          rw [hv] at ho'
          subst hv
          have hrows := HOW.out.later b1
          have hb1 := below_on HBW.out b1
          have hsz1 := hb1.size
          have HO := Lib.hid ho'; have HRW := Lib.hid hrows; have HB1 := Lib.hid hb1; have HPB := Lib.hid hopb
          clear ho ho' hrows hopb b1 hb1
          go_wp2_with (at_builtin; refine wpList_append_lies _ rfl _ _ 34 rfl w.heap.size 22 i0 (.slice none 0 0) 1 24 Tryd.underlying34 hi hz0 hz1 hz2 rfl (by decide) _ acc.length (sliCells cs acc) rfl (HRW.out.row.alloc _) (some ⟨w1.heap.size, 0, none⟩) 1 1 (fun h => by cases h) [.slice X p.length cx] rfl rfl (fun _ => ⟨w1.heap.size, 0, rfl, fun j u hu => by rw [Nat.zero_add]; exact (Blk.new w1 22 #[.slice X p.length cx]).cell (by simpa using hu)⟩) (by intro u hu; simp at hu; subst hu; rfl) (by unfold maxLen; omega) (by omega) (by simp; omega) ?_)
          intro v2 w2 ho2 hg2 _
          have bn := below_new HB1.out (.cells #[.slice X p.length cx] 22)
          have b2 := bn.grown hg2 bn.size (fun k' hk' => own_ge (HRW.out.row.alloc (.cells #[.slice X p.length cx] 22)) k' hk')
          have rows2 := HRW.out.snoc HO.out HPB.out hg2 ho2
          have hstp : Fr.it l (k + 1) = (at_ + n, acc ++ [p]) := by
            show Fr.stp l (Fr.it l k) = _
            rw [HIT.out]
            unfold Fr.stp
            dsimp only
            rw [HR.out, if_pos rfl]
            rfl
          have hfin : (acc ++ [p]).length * 8 ≤ at_ + n := by
            rw [List.length_append, List.length_singleton]
            omega
          have R2 := Lib.hid rows2; have B2 := Lib.hid b2; have HS := Lib.hid hstp; have HFI := Lib.hid hfin
          clear ho2 hg2 b2 rows2 hstp bn hfin
          go_wp2_with fail
          go_roundw
          case rel => exact ⟨k + 1, at_ + n, acc ++ [p], cs ++ [(X, cx)], by first | rfl | (congr 1; omega), HNL.out, HFI.out, R2.out, HS.out, B2.out⟩
          case measure => simp [intOf]; omega
        · have hd : (r.2.2 != 0) = true := bne_iff_ne.2 he
          have hst : Fr.Stop l k := by
            unfold Fr.Stop
            rw [HIT.out]
            dsimp only
            rw [HR.out]
            exact he
          obtain ⟨p, k1, er⟩ := r
          simp only at hd
          have HST := Lib.hid hst
          clear he hst hbd
          go_wp2_with fail
          refine CO.out.mono ?_
          rintro e w1 ⟨v, rfl, ho, b1⟩
          have FIN := Lib.hid (fun (x : Value) (hx : OwnRows wr w.heap.size x cs acc) => (show CutB l w (.returned (.tuple #[x, .int .i64 ((at_ : Nat) : Int)])) w1 from ⟨_, cs, acc, at_, k, rfl, hx.later b1, HIT.out, HST.out, below_on HBW.out b1⟩))
          clear ho b1
          go_wp2
          go_ret2
          exact FIN.out _ HOW.out

set_option maxRecDepth 100000 in
set_option maxHeartbeats 12800000 in
theorem rcut_any (A : Option Addr) (c : Nat) (l : List Int) (w : World) (hl : l.length ≤ 8388608) (h : OneB w A c l) :
    Calls Tryd.prog 21 #[.slice A l.length c] w (CutB l w) := by
  obtain ⟨i0, hi, hz0, hz1, hz2⟩ := info_parts infoSl
  have hle := h.le
  have hcap := h.cap
  unfold maxLen at hcap
  have HB := Lib.hid h
  clear h
  go_enter Tryd.func21, Tryd.ntmps21
  go_wp2_with fail
  go_loopw [4, 5, 6, 7, 8] (fun s4 s5 _ _ _ wr => ∃ (k at_ : Nat) (acc : List (List Int)) (cs : List (Option Addr × Nat)), s5 = .int .i64 (at_ : Int) ∧ at_ ≤ l.length ∧ acc.length * 8 ≤ at_ ∧ OwnRows wr w.heap.size s4 cs acc ∧ Fr.it l k = (at_, acc) ∧ Below w.heap.size w wr) (fun _ s5 _ _ _ _ => l.length - (intOf s5).toNat)
  case atStart => exact ⟨0, 0, [], [], rfl, Nat.zero_le _, Nat.zero_le _, OwnRows.nil _ _, rfl, Below.refl _ _⟩
  case round =>
    obtain ⟨k, at_, acc, cs, rfl, hat, hac, hown, hit, hbw⟩ := hrel
    have HOW := Lib.hid hown; have HIT := Lib.hid hit; have HBW := Lib.hid hbw
    clear hown hit hbw
    cases A with
    | none =>
      obtain ⟨hl0, hc0⟩ := HB.out.noA rfl
      obtain rfl : l = [] := List.eq_nil_of_length_eq_zero hl0
      subst hc0
      obtain rfl : at_ = 0 := by simpa using hat
      clear hl0
      obtain ⟨r, hr⟩ : ∃ r, Fr.opn (([] : List Int).drop 0) = r := ⟨_, rfl⟩
      have CO := Lib.hid (show Calls Tryd.prog 17 #[.slice none 0 0] wr (GivesO r wr) from by rw [← hr]; exact ropen2_any none 0 ([] : List Int) wr (rfl) (OneB.nil wr))
      have HR := Lib.hid hr
      have hbb := fun h => Fr.opn_bounds (l := ([] : List Int).drop 0) h
      rw [hr] at hbb
      have hbd : r.2.2 = 0 → ∃ n : Nat, r.2.1 = (n : Int) ∧ 8 ≤ n ∧ 0 + n ≤ ([] : List Int).length := fun h => by
        obtain ⟨n, h1, h2, h3⟩ := hbb h
        rw [List.length_drop] at h3
        exact ⟨n, h1, h2, by omega⟩
      clear hr hbb
      by_cases he : r.2.2 = 0
      · obtain ⟨n, hn, hn8, hnl⟩ := hbd he
        exfalso
        first | omega | (simp at hnl; omega)
      · have hd : (r.2.2 != 0) = true := bne_iff_ne.2 he
        have hst : Fr.Stop ([] : List Int) k := by
          unfold Fr.Stop
          rw [HIT.out]
          dsimp only
          rw [HR.out]
          exact he
        obtain ⟨p, k1, er⟩ := r
        simp only at hd
        have HST := Lib.hid hst
        clear he hst hbd
        go_wp2_with fail
        refine CO.out.mono ?_
        rintro e w1 ⟨v, rfl, ho, b1⟩
        have FIN := Lib.hid (fun (x : Value) (hx : OwnRows wr w.heap.size x cs acc) => (show CutB ([] : List Int) w (.returned (.tuple #[x, .int .i64 ((0 : Nat) : Int)])) w1 from ⟨_, cs, acc, 0, k, rfl, hx.later b1, HIT.out, HST.out, below_on HBW.out b1⟩))
        clear ho b1
        go_wp2
        go_ret2
        exact FIN.out _ HOW.out
    | some ad =>
      by_cases hca : c = at_
      · have hla : l.length ≤ at_ := by omega
        have hdr : l.drop at_ = [] := List.drop_of_length_le hla
        have HDR := Lib.hid hdr
        subst hca
        clear hdr
        obtain ⟨r, hr⟩ : ∃ r, Fr.opn (l.drop c) = r := ⟨_, rfl⟩
        have CO := Lib.hid (show Calls Tryd.prog 17 #[.slice (some ad) 0 0] wr (GivesO r wr) from by rw [← hr]; exact (by rw [HDR.out]; exact ropen2_any (some ad) 0 ([] : List Int) wr (rfl) ⟨Nat.le_refl _, Nat.zero_le _, (fun h => by cases h), fun h => absurd rfl h, fun x hx => by cases hx⟩))
        have HR := Lib.hid hr
        have hbb := fun h => Fr.opn_bounds (l := l.drop c) h
        rw [hr] at hbb
        have hbd : r.2.2 = 0 → ∃ n : Nat, r.2.1 = (n : Int) ∧ 8 ≤ n ∧ c + n ≤ l.length := fun h => by
          obtain ⟨n, h1, h2, h3⟩ := hbb h
          rw [List.length_drop] at h3
          exact ⟨n, h1, h2, by omega⟩
        clear hr hbb
        by_cases he : r.2.2 = 0
        · obtain ⟨n, hn, hn8, hnl⟩ := hbd he
          exfalso
          first | omega | (simp at hnl; omega)
        · have hd : (r.2.2 != 0) = true := bne_iff_ne.2 he
          have hst : Fr.Stop l k := by
            unfold Fr.Stop
            rw [HIT.out]
            dsimp only
            rw [HR.out]
            exact he
          obtain ⟨p, k1, er⟩ := r
          simp only at hd
          have HST := Lib.hid hst
          clear he hst hbd
          go_wp2_with fail
          refine CO.out.mono ?_
          rintro e w1 ⟨v, rfl, ho, b1⟩
          have FIN := Lib.hid (fun (x : Value) (hx : OwnRows wr w.heap.size x cs acc) => (show CutB l w (.returned (.tuple #[x, .int .i64 ((c : Nat) : Int)])) w1 from ⟨_, cs, acc, c, k, rfl, hx.later b1, HIT.out, HST.out, below_on HBW.out b1⟩))
          clear ho b1
          go_wp2
          go_ret2
          exact FIN.out _ HOW.out
      · have hlt : at_ < c := by omega
        clear hca
        obtain ⟨r, hr⟩ : ∃ r, Fr.opn (l.drop at_) = r := ⟨_, rfl⟩
        have CO := Lib.hid (show Calls Tryd.prog 17 #[.slice (some (ad.add at_)) (l.length - at_) (c - at_)] wr (GivesO r wr) from by rw [← hr]; exact ropen2_any (some (ad.add at_)) (c - at_) (l.drop at_) wr (by rw [List.length_drop]) ((HB.out.later HBW.out).rest hat))
        have HR := Lib.hid hr
        have hbb := fun h => Fr.opn_bounds (l := l.drop at_) h
        rw [hr] at hbb
        have hbd : r.2.2 = 0 → ∃ n : Nat, r.2.1 = (n : Int) ∧ 8 ≤ n ∧ at_ + n ≤ l.length := fun h => by
          obtain ⟨n, h1, h2, h3⟩ := hbb h
          rw [List.length_drop] at h3
          exact ⟨n, h1, h2, by omega⟩
        clear hr hbb
        by_cases he : r.2.2 = 0
        · obtain ⟨n, hn, hn8, hnl⟩ := hbd he
          obtain ⟨p, k1, er⟩ := r
          simp only at he hn
          subst he hn
          have HNL := Lib.hid hnl
          have hsz0 := HBW.out.size
          have hal2 : acc.length + 1 ≤ 1048577 := by omega
          clear hbd
          go_wp2_with fail
          refine CO.out.mono ?_
          rintro e w1 ⟨v, rfl, ho, b1⟩
          have hopb : ∀ x ∈ p, isB x := Fr.opn_byte HB.out.byte HR.out
          have ho' : w1.ownsRow w.heap.size 5 1 v p.length (bCells p) := own_base ho (show w.heap.size ≤ wr.heap.size from hsz0)
          obtain ⟨X, cx, hv, -⟩ := own_form ho'
          rw [hv] at ho'
          subst hv
          have hrows := HOW.out.later b1
          have hb1 := below_on HBW.out b1
          have hsz1 := hb1.size
          have HO := Lib.hid ho'; have HRW := Lib.hid hrows; have HB1 := Lib.hid hb1; have HPB := Lib.hid hopb
          clear ho ho' hrows hopb b1 hb1
          go_wp2_with (at_builtin; refine wpList_append_lies _ rfl _ _ 34 rfl w.heap.size 22 i0 (.slice none 0 0) 1 24 Tryd.underlying34 hi hz0 hz1 hz2 rfl (by decide) _ acc.length (sliCells cs acc) rfl (HRW.out.row.alloc _) (some ⟨w1.heap.size, 0, none⟩) 1 1 (fun h => by cases h) [.slice X p.length cx] rfl rfl (fun _ => ⟨w1.heap.size, 0, rfl, fun j u hu => by rw [Nat.zero_add]; exact (Blk.new w1 22 #[.slice X p.length cx]).cell (by simpa using hu)⟩) (by intro u hu; simp at hu; subst hu; rfl) (by unfold maxLen; omega) (by omega) (by simp; omega) ?_)
          intro v2 w2 ho2 hg2 _
          have bn := below_new HB1.out (.cells #[.slice X p.length cx] 22)
          have b2 := bn.grown hg2 bn.size (fun k' hk' => own_ge (HRW.out.row.alloc (.cells #[.slice X p.length cx] 22)) k' hk')
          have rows2 := HRW.out.snoc HO.out HPB.out hg2 ho2
          have hstp : Fr.it l (k + 1) = (at_ + n, acc ++ [p]) := by
            show Fr.stp l (Fr.it l k) = _
            rw [HIT.out]
            unfold Fr.stp
            dsimp only
            rw [HR.out, if_pos rfl]
            rfl
          have hfin : (acc ++ [p]).length * 8 ≤ at_ + n := by
            rw [List.length_append, List.length_singleton]
            omega
          have R2 := Lib.hid rows2; have B2 := Lib.hid b2; have HS := Lib.hid hstp; have HFI := Lib.hid hfin
          clear ho2 hg2 b2 rows2 hstp bn hfin
          go_wp2_with fail
          go_roundw
          case rel => exact ⟨k + 1, at_ + n, acc ++ [p], cs ++ [(X, cx)], by first | rfl | (congr 1; omega), HNL.out, HFI.out, R2.out, HS.out, B2.out⟩
          case measure => simp [intOf]; omega
        · have hd : (r.2.2 != 0) = true := bne_iff_ne.2 he
          have hst : Fr.Stop l k := by
            unfold Fr.Stop
            rw [HIT.out]
            dsimp only
            rw [HR.out]
            exact he
          obtain ⟨p, k1, er⟩ := r
          simp only at hd
          have HST := Lib.hid hst
          clear he hst hbd
          go_wp2_with fail
          refine CO.out.mono ?_
          rintro e w1 ⟨v, rfl, ho, b1⟩
          have FIN := Lib.hid (fun (x : Value) (hx : OwnRows wr w.heap.size x cs acc) => (show CutB l w (.returned (.tuple #[x, .int .i64 ((at_ : Nat) : Int)])) w1 from ⟨_, cs, acc, at_, k, rfl, hx.later b1, HIT.out, HST.out, below_on HBW.out b1⟩))
          clear ho b1
          go_wp2
          go_ret2
          exact FIN.out _ HOW.out

end Go.Proofs.YtobgbaejdamecaaDoor
