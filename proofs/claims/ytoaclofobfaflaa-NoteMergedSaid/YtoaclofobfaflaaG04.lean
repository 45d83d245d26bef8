/-
  What telltaleref02's Join answers of any lists of stamps in memory.
  What telltaleref02's Two and With answer of any lists of stamps in memory.
  What telltaleref02's Meet answers of any lists of stamps in memory.
  Rows of the call's own through later calls, and a row of rows. Nothing of the program is imported.
-/
import Derived.Test.YtoaclofobfaflaaG03
namespace Go.Proofs.Ytoaclofobfaflaa
open Go.RowKit

set_option maxRecDepth 100000 in
set_option maxHeartbeats 1600000 in
theorem rjoin_any (A : Option Addr) (c1 : Nat) (ls : List (List (Int × Int))) (w : World) (hl : ls.length ≤ 9223372036854775807) (h1 : Rows w A ls) :
    Calls Try.prog 66 #[.slice A ls.length c1] w (Gives (Ve.joinL ls) w) := by
  have hls := h1.len
  have H1 := Lib.hid h1
  clear h1
  go_enter Try.func66, Try.ntmps66
  go_wp2_with fail
  rw [← Ve.arr_zero]
  go_loopw [4] (fun s4 wr => ∃ k : Nat, k ≤ ls.length ∧ s4 = .int .i64 (k : Int) ∧ Blk wr w.heap.size 75 (Ve.arr (Ve.jnTo ls k)) ∧ Below w.heap.size w wr) (fun s4 _ => ls.length - (intOf s4).toNat)
  case atStart => exact ⟨0, Nat.zero_le _, rfl, Blk.new _ _ _, below_new (Below.refl _ _) _⟩
  case round =>
    obtain ⟨k, hk, rfl, hB, hbw⟩ := hrel
    by_cases hlt : k < ls.length
    · have hne : ls ≠ [] := fun e => by subst e; simp at hlt
      obtain ⟨b, off, hA, hcA⟩ := (H1.out.later hbw) hne
      obtain ⟨A', c', e0, hL⟩ := hcA k hlt
      have hlen := hls k hlt
      have hS := hL.stamps
      have H1' := H1
      subst hA
      have hi0 : (0 : Int) ≤ (k : Int) := by omega
      have hi1 : (k : Int) < (ls.length : Int) := by omega
      have hjs : ∀ n, Ve.jnTo ls (k + 1) n = Ve.mxTo (Ve.jnTo ls k) (Ve.cnt (ls.getD k [])) 64 n ∨ 64 ≤ n := fun n => by
        by_cases hn : n < 64
        · left
          unfold Ve.mxTo
          rw [if_pos hn]
          rfl
        · right; omega
      have n1 := fun w h => counts_any A' c' (ls.getD k []) w hlen h
      obtain ⟨f, hf⟩ : ∃ f, Ve.jnTo ls k = f := ⟨_, rfl⟩
      obtain ⟨g, hg⟩ : ∃ g, Ve.cnt (ls.getD k []) = g := ⟨_, rfl⟩
      obtain ⟨m, hm⟩ : ∃ m, (ls.getD k []).length = m := ⟨_, rfl⟩
      rw [hg] at n1
      rw [hf, hg] at hjs
      rw [hf] at hB
      rw [hm] at e0 n1
      have HJS := Lib.hid hjs
      have N1 := Lib.hid n1
      have HS := Lib.hid hS
      have HB := Lib.hid hB
      clear hjs n1 hS hB hcA hf hg hm hL
      go_wp2_with fail
      refine (N1.out _ HS.out).mono ?_
      rintro e w2 ⟨rfl, hb2⟩
      have hbx := below_on hbw hb2
      have B1 := HB.out.later hb2
      have hz := hbx.size
      have hlt1 := B1.lt
      clear N1 HS HB hb2
      go_wp2_with (refine wpList_store_row rfl 75 _ _ rfl w2.heap.size (Ve.arr g) rfl rfl 75 (Ve.arr fun _ => 0) ?s1 (by rw [Ve.arr_size]; exact info64) (by rw [Ve.arr_size, Ve.arr_size]) (one_arr _) ?_)
      case s1 =>
        rw [← Ve.arr_zero]
        exact Blk.new w2 _ _
      rw [← Ve.arr_zero]
      have B5 := (Blk.new w2 75 (Ve.arr fun _ => 0)).row (Ve.arr g)
      have B4 := (B1.alloc (.cells (Ve.arr fun _ => 0) 75)).rowFar (g' := w2.heap.size) (by omega) (Ve.arr g)
      have b6 := below_setRow (below_new hbx (.cells (Ve.arr fun _ => 0) 75)) (g := w2.heap.size) hz (Ve.arr g)
      go_loopw [6] (fun s6 wq => ∃ n : Nat, n ≤ 64 ∧ s6 = .int .i64 (n : Int) ∧ Blk wq w.heap.size 75 (Ve.arr (Ve.mxTo f g n)) ∧ Blk wq w2.heap.size 75 (Ve.arr g) ∧ Below w.heap.size w wq) (fun s6 _ => 64 - (intOf s6).toNat)
      case atStart => exact ⟨0, by omega, rfl, B4.same (fun i _ => by unfold Ve.mxTo; rw [if_neg (by omega)]), B5, b6⟩
      case round =>
        obtain ⟨n, hn, rfl, hC, hD, hbq⟩ := hrel
        clear B5 B4 b6 B1
        by_cases hlt2 : n < 64
        · have x0 := hC.arr_cell n hlt2
          have x1 := hC.free n
          have y0 := hD.arr_cell n hlt2
          rw [show Ve.mxTo f g n n = f n from by unfold Ve.mxTo; rw [if_neg (by omega)]] at x0
          have hj0 : (0 : Int) ≤ (n : Int) := by omega
          have hj1 : (n : Int) < 64 := by omega
          by_cases hgt : f n < g n
          · have B7 := (hC.arr_put n hlt2 (g n)).same (f' := Ve.mxTo f g (n + 1)) (fun i _ => Ve.mx_step f g n _ (if_pos hgt).symm i)
            have B8 := hD.far (p := ⟨w.heap.size, n, none⟩) (by show w2.heap.size ≠ w.heap.size; omega) (.int .i64 (g n))
            have HB7 := Lib.hid B7
            have HB8 := Lib.hid B8
            have hbz := hbq.setCell (p := ⟨w.heap.size, n, none⟩) (Nat.le_refl _) (.int .i64 (g n))
            clear hC hD B7 B8
            go_wp2_with fail
            go_region
            go_wp2_with fail
            go_roundw
            case rel => exact ⟨n + 1, by omega, by go_num, HB7.out.drew, HB8.out.drew, hbz.drew⟩
            case measure => simp [intOf]; omega
          · have hle : g n ≤ f n := by omega
            have B7 := (hC.arr_put n hlt2 (f n)).same (f' := Ve.mxTo f g (n + 1)) (fun i _ => Ve.mx_step f g n _ (if_neg hgt).symm i)
            have B8 := hD.far (p := ⟨w.heap.size, n, none⟩) (by show w2.heap.size ≠ w.heap.size; omega) (.int .i64 (f n))
            have HB7 := Lib.hid B7
            have HB8 := Lib.hid B8
            have hbz := hbq.setCell (p := ⟨w.heap.size, n, none⟩) (Nat.le_refl _) (.int .i64 (f n))
            clear hC hD B7 B8
            go_wp2_with fail
            go_region
            go_wp2_with fail
            go_roundw
            case rel => exact ⟨n + 1, by omega, by go_num, HB7.out.drew, HB8.out.drew, hbz.drew⟩
            case measure => simp [intOf]; omega
        · have hn64 : n = 64 := by omega
          subst hn64
          have B9 := hC.same (f' := Ve.jnTo ls (k + 1)) (fun i hi => by
            rcases HJS.out i with h | h
            · exact h.symm
            · omega)
          have HB9 := Lib.hid B9
          clear hC hD B9
          go_wp2_with fail
          go_roundw
          case rel => exact ⟨k + 1, by omega, by go_num, HB9.out, hbq⟩
          case measure => simp [intOf]; omega
    · have hkl : k = ls.length := by omega
      subst hkl
      have HB := Lib.hid hB
      clear hB
      go_wp2_with (refine wpList_load_row rfl 75 _ rfl w.heap.size rfl 75 _ (0, 0) _ HB.out Try.underlying75 rfl (by rw [Ve.arr_size]; exact info64) ?_)
      refine (of_any _ _).mono ?_
      rintro e w3 ⟨v, rfl, ho, hb3⟩
      have HO := Lib.hid ho
      have hz := hbw.size
      clear ho
      go_wp2
      go_ret
      exact ⟨_, rfl, own_base HO.out hz, below_on hbw hb3⟩

end Go.Proofs.Ytoaclofobfaflaa
namespace Go.Proofs.Ytoaclofobfaflaa
open Go.RowKit

set_option maxHeartbeats 1600000 in
theorem rtwo_any (A B : Option Addr) (c1 c2 : Nat) (l r : List (Int × Int)) (w : World) (h1 : OneL w A c1 l) (h2 : OneL w B c2 r) :
    Calls Try.prog 30 #[.slice A l.length c1, .slice B r.length c2] w (Gives (Ve.joinL [l, r]) w) := by
  have hb0 := below_new (Below.refl w.heap.size w) (.cells #[.slice A l.length c1, .slice B r.length c2] 22)
  have hB := Blk.new w 22 #[.slice A l.length c1, .slice B r.length c2]
  have hR : Rows (w.alloc (.cells #[.slice A l.length c1, .slice B r.length c2] 22)) (some ⟨w.heap.size, 0, none⟩) [l, r] := fun _ => ⟨w.heap.size, 0, rfl, fun k hk => by
    have hk2 : k = 0 ∨ k = 1 := by simp at hk; omega
    rcases hk2 with rfl | rfl
    · exact ⟨A, c1, hB.cell rfl, h1.later hb0⟩
    · exact ⟨B, c2, hB.cell rfl, h2.later hb0⟩⟩
  have hj := rjoin_any (some ⟨w.heap.size, 0, none⟩) 2 [l, r] (w.alloc (.cells #[.slice A l.length c1, .slice B r.length c2] 22)) (by simp) hR
  have HJ := Lib.hid hj
  clear hj hR hB h1 h2
  go_enter Try.func30, Try.ntmps30
  go_wp2_with fail
  refine HJ.out.mono ?_
  rintro e w1 ⟨v, rfl, ho, hb1⟩
  have HO := Lib.hid ho
  clear ho
  go_wp2
  go_ret
  exact ⟨_, rfl, own_base HO.out (by simp), below_on hb0 hb1⟩

set_option maxHeartbeats 1600000 in
theorem rwith_any (A : Option Addr) (c1 : Nat) (l : List (Int × Int)) (c n : Int) (w : World) (h1 : OneL w A c1 l) :
    Calls Try.prog 50 #[.slice A l.length c1, .agg #[.int .i64 c, .int .i64 n]] w (Gives (Ve.joinL [l, [(c, n)]]) w) := by
  have hb0 := below_new (below_new (Below.refl w.heap.size w) (.cells #[.int .i64 c, .int .i64 n] 33)) (.cells #[.int .i64 c, .int .i64 n] 33)
  have hB := Blk.new (w.alloc (.cells #[.int .i64 c, .int .i64 n] 33)) 33 #[.int .i64 c, .int .i64 n]
  rw [show (w.alloc (.cells #[.int .i64 c, .int .i64 n] 33)).heap.size = w.heap.size + 1 from by simp] at hB
  have hO : OneL ((w.alloc (.cells #[.int .i64 c, .int .i64 n] 33)).alloc (.cells #[.int .i64 c, .int .i64 n] 33)) (some ⟨w.heap.size + 1, 0, none⟩) 1 [(c, n)] := ⟨Nat.le_refl _, (by unfold maxLen; omega), (fun h => by cases h), fun _ => ⟨w.heap.size + 1, 0, rfl, fun j u hu => by
    rw [Nat.zero_add]
    exact hB.cell (by simpa [stCells] using hu)⟩⟩
  have hj := rtwo_any A (some ⟨w.heap.size + 1, 0, none⟩) c1 1 l [(c, n)] _ (h1.later hb0) hO
  have HJ := Lib.hid hj
  clear hj hO hB h1
  go_enter Try.func50, Try.ntmps50
  go_wp2_with fail
  refine HJ.out.mono ?_
  rintro e w1 ⟨v, rfl, ho, hb1⟩
  have HO := Lib.hid ho
  clear ho
  go_wp2
  go_ret
  exact ⟨_, rfl, own_base HO.out (by simp; omega), below_on hb0 hb1⟩

end Go.Proofs.Ytoaclofobfaflaa
namespace Go.Proofs.Ytoaclofobfaflaa
open Go.RowKit

end Go.Proofs.Ytoaclofobfaflaa
namespace Go.Proofs.Ytoaclofobfaflaa
open Go.RowKit

section
variable {w w' : World} {base size n : Nat} {e : TypeId} {v : Value} {xs : List Value}
theorem own_lt (h : w.ownsRow base e size v n xs) : ∀ k, v.ownBlock = some k → k < w.heap.size := by
  intro k hk
  rcases h.2 with ⟨rfl, _⟩ | ⟨g, cap, cur, rfl, _, hh, _⟩
  · simp [Value.ownBlock] at hk
  · simp [Value.ownBlock] at hk
    subst hk
    exact (Array.getElem?_eq_some_iff.1 hh).1
theorem own_stays (h : w.ownsRow base e size v n xs) (hs : ∀ k, v.ownBlock = some k → w'.heap[k]? = w.heap[k]?) : w'.ownsRow base e size v n xs := by
  obtain ⟨h0, h1⟩ := h
  refine ⟨h0, ?_⟩
  rcases h1 with h1 | ⟨g, cap, cur, hv, hg, hh, r⟩
  · exact .inl h1
  · refine .inr ⟨g, cap, cur, hv, hg, ?_, r⟩
    rw [hs g (by rw [hv]; rfl)]
    exact hh
theorem own_later (h : w.ownsRow base e size v n xs) (hb : Below w.heap.size w w') : w'.ownsRow base e size v n xs :=
  own_stays h (fun k hk => hb.block k (own_lt h k hk))
/-- Rows of different kinds lie in different blocks. -/
theorem own_apart {base' size' n' : Nat} {e' : TypeId} {v' : Value} {xs' : List Value} (h : w.ownsRow base e size v n xs) (h' : w.ownsRow base' e' size' v' n' xs') (hne : e ≠ e') : ∀ k, v.ownBlock = some k → some k ≠ v'.ownBlock := by
  intro k hk hk'
  rcases h.2 with ⟨rfl, _⟩ | ⟨g, cap, cur, rfl, _, hh, _⟩
  · simp [Value.ownBlock] at hk
  · rcases h'.2 with ⟨rfl, _⟩ | ⟨g', cap', cur', rfl, _, hh', _⟩
    · simp [Value.ownBlock] at hk'
    · simp [Value.ownBlock] at hk hk'
      subst hk
      subst hk'
      rw [hh] at hh'
      simp at hh'
      exact hne hh'.2
end

/-- The cells of a row of lists. -/
def rowCells : List (Option Addr × Nat) → List (List (Int × Int)) → List Value
  | [], _ => []
  | _ :: _, [] => []
  | x :: cs, l :: ls => .slice x.1 l.length x.2 :: rowCells cs ls
theorem rowCells_snoc : ∀ (cs : List (Option Addr × Nat)) (x : Option Addr × Nat) (ls : List (List (Int × Int))) (_ : cs.length < ls.length), rowCells (cs ++ [x]) ls = rowCells cs ls ++ [.slice x.1 (ls.getD cs.length []).length x.2]
  | [], x, [], h => by simp at h
  | [], x, l :: ls, _ => by simp [rowCells]
  | c :: cs, x, [], h => by simp at h
  | c :: cs, x, l :: ls, h => by
    have := rowCells_snoc cs x ls (by simpa using h)
    simp [rowCells, this]
theorem rowCells_get : ∀ (cs : List (Option Addr × Nat)) (ls : List (List (Int × Int))) (k : Nat), k < cs.length → k < ls.length → (rowCells cs ls)[k]? = some (.slice (cs.getD k (none, 0)).1 (ls.getD k []).length (cs.getD k (none, 0)).2)
  | [], _, k, h, _ => by simp at h
  | c :: cs, [], k, _, h => by simp at h
  | c :: cs, l :: ls, 0, _, _ => by simp [rowCells]
  | c :: cs, l :: ls, k + 1, h, h' => by
    have := rowCells_get cs ls k (by simpa using h) (by simpa using h')
    simpa [rowCells] using this
end Go.Proofs.Ytoaclofobfaflaa
