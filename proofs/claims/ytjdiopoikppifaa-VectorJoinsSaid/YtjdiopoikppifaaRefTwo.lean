/-
  What telltaleref02's Two and With answer of any lists of stamps in memory.
-/
import Derived.Test.YtjdiopoikppifaaRefMeet
namespace Go.Proofs.Ytjdiopoikppifaa
open Go.RowKit

set_option maxHeartbeats 1600000 in
theorem rtwo_any (A B : Option Addr) (c1 c2 : Nat) (l r : List (Int × Int)) (w : World) (h1 : OneL w A c1 l) (h2 : OneL w B c2 r) :
    Calls Try.prog 30 #[.slice A l.length c1, .slice B r.length c2] w (Gives (Ve.joinL [l, r]) w) := by
  have hb0 := below_new (Below.refl w.heap.size w) (.cells #[.slice A l.length c1, .slice B r.length c2] 22)
  have hB := Blk.new w 22 #[.slice A l.length c1, .slice B r.length c2]
  have hR : Rows (w.alloc (.cells #[.slice A l.length c1, .slice B r.length c2] 22)) (some ⟨w.heap.size, 0, none⟩) [l, r] := fun _ => ⟨w.heap.size, 0, rfl, fun k hk => by
    have hk2 : k = 0 ∨ k = 1 := by simp at hk; omega
    rcases hk2 with rfl | rfl
    · exact ⟨A, c1, hB.cell rfl, h1.later hb0⟩
    · exact ⟨B, c2, hB.cell rfl, h2.later hb0⟩⟩
  have hj := rjoin_any (some ⟨w.heap.size, 0, none⟩) 2 [l, r] (w.alloc (.cells #[.slice A l.length c1, .slice B r.length c2] 22)) (by simp) hR
  have HJ := Lib.hid hj
  clear hj hR hB h1 h2
  go_enter Try.func30, Try.ntmps30
  go_wp2_with fail
  refine HJ.out.mono ?_
  rintro e w1 ⟨v, rfl, ho, hb1⟩
  have HO := Lib.hid ho
  clear ho
  go_wp2
  go_ret
  exact ⟨_, rfl, own_base HO.out (by simp), below_on hb0 hb1⟩

set_option maxHeartbeats 1600000 in
theorem rwith_any (A : Option Addr) (c1 : Nat) (l : List (Int × Int)) (c n : Int) (w : World) (h1 : OneL w A c1 l) :
    Calls Try.prog 29 #[.slice A l.length c1, .agg #[.int .i64 c, .int .i64 n]] w (Gives (Ve.joinL [l, [(c, n)]]) w) := by
  have hb0 := below_new (below_new (Below.refl w.heap.size w) (.cells #[.int .i64 c, .int .i64 n] 24)) (.cells #[.int .i64 c, .int .i64 n] 24)
  have hB := Blk.new (w.alloc (.cells #[.int .i64 c, .int .i64 n] 24)) 24 #[.int .i64 c, .int .i64 n]
  rw [show (w.alloc (.cells #[.int .i64 c, .int .i64 n] 24)).heap.size = w.heap.size + 1 from by simp] at hB
  have hO : OneL ((w.alloc (.cells #[.int .i64 c, .int .i64 n] 24)).alloc (.cells #[.int .i64 c, .int .i64 n] 24)) (some ⟨w.heap.size + 1, 0, none⟩) 1 [(c, n)] := ⟨Nat.le_refl _, (by unfold maxLen; omega), (fun h => by cases h), fun _ => ⟨w.heap.size + 1, 0, rfl, fun j u hu => by
    rw [Nat.zero_add]
    exact hB.cell (by simpa [stCells] using hu)⟩⟩
  have hj := rtwo_any A (some ⟨w.heap.size + 1, 0, none⟩) c1 1 l [(c, n)] _ (h1.later hb0) hO
  have HJ := Lib.hid hj
  clear hj hO hB h1
  go_enter Try.func29, Try.ntmps29
  go_wp2_with fail
  refine HJ.out.mono ?_
  rintro e w1 ⟨v, rfl, ho, hb1⟩
  have HO := Lib.hid ho
  clear ho
  go_wp2
  go_ret
  exact ⟨_, rfl, own_base HO.out (by simp; omega), below_on hb0 hb1⟩

end Go.Proofs.Ytjdiopoikppifaa
