/-
  frame's fourShifts: the table's half bytes.
-/
import Derived.Test.YtobgbaejdamecaaDoorFrPlain
import Derived.Test.YtobgbaejdamecaaDoorAns
import Derived.Test.YtobgbaejdamecaaDoorByRow
namespace Go.Proofs.YtobgbaejdamecaaDoor
open Go.RowKit

/-- The table reads as its initialiser lays it. -/
def Halves (w : World) : Prop := ∀ v, v < 16 → w.cell? ⟨0, v, none⟩ = some (.int .u32 ((Fr.tab.getD v 0 : Nat) : Int))
theorem Halves.later {w w' : World} (h : Halves w) (hb : Below w.heap.size w w') : Halves w' := fun v hv => cell_later hb (h v hv)

set_option maxHeartbeats 800000 in
theorem fshift_any (c : Nat) (hc : c < 4294967296) (w : World) (hH : Halves w) :
    Calls Tryd.prog 30 #[.int .u32 (c : Int)] w (Says (.int .u32 ((Fr.four c : Nat) : Int)) w) := by
  have ha : bits BinOp.and IntKind.u32 (c : Int) 15 = ((c % 16 : Nat) : Int) := by
    have := u32_and_nat c 15 hc (by decide)
    rw [nat_mask4] at this
    exact this
  have hx : bits BinOp.xor IntKind.u32 ((c : Int) / 16) ((Fr.tab.getD (c % 16) 0 : Nat) : Int) = ((Fr.four c : Nat) : Int) := by
    have := u32_xor_nat (c / 16) (Fr.tab.getD (c % 16) 0) (by omega) (Fr.tab_lt _ (Nat.mod_lt _ (by omega)))
    unfold Fr.four
    rw [← this]
    rfl
  have c0 := hH (c % 16) (Nat.mod_lt _ (by omega))
  have hv : c % 16 < 16 := Nat.mod_lt _ (by omega)
  obtain ⟨v, hve⟩ : ∃ v, c % 16 = v := ⟨_, rfl⟩
  rw [hve] at ha hx c0 hv
  obtain ⟨t, hte⟩ : ∃ t, Fr.tab.getD v 0 = t := ⟨_, rfl⟩
  rw [hte] at hx c0
  obtain ⟨f, hfe⟩ : ∃ f, Fr.four c = f := ⟨_, rfl⟩
  rw [hfe] at hx ⊢
  clear hve hte hfe hH
  go_enter Tryd.func30, Tryd.ntmps30
  go_wp2
  go_ret
  exact ⟨rfl, Below.refl _ _⟩
end Go.Proofs.YtobgbaejdamecaaDoor
