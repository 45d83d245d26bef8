/-
  What telltaleref01's Parse answers of any text: the right stamp of that text, or the error.
-/
import Derived.Test.YtebnmbckkelkpaaDoorNumCalls
import Derived.Test.YtebnmbckkelkpaaDoorStampRight
import Derived.Laws.ResultCell
import Derived.Lib.Strings
namespace Go.Proofs.YtebnmbckkelkpaaDoor
open Go.RowKit

/-- What Parse answers. -/
def ParsePost (l : List UInt8) (w : World) (e : Ending) (w' : World) : Prop :=
  (∀ c n, Num.parseOf l = some (c, n) → e = .returned (.tuple #[.agg #[.int .i64 c, .int .i64 n], .int .i64 0])) ∧ (Num.parseOf l = none → e = .returned (.tuple #[.agg #[.int .i64 0, .int .i64 0], .int .i64 17])) ∧ Below w.heap.size w w'
theorem ParsePost.yes {l : List UInt8} {w w' : World} {c n : Int} (h : Num.parseOf l = some (c, n)) (hb : Below w.heap.size w w') : ParsePost l w (.returned (.tuple #[.agg #[.int .i64 c, .int .i64 n], .int .i64 0])) w' :=
  ⟨(fun c' n' h' => by rw [h] at h'; injection h' with h'; injection h' with h1 h2; subst h1 h2; rfl), (fun h' => by rw [h] at h'; cases h'), hb⟩
theorem ParsePost.no {l : List UInt8} {w w' : World} (h : Num.parseOf l = none) (hb : Below w.heap.size w w') : ParsePost l w (.returned (.tuple #[.agg #[.int .i64 0, .int .i64 0], .int .i64 17])) w' :=
  ⟨(fun c' n' h' => by rw [h] at h'; cases h'), (fun _ => rfl), hb⟩

set_option maxHeartbeats 1600000 in
theorem rparse_any (s : ByteArray) (w : World) (hm : s.size ≤ 9223372036854775806) :
    Calls Tryd.prog 9 #[.string s] w (ParsePost s.data.toList w) := by
  have hl : s.data.toList.length = s.size := Array.length_toList
  have HL := Lib.hid hl
  clear hl
  go_enter Tryd.func9, Tryd.ntmps9
  go_wp2_with fail
  go_loop [4] (fun s4 => ∃ k : Nat, k ≤ s.size ∧ s4 = .int .i64 (k : Int) ∧ ∀ c ∈ s.data.toList.take k, c ≠ 64) (fun s4 => s.size - (intOf s4).toNat)
  case atStart => exact ⟨0, Nat.zero_le _, rfl, by simp⟩
  case round =>
    obtain ⟨k, hk, rfl, hno⟩ := hrel
    have HNO := Lib.hid hno
    clear hno
    by_cases hlt : k < s.size
    · by_cases h64 : s[k].toNat = 64
      · have ht : ((s[k].toNat : Int) != 64) = false := by rw [bne_eq_false_iff_eq]; omega
        have h65 := h64
        clear h64
        have hi1 : (k : Int) ≤ (s.size : Int) := by omega
        have hi2 : (k : Int) + 1 ≤ (s.size : Int) := by omega
        have hcut := Num.cutAt_at k HNO.out (by
          rw [List.getElem?_eq_getElem (by rw [HL.out]; exact hlt)]
          exact congrArg some (UInt8.toNat_inj.1 (show _ = (64 : UInt8).toNat from h65)))
        have HC := Lib.hid hcut
        clear hcut h65
        have e1 : (s.extract 0 k).data.toList = s.data.toList.take k := by rw [Lib.extract_data]; simp
        have e2 : (s.extract (k + 1) s.size).data.toList = s.data.toList.drop (k + 1) := by
          rw [Lib.extract_data]; exact List.take_of_length_le (by rw [List.length_drop, HL.out]; omega)
        have z1 : (s.extract 0 k).size ≤ 9223372036854775807 := by rw [ByteArray.size_extract]; omega
        have z2 : (s.extract (k + 1) s.size).size ≤ 9223372036854775807 := by rw [ByteArray.size_extract]; omega
        have n1 := fun w => number_any (s.extract 0 k) w z1
        have n2 := fun w => number_any (s.extract (k + 1) s.size) w z2
        rw [e1] at n1
        rw [e2] at n2
        have N1 := Lib.hid n1
        have N2 := Lib.hid n2
        clear n1 n2 e1 e2 z1 z2
        go_wp2_with fail
        refine (N1.out _).mono ?_
        rintro e w1 ⟨v1, b1, rfl, rfl, hy1, hn1⟩
        have Y1 := Lib.hid hy1
        have O1 := Lib.hid hn1
        clear hy1 hn1
        go_wp2_with fail
        refine (N2.out _).mono ?_
        rintro e w1 ⟨v2, b2, rfl, rfl, hy2, hn2⟩
        have Y2 := Lib.hid hy2
        have O2 := Lib.hid hn2
        clear hy2 hn2
        cases b1 with
        | false =>
          have hp : Num.parseOf s.data.toList = none := by
            rw [Num.parse_cut HC.out]
            cases ha : Num.num (s.data.toList.take k) with
            | none => rfl
            | some u => have := (Y1.out u ha).2; cases this
          have HP := Lib.hid hp
          clear hp
          go_wp2
          refine bodyPost_ret (v := .tuple #[.agg #[.int .i64 0, .int .i64 0], .int .i64 17]) (by simp [results, Tryd.results9, go_sem]) rfl (ParsePost.no HP.out ?_)
          repeat (first | exact Below.refl _ _ | (apply Below.drew) | (apply below_new) | (refine Below.setCell ?_ (by simp) _))
        | true =>
          cases b2 with
          | false =>
            have hp : Num.parseOf s.data.toList = none := by
              rw [Num.parse_cut HC.out]
              cases ha : Num.num (s.data.toList.take k) with
              | none => rfl
              | some u =>
                cases hb : Num.num (s.data.toList.drop (k + 1)) with
                | none => rfl
                | some u2 => have := (Y2.out u2 hb).2; cases this
            have HP := Lib.hid hp
            clear hp
            go_wp2
            refine bodyPost_ret (v := .tuple #[.agg #[.int .i64 0, .int .i64 0], .int .i64 17]) (by simp [results, Tryd.results9, go_sem]) rfl (ParsePost.no HP.out ?_)
            repeat (first | exact Below.refl _ _ | (apply Below.drew) | (apply below_new) | (refine Below.setCell ?_ (by simp) _))
          | true =>
            obtain ⟨u1, hu1⟩ : ∃ u1, Num.num (s.data.toList.take k) = some u1 := by
              cases ha : Num.num (s.data.toList.take k) with
              | none => have := O1.out ha; cases this
              | some u => exact ⟨u, rfl⟩
            obtain ⟨u2, hu2⟩ : ∃ u2, Num.num (s.data.toList.drop (k + 1)) = some u2 := by
              cases ha : Num.num (s.data.toList.drop (k + 1)) with
              | none => have := O2.out ha; cases this
              | some u => exact ⟨u, rfl⟩
            obtain ⟨rfl, _⟩ := Y1.out u1 hu1
            obtain ⟨rfl, _⟩ := Y2.out u2 hu2
            have hpc := Num.parse_cut HC.out
            rw [hu1, hu2] at hpc
            simp only at hpc
            have HPC := Lib.hid hpc
            clear hpc hu1 hu2 Y1 Y2 O1 O2 N1 N2
            cases hr : St.rgt (u1 : Int) (u2 : Int)
            · have hp : Num.parseOf s.data.toList = none := by rw [HPC.out, hr]; rfl
              have HP := Lib.hid hp
              have HR := Lib.hid hr
              clear hp hr
              go_wp2_with fail
              refine (rright_any _ _ _).mono ?_
              rintro e w2 ⟨rfl, hb2⟩
              rw [HR.out]
              have r0 : w2.cell? ⟨w.heap.size, 0, none⟩ = some (.int .i64 0) := cell_later hb2 (by go_simp)
              have r1 : w2.cell? ⟨w.heap.size, 1, none⟩ = some (.int .i64 0) := cell_later hb2 (by go_simp)
              have rf0 : w2.frozen? ⟨w.heap.size, 0, none⟩ = false := (hb2.frozen (by simp; omega)).trans (by go_simp)
              have rf1 : w2.frozen? ⟨w.heap.size, 1, none⟩ = false := (hb2.frozen (by simp; omega)).trans (by go_simp)
              have hbx := below_on (below_new (below_new (Below.refl w.heap.size w) _) _) hb2
              go_wp2
              refine bodyPost_ret (v := .tuple #[.agg #[.int .i64 0, .int .i64 0], .int .i64 17]) (by simp [results, Tryd.results9, go_sem, r0, r1]) rfl (ParsePost.no HP.out ?_)
              exact (hbx.setCell (by simp) _).setCell (by simp) _
            · have hp : Num.parseOf s.data.toList = some ((u1 : Int), (u2 : Int)) := by rw [HPC.out, hr]; rfl
              have HP := Lib.hid hp
              have HR := Lib.hid hr
              clear hp hr
              go_wp2_with fail
              refine (rright_any _ _ _).mono ?_
              rintro e w2 ⟨rfl, hb2⟩
              rw [HR.out]
              have r0 : w2.cell? ⟨w.heap.size, 0, none⟩ = some (.int .i64 0) := cell_later hb2 (by go_simp)
              have r1 : w2.cell? ⟨w.heap.size, 1, none⟩ = some (.int .i64 0) := cell_later hb2 (by go_simp)
              have rf0 : w2.frozen? ⟨w.heap.size, 0, none⟩ = false := (hb2.frozen (by simp; omega)).trans (by go_simp)
              have rf1 : w2.frozen? ⟨w.heap.size, 1, none⟩ = false := (hb2.frozen (by simp; omega)).trans (by go_simp)
              have q0 : w2.cell? ⟨w.heap.size + 1, 0, none⟩ = some (.int .i64 (u1 : Int)) := cell_later hb2 (by go_simp)
              have q1 : w2.cell? ⟨w.heap.size + 1, 1, none⟩ = some (.int .i64 (u2 : Int)) := cell_later hb2 (by go_simp)
              have hbx := below_on (below_new (below_new (Below.refl w.heap.size w) _) _) hb2
              go_wp2
              refine bodyPost_ret (v := .tuple #[.agg #[.int .i64 (u1 : Int), .int .i64 (u2 : Int)], .int .i64 0]) (by simp [results, Tryd.results9, go_sem, r0, r1]) rfl (ParsePost.yes HP.out ?_)
              exact (hbx.setCell (by simp) _).setCell (by simp) _
      · have ht : ((s[k].toNat : Int) != 64) = true := by rw [bne_iff_ne]; omega
        have hkl : k < s.data.toList.length := by rw [HL.out]; exact hlt
        go_wp2_with fail
        go_round
        case rel =>
          refine ⟨k + 1, by omega, by go_num, ?_⟩
          rw [List.take_succ_eq_append_getElem hkl]
          intro c hc
          rcases List.mem_append.1 hc with hc | hc
          · exact HNO.out c hc
          · rw [List.mem_singleton] at hc
            subst hc
            intro e
            exact h64 (congrArg UInt8.toNat e)
        case measure => simp [intOf]; omega
    · have hp : Num.parseOf s.data.toList = none := Num.parse_none (Num.cutAt_none (by
        have := HNO.out
        rw [List.take_of_length_le (by rw [HL.out]; omega)] at this
        exact this))
      have HP := Lib.hid hp
      clear hp
      go_wp2
      refine bodyPost_ret (v := .tuple #[.agg #[.int .i64 0, .int .i64 0], .int .i64 17]) (by simp [results, Tryd.results9, go_sem]) rfl (ParsePost.no HP.out ?_)
      repeat (first | exact Below.refl _ _ | (apply Below.drew) | (apply below_new) | (refine Below.setCell ?_ (by simp) _))

end Go.Proofs.YtebnmbckkelkpaaDoor
