/-
  What disk's within, Formed, Used answer, and telltaleref08's Formed, Used, place.
-/
import Derived.Test.YtgjcpdcepmgafaaDkPlain
import Derived.Test.YtgjcpdcepmgafaaByRef
import Derived.IntWalk
namespace Go.Proofs.Ytgjcpdcepmgafaa
open Go.RowKit

namespace Dk
/-- Is n from 0 to m? -/
def win (n m : Int) : Bool := decide (0 ≤ n ∧ n ≤ m)
theorem win_yes {n m : Int} (h : win n m = true) : 0 ≤ n ∧ n ≤ m := of_decide_eq_true h
theorem win_no {n m : Int} (h : win n m = false) : ¬ (0 ≤ n ∧ n ≤ m) := of_decide_eq_false h
end Dk
/-- A disk by value. -/
def dkV (room : Int) (A : Option Addr) (n c : Nat) : Value := .agg #[.int .i64 room, .slice A n c]

set_option maxHeartbeats 400000 in
theorem within_any (n m : Int) (w : World) : Calls Try.prog 29 #[.int .i64 n, .int .i64 m] w fun e w' => e = .returned (.bool (Dk.win n m)) ∧ w' = w := by
  obtain ⟨q, hq⟩ : ∃ q, Dk.win n m = q := ⟨_, rfl⟩
  rw [hq]
  by_cases h0 : 0 ≤ n
  · by_cases h1 : n ≤ m
    · have : q = true := by rw [← hq]; exact decide_eq_true ⟨h0, h1⟩
      subst this
      have d0 : decide (0 ≤ n) = true := decide_eq_true h0
      have d1 : decide (n ≤ m) = true := decide_eq_true h1
      clear hq
      go_enter Try.func29, Try.ntmps29
      go_wp2
      go_ret
      exact ⟨rfl, rfl⟩
    · have : q = false := by rw [← hq]; exact decide_eq_false (fun h => h1 h.2)
      subst this
      have d0 : decide (0 ≤ n) = true := decide_eq_true h0
      have d1 : decide (n ≤ m) = false := decide_eq_false h1
      clear hq
      go_enter Try.func29, Try.ntmps29
      go_wp2
      go_ret
      exact ⟨rfl, rfl⟩
  · have : q = false := by rw [← hq]; exact decide_eq_false (fun h => h0 h.1)
    subst this
    have d0 : decide (0 ≤ n) = false := decide_eq_false h0
    clear hq
    go_enter Try.func29, Try.ntmps29
    go_wp2
    go_ret
    exact ⟨rfl, rfl⟩

theorem drop_at {α β : Type} (L : List α) (f : α → β) (k : Nat) (x : α) (h : L[k]? = some x) : (L.map f).drop k = f x :: (L.map f).drop (k + 1) := by
  obtain ⟨hk, hx⟩ := List.getElem?_eq_some_iff.1 h
  rw [List.drop_eq_getElem_cons (by rw [List.length_map]; exact hk), List.getElem_map, hx]

set_option maxRecDepth 100000 in
set_option maxHeartbeats 1600000 in
theorem dformed_any (room : Int) (A : Option Addr) (c : Nat) (L : List Fc) (w : World) (h : OneD w A c L) :
    Calls Try.prog 13 #[.agg #[.int .i64 room, .slice A L.length c]] w (Says (.bool (Dk.fmd room (L.map Fc.fi))) w) := by
  have hlen := h.len
  have HD := Lib.hid h
  clear h
  by_cases hr : Dk.win room 16777216 = true
  · obtain ⟨r0, r1⟩ := Dk.win_yes hr
    have hf : Dk.fmd room (L.map Fc.fi) = Dk.fmdF 0 room (L.map Fc.fi) := by
      unfold Dk.fmd
      rw [decide_eq_true (⟨r0, r1⟩ : 0 ≤ room ∧ room ≤ 16777216), Bool.true_and]
    rw [hf]
    obtain ⟨q, hq⟩ : ∃ q, Dk.fmdF 0 room (L.map Fc.fi) = q := ⟨_, rfl⟩
    rw [hq]
    have HQ := Lib.hid hq
    have W := Lib.hid (within_any room 16777216 (w.alloc (.cells #[.int .i64 room, .slice A L.length c] 24)))
    rw [hr] at W
    clear hf hq hr
    go_enter Try.func13, Try.ntmps13
    go_wp2_with fail
    refine W.out.mono ?_
    rintro e w' ⟨rfl, rfl⟩
    go_wp2_with fail
    go_loopw [3, 4, 16] (fun s3 s4 s16 wr => ∃ (k : Nat) (least left : Int), k ≤ L.length ∧ s16 = .int .i64 (k : Int) ∧ s4 = .int .i64 least ∧ s3 = .int .i64 left ∧ Dk.fmdF least left ((L.map Fc.fi).drop k) = q ∧ (0 ≤ least ∧ least ≤ 1048577) ∧ (0 ≤ left ∧ left ≤ 16777216) ∧ Below w.heap.size w wr) (fun _ _ s16 _ => L.length - (intOf s16).toNat)
    case atStart => exact ⟨0, 0, room, Nat.zero_le _, rfl, rfl, rfl, HQ.out, ⟨by omega, by omega⟩, ⟨r0, r1⟩, below_new (Below.refl _ _) _⟩
    case round =>
      obtain ⟨k, least, left, hk, rfl, rfl, rfl, hq, ⟨hl0, hl1⟩, ⟨hf0, hf1⟩, hbw⟩ := hrel
      by_cases hlt : k < L.length
      · have hne : L ≠ [] := fun e => by subst e; simp at hlt
        obtain ⟨b, off, hA, hc⟩ := (HD.out.later hbw).at hne
        subst hA
        obtain ⟨x, hx⟩ : ∃ x, L[k]? = some x := ⟨L[k], List.getElem?_eq_getElem hlt⟩
        obtain ⟨e0, e1, e2⟩ := hc k x hx
        rw [drop_at L Fc.fi k x hx] at hq
        have hxl := (HD.out.one hx).len
        have hstep : (decide (least ≤ x.num ∧ x.num ≤ 1048576 ∧ 0 ≤ x.s ∧ x.s ≤ (x.l.length : Int) ∧ (x.l.length : Int) ≤ left) && Dk.fmdF (x.num + 1) (left - x.l.length) ((L.map Fc.fi).drop (k + 1))) = q := hq
        have hi0 : (0 : Int) ≤ (k : Int) := by omega
        have hi1 : (k : Int) < (L.length : Int) := by omega
        obtain ⟨num, X, cx, l, sr⟩ := x
        dsimp only at e0 e1 e2 hstep hxl
        have W2 := fun w => within_any sr (l.length : Int) w
        have HST := Lib.hid hstep
        clear hq hstep hx hc hne
        by_cases t1 : num < least
        · have d1 : decide (num < least) = true := decide_eq_true t1
          have hqf : q = false := by
            rw [← HST.out, decide_eq_false (fun hh => by omega), Bool.false_and]
          subst hqf
          go_wp2
          go_ret
          exact ⟨rfl, below_new hbw _⟩
        · have d1 : decide (num < least) = false := decide_eq_false t1
          by_cases t2 : 1048576 < num
          · have d2 : decide (1048576 < num) = true := decide_eq_true t2
            have hqf : q = false := by
              rw [← HST.out, decide_eq_false (fun hh => by omega), Bool.false_and]
            subst hqf
            go_wp2
            go_ret
            exact ⟨rfl, below_new hbw _⟩
          · have d2 : decide (1048576 < num) = false := decide_eq_false t2
            by_cases t3 : Dk.win sr (l.length : Int) = true
            · obtain ⟨s0, s1⟩ := Dk.win_yes t3
              rw [t3] at W2
              have W3 := Lib.hid W2
              clear W2 t3
              by_cases t4 : left < (l.length : Int)
              · have d4 : decide (left < (l.length : Int)) = true := decide_eq_true t4
                have hqf : q = false := by
                  rw [← HST.out, decide_eq_false (fun hh => by omega), Bool.false_and]
                subst hqf
                go_wp2_with fail
                refine (W3.out _).mono ?_
                rintro e w' ⟨rfl, rfl⟩
                go_wp2
                go_ret
                exact ⟨rfl, below_new hbw _⟩
              · have d4 : decide (left < (l.length : Int)) = false := decide_eq_false t4
                have hnx : Dk.fmdF (num + 1) (left - l.length) ((L.map Fc.fi).drop (k + 1)) = q := by
                  rw [← HST.out, decide_eq_true (⟨by omega, by omega, s0, s1, by omega⟩ : least ≤ num ∧ num ≤ 1048576 ∧ 0 ≤ sr ∧ sr ≤ (l.length : Int) ∧ (l.length : Int) ≤ left), Bool.true_and]
                have HNX := Lib.hid hnx
                clear hnx HST
                go_wp2_with fail
                refine (W3.out _).mono ?_
                rintro e w' ⟨rfl, rfl⟩
                go_wp2_with fail
                go_roundw
                case rel => exact ⟨k + 1, num + 1, left - l.length, by omega, by first | rfl | go_num, by first | rfl | go_num, by first | rfl | go_num, HNX.out, ⟨by omega, by omega⟩, ⟨by omega, by omega⟩, below_new hbw _⟩
                case measure => simp [intOf]; omega
            · have t3' : Dk.win sr (l.length : Int) = false := by simpa using t3
              have hn3 := Dk.win_no t3'
              rw [t3'] at W2
              have W3 := Lib.hid W2
              have hqf : q = false := by
                rw [← HST.out, decide_eq_false (fun hh => hn3 ⟨hh.2.2.1, hh.2.2.2.1⟩), Bool.false_and]
              subst hqf
              clear W2 t3 t3' hn3
              go_wp2_with fail
              refine (W3.out _).mono ?_
              rintro e w' ⟨rfl, rfl⟩
              go_wp2
              go_ret
              exact ⟨rfl, below_new hbw _⟩
      · have hkl : k = L.length := by omega
        have hqt : q = true := by
          rw [← hq, List.drop_of_length_le (by rw [List.length_map]; omega)]
          rfl
        subst hqt
        clear hq
        have hd : decide ((k : Int) < (L.length : Int)) = false := decide_eq_false (by omega)
        clear hkl
        go_wp2
        go_ret
        exact ⟨rfl, hbw⟩
  · have hr' : Dk.win room 16777216 = false := by simpa using hr
    have hn := Dk.win_no hr'
    have hf : Dk.fmd room (L.map Fc.fi) = false := by
      unfold Dk.fmd
      rw [decide_eq_false hn, Bool.false_and]
    rw [hf]
    have W := Lib.hid (within_any room 16777216 (w.alloc (.cells #[.int .i64 room, .slice A L.length c] 24)))
    rw [hr'] at W
    clear hf hn hr hr'
    go_enter Try.func13, Try.ntmps13
    go_wp2_with fail
    refine W.out.mono ?_
    rintro e w' ⟨rfl, rfl⟩
    go_wp2
    go_ret
    exact ⟨rfl, below_new (Below.refl _ _) _⟩

namespace Dk
def usd (room : Int) (fs : List Fi) : Int := if fmd room fs = true then used fs else 0
theorem usd_yes {room : Int} {fs : List Fi} (h : fmd room fs = true) : usd room fs = used fs := if_pos h
theorem usd_no {room : Int} {fs : List Fi} (h : fmd room fs = false) : usd room fs = 0 := if_neg (by rw [h]; exact Bool.false_ne_true)
/-- The bytes of the first k files. -/
theorem used_step (fs : List Fi) (k : Nat) (x : Fi) (h : fs[k]? = some x) : used (fs.take (k + 1)) = used (fs.take k) + (x.2.1.length : Int) := by
  obtain ⟨hk, hx⟩ := List.getElem?_eq_some_iff.1 h
  rw [List.take_succ_eq_append_getElem hk, used_append, hx]
  show used (fs.take k) + ((x.2.1.length : Int) + 0) = _
  omega
theorem used_take (fs : List Fi) (k : Nat) : used (fs.take k) ≤ used fs := by
  conv => rhs; rw [← List.take_append_drop k fs, used_append]
  have := used_nonneg (fs.drop k)
  omega
end Dk

set_option maxRecDepth 100000 in
set_option maxHeartbeats 1600000 in
theorem dused_any (room : Int) (A : Option Addr) (c : Nat) (L : List Fc) (w : World) (h : OneD w A c L) :
    Calls Try.prog 15 #[.agg #[.int .i64 room, .slice A L.length c]] w (Says (.int .i64 (Dk.usd room (L.map Fc.fi))) w) := by
  have hlen := h.len
  have bn := below_new (Below.refl w.heap.size w) (.cells #[.int .i64 room, .slice A L.length c] 24)
  have N := Lib.hid (dformed_any room A c L _ (h.later bn))
  have HD := Lib.hid h
  clear h
  cases hq : Dk.fmd room (L.map Fc.fi) with
  | false =>
    rw [Dk.usd_no hq]
    rw [hq] at N
    clear hq
    go_enter Try.func15, Try.ntmps15
    go_wp2_with fail
    refine N.out.mono ?_
    rintro e w1 ⟨rfl, b1⟩
    go_wp2
    go_ret
    exact ⟨rfl, below_on bn b1⟩
  | true =>
    rw [Dk.usd_yes hq]
    rw [hq] at N
    have hF := Dk.fmd_facts hq
    have hu := hF.use
    have hr := hF.r1
    have HS := Lib.hid (fun k x => Dk.used_step (L.map Fc.fi) k x)
    have HT := Lib.hid (fun k => Dk.used_take (L.map Fc.fi) k)
    have HN := Lib.hid (fun fs => Dk.used_nonneg fs)
    obtain ⟨u, hU⟩ : ∃ u, Dk.used (L.map Fc.fi) = u := ⟨_, rfl⟩
    rw [hU] at hu HT ⊢
    have HU := Lib.hid hU
    clear hq hF hU
    go_enter Try.func15, Try.ntmps15
    go_wp2_with fail
    refine N.out.mono ?_
    rintro e w1 ⟨rfl, b1⟩
    have c1 := cell_later b1 ((Blk.new w 24 #[.int .i64 room, .slice A L.length c]).cell (i := 1) rfl)
    have bb := below_on bn b1
    go_wp2_with fail
    go_loopw [3, 12] (fun s3 s12 wr => ∃ (k : Nat), k ≤ L.length ∧ s12 = .int .i64 (k : Int) ∧ s3 = .int .i64 (Dk.used ((L.map Fc.fi).take k)) ∧ Below w.heap.size w wr) (fun _ s12 _ => L.length - (intOf s12).toNat)
    case atStart => exact ⟨0, Nat.zero_le _, rfl, rfl, bb⟩
    case round =>
      obtain ⟨k, hk, rfl, rfl, hbw⟩ := hrel
      by_cases hlt : k < L.length
      · have hne : L ≠ [] := fun e => by subst e; simp at hlt
        obtain ⟨b, off, hA, hc⟩ := (HD.out.later hbw).at hne
        subst hA
        obtain ⟨x, hx⟩ : ∃ x, L[k]? = some x := ⟨L[k], List.getElem?_eq_getElem hlt⟩
        obtain ⟨e0, e1, e2⟩ := hc k x hx
        have h1 := HS.out k x.fi (by rw [List.getElem?_map, hx]; rfl)
        have h2 := HT.out (k + 1)
        have h3 := HN.out ((L.map Fc.fi).take k)
        obtain ⟨p, hp⟩ : ∃ p, Dk.used ((L.map Fc.fi).take k) = p := ⟨_, rfl⟩
        obtain ⟨p2, hp2⟩ : ∃ p, Dk.used ((L.map Fc.fi).take (k + 1)) = p := ⟨_, rfl⟩
        have h1' : p2 = p + (x.l.length : Int) := by rw [← hp2, h1, hp]; rfl
        rw [hp] at h3 ⊢
        rw [hp2] at h2
        have HP2 := Lib.hid hp2
        have HP3 := Lib.hid h1'
        have h2' : p + (x.l.length : Int) ≤ u := by omega
        have hi0 : (0 : Int) ≤ (k : Int) := by omega
        have hi1 : (k : Int) < (L.length : Int) := by omega
        obtain ⟨num, X, cx, l, sr⟩ := x
        dsimp only at e0 e1 e2 h2'
        clear h1 h1' hp hp2 hx hc hne c1
        go_wp2_with fail
        go_roundw
        case rel => exact ⟨k + 1, by omega, by first | rfl | go_num, by rw [HP2.out, HP3.out], below_new hbw _⟩
        case measure => simp [intOf]; omega
      · have hall : Dk.used ((L.map Fc.fi).take k) = u := by rw [List.take_of_length_le (by rw [List.length_map]; omega)]; exact HU.out
        rw [hall]
        have hd : decide ((k : Int) < (L.length : Int)) = false := decide_eq_false (by omega)
        clear hall
        go_wp2
        go_ret
        exact ⟨rfl, hbw⟩

set_option maxRecDepth 100000 in
set_option maxHeartbeats 1600000 in
theorem rused_any (hform : ∀ (room : Int) (A : Option Addr) (c : Nat) (L : List Fc) (w : World), OneD w A c L → Calls Try.prog 14 #[.agg #[.int .i64 room, .slice A L.length c]] w (Says (.bool (Dk.fmd room (L.map Fc.fi))) w)) (room : Int) (A : Option Addr) (c : Nat) (L : List Fc) (w : World) (h : OneD w A c L) :
    Calls Try.prog 16 #[.agg #[.int .i64 room, .slice A L.length c]] w (Says (.int .i64 (Dk.usd room (L.map Fc.fi))) w) := by
  have hlen := h.len
  have bn := below_new (Below.refl w.heap.size w) (.cells #[.int .i64 room, .slice A L.length c] 24)
  have N := Lib.hid (hform room A c L _ (h.later bn))
  have HD := Lib.hid h
  clear h hform
  cases hq : Dk.fmd room (L.map Fc.fi) with
  | false =>
    rw [Dk.usd_no hq]
    rw [hq] at N
    clear hq
    go_enter Try.func16, Try.ntmps16
    go_wp2_with fail
    refine N.out.mono ?_
    rintro e w1 ⟨rfl, b1⟩
    go_wp2
    go_ret
    exact ⟨rfl, below_on bn b1⟩
  | true =>
    rw [Dk.usd_yes hq]
    rw [hq] at N
    have hF := Dk.fmd_facts hq
    have hu := hF.use
    have hr := hF.r1
    have HS := Lib.hid (fun k x => Dk.used_step (L.map Fc.fi) k x)
    have HT := Lib.hid (fun k => Dk.used_take (L.map Fc.fi) k)
    have HN := Lib.hid (fun fs => Dk.used_nonneg fs)
    obtain ⟨u, hU⟩ : ∃ u, Dk.used (L.map Fc.fi) = u := ⟨_, rfl⟩
    rw [hU] at hu HT ⊢
    have HU := Lib.hid hU
    clear hq hF hU
    go_enter Try.func16, Try.ntmps16
    go_wp2_with fail
    refine N.out.mono ?_
    rintro e w1 ⟨rfl, b1⟩
    have c1 := cell_later b1 ((Blk.new w 24 #[.int .i64 room, .slice A L.length c]).cell (i := 1) rfl)
    have bb := below_on bn b1
    have hsz := b1.size
    have C1 := Lib.hid c1
    clear c1
    go_wp2_with fail
    go_loopw [3, 4] (fun s3 s4 wr => ∃ (k : Nat), k ≤ L.length ∧ s4 = .int .i64 (k : Int) ∧ s3 = .int .i64 (Dk.used ((L.map Fc.fi).take k)) ∧ Below w.heap.size w wr ∧ wr.cell? ⟨w.heap.size, 1, none⟩ = some (.slice A L.length c)) (fun _ s4 _ => L.length - (intOf s4).toNat)
    case atStart => exact ⟨0, Nat.zero_le _, rfl, rfl, bb, C1.out⟩
    case round =>
      obtain ⟨k, hk, rfl, rfl, hbw, hc1⟩ := hrel
      by_cases hlt : k < L.length
      · have hne : L ≠ [] := fun e => by subst e; simp at hlt
        obtain ⟨b, off, hA, hc⟩ := (HD.out.later hbw).at hne
        subst hA
        obtain ⟨x, hx⟩ : ∃ x, L[k]? = some x := ⟨L[k], List.getElem?_eq_getElem hlt⟩
        obtain ⟨e0, e1, e2⟩ := hc k x hx
        have h1 := HS.out k x.fi (by rw [List.getElem?_map, hx]; rfl)
        have h2 := HT.out (k + 1)
        have h3 := HN.out ((L.map Fc.fi).take k)
        obtain ⟨p, hp⟩ : ∃ p, Dk.used ((L.map Fc.fi).take k) = p := ⟨_, rfl⟩
        obtain ⟨p2, hp2⟩ : ∃ p, Dk.used ((L.map Fc.fi).take (k + 1)) = p := ⟨_, rfl⟩
        have h1' : p2 = p + (x.l.length : Int) := by rw [← hp2, h1, hp]; rfl
        rw [hp] at h3 ⊢
        rw [hp2] at h2
        have HP2 := Lib.hid hp2
        have HP3 := Lib.hid h1'
        have h2' : p + (x.l.length : Int) ≤ u := by omega
        have hi0 : (0 : Int) ≤ (k : Int) := by omega
        have hi1 : (k : Int) < (L.length : Int) := by omega
        have HC := Lib.hid hc1
        obtain ⟨num, X, cx, l, sr⟩ := x
        dsimp only at e0 e1 e2 h2'
        clear h1 h1' hp hp2 hx hc hne
        go_wp2_with fail
        go_roundw
        case rel => exact ⟨k + 1, by omega, by first | rfl | go_num, by rw [HP2.out, HP3.out], hbw, HC.out⟩
        case measure => simp [intOf]; omega
      · have hall : Dk.used ((L.map Fc.fi).take k) = u := by rw [List.take_of_length_le (by rw [List.length_map]; omega)]; exact HU.out
        rw [hall]
        have hd : decide ((k : Int) < (L.length : Int)) = false := decide_eq_false (by omega)
        clear hall
        go_wp2
        go_ret
        exact ⟨rfl, hbw⟩
end Go.Proofs.Ytgjcpdcepmgafaa
