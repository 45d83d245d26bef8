/-
  What telltaleref10's Copy and Same answer.
  What telltaleref02's Meet answers of any lists of stamps in memory.
  What telltaleref10's Blurred, Reach, Since answer.
  A region that draws its order, whose operations may make memory, and one of which may store into what another one made. Nothing of the program is imported.
-/
import Derived.Test.YtcfkpjbakccgiaaG10
import Derived.Test.YtcfkpjbakccgiaaG04
import Derived.Test.YtcfkpjbakccgiaaG07
import Derived.Test.YtcfkpjbakccgiaaG08
import Derived.Test.YtcfkpjbakccgiaaG06
namespace Go.Proofs.Ytcfkpjbakccgiaa
open Go.RowKit

theorem infoZn : (Try.prog.info? 57).map (fun i => (i.zero, i.size, i.bytes)) = some (some (.agg #[.int .i64 0, .int .i64 0, .slice none 0 0]), 3, 40) := by kernel_rfl

/-- Zones in memory of the call's own, and their vectors. -/
structure OwnZ (w : World) (base : Nat) (v : Value) (L : List Zc) : Prop where
  row : w.ownsRow base 57 3 v L.length (zCells L)
  each : ∀ z ∈ L, w.ownsRow base 53 2 (.slice z.X z.l.length z.c) z.l.length (stCells z.l)
section
variable {w w2 : World} {base : Nat} {v v2 : Value} {L : List Zc}
theorem OwnZ.nil (w : World) (base : Nat) : OwnZ w base (.slice none 0 0) [] := ⟨⟨rfl, .inl ⟨rfl, rfl⟩⟩, fun _ h => by cases h⟩
theorem OwnZ.later (h : OwnZ w base v L) (hb : Below w.heap.size w w2) : OwnZ w2 base v L := ⟨own_later h.row hb, fun z hz => own_later (h.each z hz) hb⟩
theorem OwnZ.lower {base' : Nat} (h : OwnZ w base v L) (hb : base' ≤ base) : OwnZ w base' v L := ⟨own_base h.row hb, fun z hz => own_base (h.each z hz) hb⟩
theorem OwnZ.snoc (h : OwnZ w base v L) {z : Zc} (hz : w.ownsRow base 53 2 (.slice z.X z.l.length z.c) z.l.length (stCells z.l)) (hg : w.grownBy w2 v.ownBlock) (hr : w2.ownsRow base 57 3 v2 (L.length + 1) (zCells L ++ zCells [z])) : OwnZ w2 base v2 (L ++ [z]) := by
  have keep : ∀ x : Zc, w.ownsRow base 53 2 (.slice x.X x.l.length x.c) x.l.length (stCells x.l) → w2.ownsRow base 53 2 (.slice x.X x.l.length x.c) x.l.length (stCells x.l) := fun x hx =>
    own_stays hx (fun k hk => hg.block k (own_lt hx k hk) (own_apart hx h.row (by decide) k hk))
  refine ⟨by rw [zCells_append, List.length_append]; exact hr, fun x hx => ?_⟩
  rcases List.mem_append.1 hx with hx | hx
  · exact keep x (h.each x hx)
  · rw [List.mem_singleton] at hx
    subst hx
    exact keep x hz
theorem OwnZ.one (h : OwnZ w base v L) : ∃ A c, v = .slice A L.length c ∧ OneZ w A c L := by
  obtain ⟨A, c, h1, h2, h3, h4, h5⟩ := own_form h.row
  refine ⟨A, c, h1, h2, h3, h4, h5, fun z hz => ?_⟩
  obtain ⟨X, cx, e1, e2⟩ := OneL.of_own (h.each z hz)
  injection e1 with e3 _ e4
  subst e3 e4
  exact e2
end

/-- Zones are answered, in memory of the call's own. -/
def GivesOZ (zs : List Zn) (w : World) (e : Ending) (w' : World) : Prop := ∃ v M, e = .returned v ∧ OwnZ w' w.heap.size v M ∧ M.map Zc.zn = zs ∧ Below w.heap.size w w'
/-- A block of another kind is written. -/
theorem OwnZ.far {w : World} {base : Nat} {v : Value} {L : List Zc} (h : OwnZ w base v L) {g : Nat} {t : TypeId} {cs : Array Value} (hB : Blk w g t cs) (h1 : t ≠ 57) (h2 : t ≠ 53) (i : Nat) (x : Value) : OwnZ (w.setCell ⟨g, i, none⟩ x) base v L := by
  have off : ∀ {e : TypeId} {size n : Nat} {u : Value} {xs : List Value}, t ≠ e → w.ownsRow base e size u n xs → (w.setCell ⟨g, i, none⟩ x).ownsRow base e size u n xs := fun {e size n u xs} hne hu => own_stays hu (fun k hk => Below.heap_setCell _ _ _ _ (fun ek => by
    have ek2 : k = g := ek
    subst ek2
    obtain ⟨_, h3⟩ := hu
    rcases h3 with ⟨hv, _⟩ | ⟨g3, cap, cur, hv, _, hB3, _⟩
    · rw [hv] at hk; cases hk
    · rw [hv] at hk
      injection hk with hk
      subst hk
      unfold Blk at hB
      rw [hB] at hB3
      injection hB3 with hB3
      injection hB3 with _ h4
      exact hne h4))
  exact ⟨off h1 h.row, fun z hz => off h2 (h.each z hz)⟩

set_option maxRecDepth 100000 in
set_option maxHeartbeats 6400000 in
theorem zcopyO_any (A : Option Addr) (c : Nat) (L : List Zc) (w : World) (h : OneZ w A c L) (hL : L.length * 40 ≤ 140737488355328) (hE : ∀ z ∈ L, z.l.length * 16 ≤ 140737488355328) :
    Calls Try.prog 10 #[.slice A L.length c] w (GivesOZ (L.map Zc.zn) w) := by
  have hlen := h.len
  have HD := Lib.hid h
  have HE := Lib.hid hE
  obtain ⟨i0, hI, hz0, hz1, hz2⟩ := info_parts infoZn
  clear h hE
  go_enter Try.func10, Try.ntmps10
  go_wp2_with fail
  go_loopw [3, 4] (fun s3 s4 wr => ∃ (k : Nat) (M : List Zc), k ≤ L.length ∧ s4 = .int .i64 (k : Int) ∧ M.length = k ∧ OwnZ wr w.heap.size s3 M ∧ M.map Zc.zn = (L.map Zc.zn).take k ∧ Below w.heap.size w wr) (fun _ s4 _ => L.length - (intOf s4).toNat)
  case atStart => exact ⟨0, [], Nat.zero_le _, rfl, rfl, OwnZ.nil _ _, by simp, Below.refl _ _⟩
  case round =>
    obtain ⟨k, M, hk, rfl, hMk, hO, hM, hbw⟩ := hrel
    obtain ⟨VA, vc, hvv, -, hvm, hvn, -⟩ := own_form hO.row
    subst hvv
    unfold maxLen at hvm
    have HO := Lib.hid hO
    have HM := Lib.hid hM
    have HMK := Lib.hid hMk
    have HB := Lib.hid hbw
    clear hO hM
    by_cases hlt : k < L.length
    · have hne : L ≠ [] := fun e => by subst e; simp at hlt
      obtain ⟨b, off, hA, hc⟩ := (HD.out.later hbw).at hne
      subst hA
      obtain ⟨x, hx⟩ : ∃ x, L[k]? = some x := ⟨L[k], List.getElem?_eq_getElem hlt⟩
      obtain ⟨e0, e1, e2⟩ := hc k x hx
      have E0 := Lib.hid e0
      have E1 := Lib.hid e1
      have E2 := Lib.hid e2
      have hi0 : (0 : Int) ≤ (k : Int) := by omega
      have hi1 : (k : Int) < (L.length : Int) := by omega
      have hxo := HD.out.one hx
      have hxs := HE.out x (List.mem_of_getElem? hx)
      have CLN := Lib.hid (fun (w' : World) (hb : Below wr.heap.size wr w') => show Calls Try.prog 33 #[.slice x.X x.l.length x.c] w' (fun e w'' => ∃ X' c', e = .returned (.slice X' x.l.length c') ∧ w''.ownsRow w.heap.size 53 2 (.slice X' x.l.length c') x.l.length (stCells x.l) ∧ Below w'.heap.size w' w'') from by
        have hbb := below_on HB.out hb
        have h1 := hxo.later hbb
        refine (rcopy_any x.X x.c x.l w' hxs h1.2.2.1 h1.2.2.2).mono ?_
        rintro e w'' ⟨v2, rfl, ho, b2⟩
        obtain ⟨X', c', rfl, -, -, -, -⟩ := own_form ho
        exact ⟨X', c', rfl, own_base ho hbb.size, b2⟩)
      have PUSH := Lib.hid (fun (w' : World) (hb : Below wr.heap.size wr w') (X' : Option Addr) (c' : Nat) (hx2 : w'.ownsRow w.heap.size 53 2 (.slice X' x.l.length c') x.l.length (stCells x.l)) (v2 : Value) (w2 : World) (hg : w'.grownBy w2 (Value.ownBlock (.slice VA M.length vc))) (hr : w2.ownsRow w.heap.size 57 3 v2 (M.length + 1) (zCells M ++ [.int .i64 x.lo, .int .i64 x.hi, .slice X' x.l.length c'])) =>
        (show OwnZ w2 w.heap.size v2 (M ++ [⟨x.lo, x.hi, X', c', x.l⟩]) ∧ (M ++ [(⟨x.lo, x.hi, X', c', x.l⟩ : Zc)]).map Zc.zn = (L.map Zc.zn).take (k + 1) ∧ Below w.heap.size w w2 from by
          have hO' := HO.out.later hb
          have hbb := below_on HB.out hb
          refine ⟨hO'.snoc (z := ⟨x.lo, x.hi, X', c', x.l⟩) hx2 hg hr, ?_, hbb.grown hg hbb.size (fun k hk => own_ge hO'.row k hk)⟩
          rw [List.map_append, HM.out, List.take_succ_eq_append_getElem (by rw [List.length_map]; exact hlt)]
          congr 1
          have := (List.getElem?_eq_some_iff.1 hx).2
          rw [List.getElem_map, this]
          rfl))
      have OWN := Lib.hid (fun (w' : World) (hb : Below wr.heap.size wr w') => (HO.out.later hb).row)
      have hMi : (M.length + 1) * 40 ≤ 140737488355328 := by omega
      have HS := Lib.hid (show w.heap.size ≤ wr.heap.size from hbw.size)
      clear hc hne hx e0 e1 e2 hxo hxs hbw hMk
      go_upto_region 5 with (fail)
      refine wp_region_facts 14 (by kernel_rfl) (by kernel_rfl)
        (fun v => { tmps := #[.slice (some ⟨b, off, none⟩) L.length c, undef, .slice none 0 0, .slice VA M.length vc, .int .i64 (k : Int), .int .i64 (k : Int), .slice (some ⟨b, off, none⟩) L.length c, .int .i64 (L.length : Int), .bool true, u9, u10, v 0, v 1, v 2, v 3, v 4, v 5, v 6, v 7, v 8, v 9, v 10, v 11, v 12, v 13, u25, undef], defers := [] }) (fun i_ => match i_ with | 0 => u11 | 1 => u12 | 2 => u13 | 3 => u14 | 4 => u15 | 5 => u16 | 6 => u17 | 7 => u18 | 8 => u19 | 9 => u20 | 10 => u21 | 11 => u22 | 12 => u23 | 13 => u24 | _ => undef)
        (fun i_ x_ wx => match i_ with
          | 0 => x_ = .slice VA M.length vc
          | 1 => x_ = .slice (some ⟨b, off, none⟩) L.length c
          | 2 => x_ = .int .i64 (k : Int)
          | 3 => x_ = .pointer (some ⟨b, off + k * 3, none⟩)
          | 4 => x_ = .pointer (some ⟨b, off + k * 3, none⟩)
          | 5 => x_ = .agg #[.int .i64 x.lo, .int .i64 x.hi]
          | 6 => x_ = .slice (some ⟨b, off, none⟩) L.length c
          | 7 => x_ = .int .i64 (k : Int)
          | 8 => x_ = .pointer (some ⟨b, off + k * 3, none⟩)
          | 9 => x_ = .pointer (some ⟨b, off + k * 3 + 2, none⟩)
          | 10 => x_ = .slice x.X x.l.length x.c
          | 11 => ∃ X' c', x_ = .slice X' x.l.length c' ∧ wx.ownsRow w.heap.size 53 2 (.slice X' x.l.length c') x.l.length (stCells x.l)
          | 12 => ∃ X' c', x_ = .agg #[.int .i64 x.lo, .int .i64 x.hi, .slice X' x.l.length c'] ∧ wx.ownsRow w.heap.size 53 2 (.slice X' x.l.length c') x.l.length (stCells x.l)
          | 13 => ∃ g X' c', x_ = .slice (some ⟨g, 0, none⟩) 1 1 ∧ Blk wx g 57 #[.int .i64 x.lo, .int .i64 x.hi, .slice X' x.l.length c'] ∧ wx.ownsRow w.heap.size 53 2 (.slice X' x.l.length c') x.l.length (stCells x.l)
          | _ => True)
        (fun w1 w2 => Below w1.heap.size w1 w2) (fun h1 h2 => below_on h1 h2) (fun _ => Below.refl _ _) (Below.drew (Below.refl _ _)) ?stab ?step ?done
      case stab =>
        rintro i_ x_ w1 w2 h hb
        match i_, h with
        | 0, h => exact h
        | 1, h => exact h
        | 2, h => exact h
        | 3, h => exact h
        | 4, h => exact h
        | 5, h => exact h
        | 6, h => exact h
        | 7, h => exact h
        | 8, h => exact h
        | 9, h => exact h
        | 10, h => exact h
        | 11, h => obtain ⟨X', c', h1, h2⟩ := h; exact ⟨X', c', h1, own_later h2 hb⟩
        | 12, h => obtain ⟨X', c', h1, h2⟩ := h; exact ⟨X', c', h1, own_later h2 hb⟩
        | 13, h => obtain ⟨g, X', c', h1, h2, h3⟩ := h; exact ⟨g, X', c', h1, h2.later hb, own_later h3 hb⟩
        | i_ + 14, _ => trivial
      case step =>
        intro i_ hi_ v w' hb hd
        match i_, hi_ with
        | 0, _ =>
          refine wpOp_one rfl ?_
          clear hd
          go_wp2
          first | exact ⟨_, (by simp [upd]; done), Below.refl _ _, rfl⟩ | exact ⟨(by simp [upd]; done), Below.refl _ _⟩
        | 1, _ =>
          refine wpOp_one rfl ?_
          clear hd
          go_wp2
          first | exact ⟨_, (by simp [upd]; done), Below.refl _ _, rfl⟩ | exact ⟨(by simp [upd]; done), Below.refl _ _⟩
        | 2, _ =>
          refine wpOp_one rfl ?_
          clear hd
          go_wp2
          first | exact ⟨_, (by simp [upd]; done), Below.refl _ _, rfl⟩ | exact ⟨(by simp [upd]; done), Below.refl _ _⟩
        | 3, _ =>
          have h1 : v 1 = _ := hd 1 (List.elem_iff.1 (by kernel_rfl))
          have h2 : v 2 = _ := hd 2 (List.elem_iff.1 (by kernel_rfl))
          refine wpOp_one rfl ?_
          clear hd
          rw [h1, h2]
          go_wp2
          first | exact ⟨_, (by simp [upd, h1, h2]; done), Below.refl _ _, rfl⟩ | exact ⟨(by simp [upd, h1, h2]; done), Below.refl _ _⟩
        | 4, _ =>
          have h3 : v 3 = _ := hd 3 (List.elem_iff.1 (by kernel_rfl))
          refine wpOp_one rfl ?_
          clear hd
          rw [h3]
          go_wp2
          first | exact ⟨_, (by simp [upd, h3]; done), Below.refl _ _, rfl⟩ | exact ⟨(by simp [upd, h3]; done), Below.refl _ _⟩
        | 5, _ =>
          have h4 : v 4 = _ := hd 4 (List.elem_iff.1 (by kernel_rfl))
          refine wpOp_one rfl ?_
          clear hd
          rw [h4]
          have q0 := cell_later hb E0.out
          have q1 := cell_later hb E1.out
          go_wp2
          first | exact ⟨_, (by simp [upd, h4]; done), Below.refl _ _, rfl⟩ | exact ⟨(by simp [upd, h4]; done), Below.refl _ _⟩
        | 6, _ =>
          refine wpOp_one rfl ?_
          clear hd
          go_wp2
          first | exact ⟨_, (by simp [upd]; done), Below.refl _ _, rfl⟩ | exact ⟨(by simp [upd]; done), Below.refl _ _⟩
        | 7, _ =>
          refine wpOp_one rfl ?_
          clear hd
          go_wp2
          first | exact ⟨_, (by simp [upd]; done), Below.refl _ _, rfl⟩ | exact ⟨(by simp [upd]; done), Below.refl _ _⟩
        | 8, _ =>
          have h6 : v 6 = _ := hd 6 (List.elem_iff.1 (by kernel_rfl))
          have h7 : v 7 = _ := hd 7 (List.elem_iff.1 (by kernel_rfl))
          refine wpOp_one rfl ?_
          clear hd
          rw [h6, h7]
          go_wp2
          first | exact ⟨_, (by simp [upd, h6, h7]; done), Below.refl _ _, rfl⟩ | exact ⟨(by simp [upd, h6, h7]; done), Below.refl _ _⟩
        | 9, _ =>
          have h8 : v 8 = _ := hd 8 (List.elem_iff.1 (by kernel_rfl))
          refine wpOp_one rfl ?_
          clear hd
          rw [h8]
          go_wp2
          first | exact ⟨_, (by simp [upd, h8]; done), Below.refl _ _, rfl⟩ | exact ⟨(by simp [upd, h8]; done), Below.refl _ _⟩
        | 10, _ =>
          have h9 : v 9 = _ := hd 9 (List.elem_iff.1 (by kernel_rfl))
          refine wpOp_one rfl ?_
          clear hd
          rw [h9]
          have q0 := cell_later hb E2.out
          go_wp2
          first | exact ⟨_, (by simp [upd, h9]; done), Below.refl _ _, rfl⟩ | exact ⟨(by simp [upd, h9]; done), Below.refl _ _⟩
        | 11, _ =>
          have h10 : v 10 = _ := hd 10 (List.elem_iff.1 (by kernel_rfl))
          refine wpOp_one rfl ?_
          clear hd
          rw [h10]
          have CL := CLN.out w' hb
          clear CLN
          go_wp2_with fail
          refine CL.mono ?_
          rintro e w'' ⟨X', c', rfl, ho, b2⟩
          go_wp2
          exact ⟨_, (by simp [upd, h10]; done), b2, X', c', rfl, ho⟩
        | 12, _ =>
          have h5 : v 5 = _ := hd 5 (List.elem_iff.1 (by kernel_rfl))
          obtain ⟨X11, c11', h11, o11⟩ := hd 11 (List.elem_iff.1 (by kernel_rfl))
          refine wpOp_one rfl ?_
          clear hd
          rw [h5, h11]
          go_wp2
          exact ⟨_, (by simp [upd, h5, h11]; done), Below.refl _ _, X11, c11', rfl, o11⟩
        | 13, _ =>
          obtain ⟨X12, c12', h12, o12⟩ := hd 12 (List.elem_iff.1 (by kernel_rfl))
          refine wpOp_one rfl ?_
          clear hd
          rw [h12]
          have hbn := below_new (Below.refl w'.heap.size w') (.cells #[.int .i64 x.lo, .int .i64 x.hi, .slice X12 x.l.length c12'] 57)
          have KK := Lib.hid (Blk.new w' 57 #[.int .i64 x.lo, .int .i64 x.hi, .slice X12 x.l.length c12'])
          have o12' := own_later o12 hbn
          have OO := Lib.hid o12'
          clear o12 o12'
          go_wp2
          exact ⟨_, (by simp [upd, h12]; done), hbn, w'.heap.size, X12, c12', rfl, KK.out, OO.out⟩
        | k_ + 14, hk => exact absurd hk (by omega)
      case done =>
        intro v w' hb hf
        have h0 : v 0 = .slice VA M.length vc := hf 0 (by omega)
        obtain ⟨gA, XA, cA, h13, B13, o13⟩ := hf 13 (by omega)
        clear hf
        simp only [List.drop_succ_cons, List.drop_zero]
        rw [h0, h13]
        clear h0 h13
        have hown := OWN.out w' hb
        have hsz := hb.size
        have PU := Lib.hid (fun v2 w2 hg hr => PUSH.out w' hb XA cA o13 v2 w2 hg hr)
        have hy : Lies w' (some ⟨gA, 0, none⟩) [.int .i64 x.lo, .int .i64 x.hi, .slice XA x.l.length cA] := fun _ => ⟨gA, 0, rfl, fun j u hu => by
          rw [Nat.zero_add]
          exact B13.cell (by simpa using hu)⟩
        have hs5 := HS.out
        clear PUSH OWN B13 o13 CLN
        go_wp2_with (at_builtin; refine wpList_append_lies _ rfl _ _ 22 rfl w.heap.size 57 i0 (.agg #[.int .i64 0, .int .i64 0, .slice none 0 0]) 3 40 Try.underlying22 hI hz0 hz1 hz2 rfl (by decide) _ M.length (zCells M) rfl hown (some ⟨gA, 0, none⟩) 1 1 (fun h => by cases h) [.int .i64 x.lo, .int .i64 x.hi, .slice XA x.l.length cA] rfl rfl hy (by intro u hu; simp at hu; rcases hu with rfl | rfl | rfl <;> rfl) ?d3 ?d4 ?d5 ?_)
        case d3 => unfold maxLen; omega
        case d4 => omega
        case d5 => omega
        intro v2 w2 ho2 hg2 _
        have nx := PU.out v2 w2 hg2 ho2
        have NX := Lib.hid nx
        clear ho2 hg2 hown hy PU nx
        go_wp2_with fail
        go_roundw
        case rel => exact ⟨k + 1, _, by omega, by first | rfl | go_num, by rw [List.length_append, HMK.out]; rfl, NX.out.1, NX.out.2.1, NX.out.2.2⟩
        case measure => simp [intOf]; omega
    · have hd : decide ((k : Int) < (L.length : Int)) = false := decide_eq_false (by omega)
      have FIN := Lib.hid (show GivesOZ (L.map Zc.zn) w (.returned (.slice VA M.length vc)) wr from ⟨_, M, rfl, HO.out, by rw [HM.out]; exact List.take_of_length_le (by rw [List.length_map]; omega), HB.out⟩)
      clear hMk
      go_wp2
      go_ret
      exact FIN.out
theorem zcopy_any (A : Option Addr) (c : Nat) (L : List Zc) (w : World) (h : OneZ w A c L) (hL : L.length * 40 ≤ 140737488355328) (hE : ∀ z ∈ L, z.l.length * 16 ≤ 140737488355328) :
    Calls Try.prog 10 #[.slice A L.length c] w (GivesZ (L.map Zc.zn) w) := by
  refine (zcopyO_any A c L w h hL hE).mono ?_
  rintro e w' ⟨v, M, rfl, hO, hm, hb⟩
  obtain ⟨V, cv, rfl, h1⟩ := hO.one
  exact ⟨V, cv, M, rfl, h1, hm, hb⟩

set_option maxRecDepth 100000 in
set_option maxHeartbeats 6400000 in
theorem zsame_any (A B : Option Addr) (c d : Nat) (L M : List Zc) (w : World) (h : OneZ w A c L) (h2 : OneZ w B d M) :
    Calls Try.prog 19 #[.slice A L.length c, .slice B M.length d] w (Says (.bool (decide (L.map Zc.zn = M.map Zc.zn))) w) := by
  have hlen := h.len
  have hlen2 := h2.len
  have HD := Lib.hid h
  have HD2 := Lib.hid h2
  obtain ⟨q, hq⟩ : ∃ q, decide (L.map Zc.zn = M.map Zc.zn) = q := ⟨_, rfl⟩
  rw [hq]
  have HQ := Lib.hid hq
  clear h h2 hq
  by_cases hne : L.length = M.length
  · have HNE := Lib.hid hne
    obtain ⟨n, hn⟩ : ∃ n, M.length = n := ⟨_, rfl⟩
    rw [hne, hn]
    rw [hn] at hlen2
    have HLN := Lib.hid (show L.length = n from hne.trans hn)
    have HMN := Lib.hid hn
    clear hne hn hlen
    go_enter Try.func19, Try.ntmps19
    go_wp2_with fail
    go_loopw [5] (fun s5 wr => ∃ (k : Nat), k ≤ n ∧ s5 = .int .i64 (k : Int) ∧ (∀ (u : Nat), u < k → (L.map Zc.zn)[u]? = (M.map Zc.zn)[u]?) ∧ Below w.heap.size w wr) (fun s5 _ => n - (intOf s5).toNat)
    case atStart => exact ⟨0, Nat.zero_le _, rfl, fun u hu => by omega, Below.refl _ _⟩
    case round =>
      obtain ⟨k, hk, rfl, hall, hbw⟩ := hrel
      have HALL := Lib.hid hall
      clear hall
      by_cases hlt : k < n
      · have hltL : k < L.length := by rw [HLN.out]; exact hlt
        have hltM : k < M.length := by rw [HMN.out]; exact hlt
        obtain ⟨b, off, hA, hc⟩ := (HD.out.later hbw).at (fun e => by subst e; simp at hltL)
        obtain ⟨b2, off2, hA2, hc2⟩ := (HD2.out.later hbw).at (fun e => by subst e; simp at hltM)
        subst hA hA2
        obtain ⟨x, hx⟩ : ∃ x, L[k]? = some x := ⟨L[k], List.getElem?_eq_getElem hltL⟩
        obtain ⟨y, hy⟩ : ∃ y, M[k]? = some y := ⟨M[k], List.getElem?_eq_getElem hltM⟩
        obtain ⟨e0, e1, e2⟩ := hc k x hx
        obtain ⟨f0, f1, f2⟩ := hc2 k y hy
        have hxo := (HD.out.one hx).later hbw
        have hyo := (HD2.out.one hy).later hbw
        have hi0 : (0 : Int) ≤ (k : Int) := by omega
        have hi1 : (k : Int) < (n : Int) := by omega
        have gx : (L.map Zc.zn)[k]? = some x.zn := by rw [List.getElem?_map, hx]; rfl
        have gy : (M.map Zc.zn)[k]? = some y.zn := by rw [List.getElem?_map, hy]; rfl
        obtain ⟨lo, hi, X, cx, l⟩ := x
        obtain ⟨yo, yi, Y, cy, r⟩ := y
        dsimp only at e0 e1 e2 f0 f1 f2 hxo hyo
        have NO := Lib.hid (fun (hn : ¬ ((lo = yo ∧ hi = yi) ∧ l = r)) => (show q = false from by
          rw [← HQ.out]
          refine decide_eq_false (fun e => hn ?_)
          rw [e, gy] at gx
          injection gx with gx
          injection gx with g1 g2
          injection g2 with g2 g3
          exact ⟨⟨g1.symm, g2.symm⟩, g3.symm⟩))
        have NX := Lib.hid (fun (hn : (lo = yo ∧ hi = yi) ∧ l = r) => (show ∀ (u : Nat), u < k + 1 → (L.map Zc.zn)[u]? = (M.map Zc.zn)[u]? from fun u hu => by
          by_cases e : u = k
          · subst e
            rw [gx, gy]
            show some (lo, hi, l) = some (yo, yi, r)
            rw [hn.1.1, hn.1.2, hn.2]
          · exact HALL.out u (by omega)))
        have m0 : ∀ d os, (Sort.grow (redrawn wr d) os).cell? ⟨b, off + k * 3, none⟩ = some (.int .i64 lo) := cell_regrown e0
        have m1 : ∀ d os, (Sort.grow (redrawn wr d) os).cell? ⟨b, off + k * 3 + 1, none⟩ = some (.int .i64 hi) := cell_regrown e1
        have m2 : ∀ d os, (Sort.grow (redrawn wr d) os).cell? ⟨b, off + k * 3 + 2, none⟩ = some (.slice X l.length cx) := cell_regrown e2
        have p0 : ∀ d os, (Sort.grow (redrawn wr d) os).cell? ⟨b2, off2 + k * 3, none⟩ = some (.int .i64 yo) := cell_regrown f0
        have p1 : ∀ d os, (Sort.grow (redrawn wr d) os).cell? ⟨b2, off2 + k * 3 + 1, none⟩ = some (.int .i64 yi) := cell_regrown f1
        have p2 : ∀ d os, (Sort.grow (redrawn wr d) os).cell? ⟨b2, off2 + k * 3 + 2, none⟩ = some (.slice Y r.length cy) := cell_regrown f2
        obtain ⟨sm, hsm⟩ : ∃ sm, decide (l = r) = sm := ⟨_, rfl⟩
        have CS := Lib.hid (fun d os => (show Calls Try.prog 16 #[.slice X l.length cx, .slice Y r.length cy] (Sort.grow (redrawn wr d) os) (fun e w'' => e = .returned (.bool sm) ∧ ∃ p : Regrown, w'' = Sort.grow (redrawn wr p.d) p.os) from by
          rw [← hsm]
          have h1 := hxo.later (below_regrown wr d os)
          have h2 := hyo.later (below_regrown wr d os)
          exact Calls.regrown_of (rsame_any X Y cx cy l r _ h1.len h1.stamps h2.stamps)))
        have HSM := Lib.hid hsm
        clear hx hy hc hc2 e0 e1 e2 f0 f1 f2 hxo hyo gx gy hsm hltL hltM
        by_cases t1 : lo = yo ∧ hi = yi
        · obtain ⟨t1, t2⟩ := t1
          subst t1 t2
          cases sm with
          | true =>
            have HT := Lib.hid (NX.out ⟨⟨rfl, rfl⟩, of_decide_eq_true HSM.out⟩)
            go_wp2_with fail
            refine wp_region_quiet_below (by kernel_rfl) (by kernel_rfl) ?_
            repeat (first | go_big_quiet_step (exact CS.out _ _) | quiet_step (exact CS.out _ _))
            refine wpQuiet_nil ?_
            intro _ hw'
            obtain ⟨⟨dq, osq⟩, hw''⟩ := hw'
            subst hw''
            go_wp2_with fail
            go_roundw
            case rel => exact ⟨_, by omega, by first | rfl | go_num, HT.out, below_on hbw (below_regrown wr dq osq)⟩
            case measure => simp [intOf]; omega
          | false =>
            have hqf := NO.out (fun h => of_decide_eq_false HSM.out h.2)
            subst hqf
            go_wp2_with fail
            refine wp_region_quiet_below (by kernel_rfl) (by kernel_rfl) ?_
            repeat (first | go_big_quiet_step (exact CS.out _ _) | quiet_step (exact CS.out _ _))
            refine wpQuiet_nil ?_
            intro _ hw'
            obtain ⟨⟨dq, osq⟩, hw''⟩ := hw'
            subst hw''
            go_wp2
            go_ret
            exact ⟨rfl, below_on hbw (below_regrown wr dq osq)⟩
        · have hqf := NO.out (fun h => t1 h.1)
          subst hqf
          have d1 : (lo == yo && hi == yi) = false := by
            rw [Bool.and_eq_false_iff, beq_eq_false_iff_ne, beq_eq_false_iff_ne]
            by_cases e : lo = yo
            · exact .inr (fun e2 => t1 ⟨e, e2⟩)
            · exact .inl e
          by_cases t2 : lo = yo
          · subst t2
            have t3 : ¬ hi = yi := fun e => t1 ⟨rfl, e⟩
            have d3 : (hi == yi) = false := by rw [beq_eq_false_iff_ne]; exact t3
            clear t1
            go_wp2_with fail
            refine wp_region_quiet_below (by kernel_rfl) (by kernel_rfl) ?_
            repeat (first | go_big_quiet_step (exact CS.out _ _) | quiet_step (exact CS.out _ _))
            refine wpQuiet_nil ?_
            intro _ hw'
            obtain ⟨⟨dq, osq⟩, hw''⟩ := hw'
            subst hw''
            go_wp2
            go_ret
            exact ⟨rfl, below_on hbw (below_regrown wr dq osq)⟩
          · have d3 : (lo == yo) = false := by rw [beq_eq_false_iff_ne]; exact t2
            clear t1
            go_wp2_with fail
            refine wp_region_quiet_below (by kernel_rfl) (by kernel_rfl) ?_
            repeat (first | go_big_quiet_step (exact CS.out _ _) | quiet_step (exact CS.out _ _))
            refine wpQuiet_nil ?_
            intro _ hw'
            obtain ⟨⟨dq, osq⟩, hw''⟩ := hw'
            subst hw''
            go_wp2
            go_ret
            exact ⟨rfl, below_on hbw (below_regrown wr dq osq)⟩
      · have hd : decide ((k : Int) < (n : Int)) = false := decide_eq_false (by omega)
        have hkn : k = n := by omega
        have hqt : q = true := by
          rw [← HQ.out]
          refine decide_eq_true (List.ext_getElem? fun u => ?_)
          by_cases hu : u < n
          · exact HALL.out u (by omega)
          · rw [List.getElem?_eq_none (by rw [List.length_map, HLN.out]; omega), List.getElem?_eq_none (by rw [List.length_map, HMN.out]; omega)]
        subst hqt
        clear hkn
        go_wp2
        go_ret
        exact ⟨rfl, hbw⟩
  · have hqf : q = false := by
      rw [← HQ.out]
      exact decide_eq_false (fun e => hne (by have := congrArg List.length e; simpa using this))
    subst hqf
    have d1 : ((L.length : Int) == (M.length : Int)) = false := by rw [beq_eq_false_iff_ne]; omega
    have d2 : decide ((L.length : Int) = (M.length : Int)) = false := decide_eq_false (by omega)
    have d3 : decide (L.length = M.length) = false := decide_eq_false hne
    clear HQ
    go_enter Try.func19, Try.ntmps19
    go_wp2
    go_ret
    exact ⟨rfl, Below.refl _ _⟩
end Go.Proofs.Ytcfkpjbakccgiaa
namespace Go.Proofs.Ytcfkpjbakccgiaa
open Go.RowKit

set_option maxRecDepth 100000 in
set_option maxHeartbeats 1600000 in
theorem rmeet_any (A : Option Addr) (c1 : Nat) (ls : List (List (Int × Int))) (w : World) (hl : ls.length ≤ 9223372036854775807) (h1 : Rows w A ls) :
    Calls Try.prog 30 #[.slice A ls.length c1] w (Gives (Ve.meetL ls) w) := by
  have hls := h1.len
  have H1 := Lib.hid h1
  clear h1
  by_cases hne : ls = []
  · subst hne
    have hd : (((0 : Nat) : Int) == 0) = true := rfl
    go_enter Try.func30, Try.ntmps30
    go_wp2
    go_ret
    exact ⟨_, rfl, ⟨rfl, .inl ⟨rfl, rfl⟩⟩, Below.refl _ _⟩
  have hpos : 0 < ls.length := List.length_pos_iff.2 hne
  have hd : ((ls.length : Int) == 0) = false := beq_eq_false_iff_ne.2 (by omega)
  obtain ⟨b, off, hA, hcA⟩ := H1.out hne
  obtain ⟨A', c', e0, hL⟩ := hcA 0 hpos
  rw [Nat.add_zero] at e0
  have hlen := hls 0 hpos
  have hS := hL.stamps
  have H1' := H1
  subst hA
  have hm0 : Ve.cnt (ls.getD 0 []) = Ve.mtTo ls 0 := rfl
  have n1 := fun w h => counts_any A' c' (ls.getD 0 []) w hlen h
  rw [hm0] at n1
  obtain ⟨m, hm⟩ : ∃ m, (ls.getD 0 []).length = m := ⟨_, rfl⟩
  rw [hm] at e0 n1
  have N1 := Lib.hid n1
  have HS := Lib.hid hS
  clear n1 hS hm hL hm0 hcA hne
  have hi1 : (0 : Int) < (ls.length : Int) := by omega
  go_enter Try.func30, Try.ntmps30
  go_wp2_with fail
  refine (N1.out _ HS.out).mono ?_
  rintro e w1 ⟨rfl, hb1⟩
  have hz1 := hb1.size
  go_wp2_with (refine wpList_store_row rfl 81 _ _ rfl w1.heap.size (Ve.arr (Ve.mtTo ls 0)) rfl rfl 81 (Ve.arr fun _ => 0) ?s0 (by rw [Ve.arr_size]; exact info64) (by rw [Ve.arr_size, Ve.arr_size]) (one_arr _) ?_)
  case s0 =>
    rw [← Ve.arr_zero]
    exact Blk.new w1 _ _
  rw [← Ve.arr_zero]
  have B0 := (Blk.new w1 81 (Ve.arr fun _ => 0)).row (Ve.arr (Ve.mtTo ls 0))
  have b0 := below_setRow (below_new (below_on (Below.refl _ _) hb1) (.cells (Ve.arr fun _ => 0) 81)) (g := w1.heap.size) hz1 (Ve.arr (Ve.mtTo ls 0))
  clear N1 HS e0
  go_loopw [4] (fun s4 wr => ∃ k : Nat, k + 1 ≤ ls.length ∧ s4 = .int .i64 ((k + 1 : Nat) : Int) ∧ Blk wr w1.heap.size 81 (Ve.arr (Ve.mtTo ls k)) ∧ Below w.heap.size w wr) (fun s4 _ => ls.length - (intOf s4).toNat)
  case atStart => exact ⟨0, hpos, rfl, B0, b0⟩
  case round =>
    obtain ⟨k, hk, rfl, hB, hbw⟩ := hrel
    clear B0 b0 hb1
    by_cases hlt : k + 1 < ls.length
    · have hne : ls ≠ [] := fun e => by subst e; simp at hlt
      obtain ⟨b', off', hA, hcA⟩ := (H1.out.later hbw) hne
      obtain ⟨A2, c2, e0, hL⟩ := hcA (k + 1) hlt
      have hlen := hls (k + 1) hlt
      have hS := hL.stamps
      injection hA with hA
      injection hA with hA1 hA2
      subst hA1 hA2
      have hi0 : (0 : Int) ≤ ((k + 1 : Nat) : Int) := by omega
      have hi1 : ((k + 1 : Nat) : Int) < (ls.length : Int) := by omega
      have hjs : ∀ n, Ve.mtTo ls (k + 1) n = Ve.mnTo (Ve.mtTo ls k) (Ve.cnt (ls.getD (k + 1) [])) 64 n ∨ 64 ≤ n := fun n => by
        by_cases hn : n < 64
        · left
          unfold Ve.mnTo
          rw [if_pos hn]
          rfl
        · right; omega
      have n1 := fun w h => counts_any A2 c2 (ls.getD (k + 1) []) w hlen h
      obtain ⟨f, hf⟩ : ∃ f, Ve.mtTo ls k = f := ⟨_, rfl⟩
      obtain ⟨g, hg⟩ : ∃ g, Ve.cnt (ls.getD (k + 1) []) = g := ⟨_, rfl⟩
      obtain ⟨m, hm⟩ : ∃ m, (ls.getD (k + 1) []).length = m := ⟨_, rfl⟩
      rw [hg] at n1
      rw [hf, hg] at hjs
      rw [hf] at hB
      rw [hm] at e0 n1
      have HJS := Lib.hid hjs
      have N1 := Lib.hid n1
      have HS := Lib.hid hS
      have HB := Lib.hid hB
      clear hjs n1 hS hB hcA hf hg hm hL
      go_wp2_with fail
      refine (N1.out _ HS.out).mono ?_
      rintro e w2 ⟨rfl, hb2⟩
      have hbx := below_on hbw hb2
      have B1 := HB.out.later hb2
      have hz := hbx.size
      have hlt1 := B1.lt
      clear N1 HS HB hb2
      go_wp2_with (refine wpList_store_row rfl 81 _ _ rfl w2.heap.size (Ve.arr g) rfl rfl 81 (Ve.arr fun _ => 0) ?s1 (by rw [Ve.arr_size]; exact info64) (by rw [Ve.arr_size, Ve.arr_size]) (one_arr _) ?_)
      case s1 =>
        rw [← Ve.arr_zero]
        exact Blk.new w2 _ _
      rw [← Ve.arr_zero]
      have B5 := (Blk.new w2 81 (Ve.arr fun _ => 0)).row (Ve.arr g)
      have B4 := (B1.alloc (.cells (Ve.arr fun _ => 0) 81)).rowFar (g' := w2.heap.size) (by omega) (Ve.arr g)
      have b6 := below_setRow (below_new hbx (.cells (Ve.arr fun _ => 0) 81)) (g := w2.heap.size) hz (Ve.arr g)
      go_loopw [6] (fun s6 wq => ∃ n : Nat, n ≤ 64 ∧ s6 = .int .i64 (n : Int) ∧ Blk wq w1.heap.size 81 (Ve.arr (Ve.mnTo f g n)) ∧ Blk wq w2.heap.size 81 (Ve.arr g) ∧ Below w.heap.size w wq) (fun s6 _ => 64 - (intOf s6).toNat)
      case atStart => exact ⟨0, by omega, rfl, B4.same (fun i _ => by unfold Ve.mnTo; rw [if_neg (by omega)]), B5, b6⟩
      case round =>
        obtain ⟨n, hn, rfl, hC, hD, hbq⟩ := hrel
        clear B5 B4 b6 B1
        by_cases hlt2 : n < 64
        · have x0 := hC.arr_cell n hlt2
          have x1 := hC.free n
          have y0 := hD.arr_cell n hlt2
          rw [show Ve.mnTo f g n n = f n from by unfold Ve.mnTo; rw [if_neg (by omega)]] at x0
          have hj0 : (0 : Int) ≤ (n : Int) := by omega
          have hj1 : (n : Int) < 64 := by omega
          by_cases hgt : g n < f n
          · have B7 := (hC.arr_put n hlt2 (g n)).same (f' := Ve.mnTo f g (n + 1)) (fun i _ => Ve.mn_step f g n _ (if_pos hgt).symm i)
            have B8 := hD.far (p := ⟨w1.heap.size, n, none⟩) (by show w2.heap.size ≠ w1.heap.size; omega) (.int .i64 (g n))
            have HB7 := Lib.hid B7
            have HB8 := Lib.hid B8
            have hbz := hbq.setCell (p := ⟨w1.heap.size, n, none⟩) hz1 (.int .i64 (g n))
            clear hC hD B7 B8
            go_wp2_with fail
            go_region
            go_wp2_with fail
            go_roundw
            case rel => exact ⟨n + 1, by omega, by go_num, HB7.out.drew, HB8.out.drew, hbz.drew⟩
            case measure => simp [intOf]; omega
          · have hle : f n ≤ g n := by omega
            have B7 := (hC.arr_put n hlt2 (f n)).same (f' := Ve.mnTo f g (n + 1)) (fun i _ => Ve.mn_step f g n _ (if_neg hgt).symm i)
            have B8 := hD.far (p := ⟨w1.heap.size, n, none⟩) (by show w2.heap.size ≠ w1.heap.size; omega) (.int .i64 (f n))
            have HB7 := Lib.hid B7
            have HB8 := Lib.hid B8
            have hbz := hbq.setCell (p := ⟨w1.heap.size, n, none⟩) hz1 (.int .i64 (f n))
            clear hC hD B7 B8
            go_wp2_with fail
            go_region
            go_wp2_with fail
            go_roundw
            case rel => exact ⟨n + 1, by omega, by go_num, HB7.out.drew, HB8.out.drew, hbz.drew⟩
            case measure => simp [intOf]; omega
        · have hn64 : n = 64 := by omega
          subst hn64
          have B9 := hC.same (f' := Ve.mtTo ls (k + 1)) (fun i hi => by
            rcases HJS.out i with h | h
            · exact h.symm
            · omega)
          have HB9 := Lib.hid B9
          clear hC hD B9
          go_wp2_with fail
          go_roundw
          case rel => exact ⟨k + 1, by omega, by go_num, HB9.out, hbq⟩
          case measure => simp [intOf]; omega
    · have hkl : ls.length = k + 1 := by omega
      have hres : Ve.meetL ls = Ve.ofL (Ve.mtTo ls k) := by unfold Ve.meetL Ve.mt; rw [if_neg (fun e => by subst e; simp at hpos), hkl]; rfl
      have HRES := Lib.hid hres
      have HB := Lib.hid hB
      clear hB hres
      go_wp2_with (refine wpList_load_row rfl 81 _ rfl w1.heap.size rfl 81 _ (0, 0) _ HB.out Try.underlying81 rfl (by rw [Ve.arr_size]; exact info64) ?_)
      refine (of_any _ _).mono ?_
      rintro e w3 ⟨v, rfl, ho, hb3⟩
      have HO := Lib.hid ho
      have hz := hbw.size
      clear ho
      go_wp2
      go_ret
      exact ⟨_, rfl, by rw [HRES.out]; exact own_base HO.out hz, below_on hbw hb3⟩

end Go.Proofs.Ytcfkpjbakccgiaa
namespace Go.Proofs.Ytcfkpjbakccgiaa
open Go.RowKit Fb

namespace Tr
theorem short {l : List (Int × Int)} (h : Ve.fmd l = true) : l.length ≤ 64 := by
  have hf := (Ve.fmd_iff l).1 h
  have up : ∀ j, j < l.length → (j : Int) ≤ (l.getD j (0, 0)).2 ∧ (l.getD j (0, 0)).2 ≤ 63 := by
    intro j
    induction j with
    | zero =>
      intro hj
      have h1 := (hf 0 hj).1
      unfold St.rgt at h1
      have := of_decide_eq_true h1
      omega
    | succ j ih =>
      intro hj
      have h1 := ih (by omega)
      have h2 := hf (j + 1) hj
      have h3 := h2.2 (by omega)
      have h4 := h2.1
      unfold St.rgt at h4
      have := of_decide_eq_true h4
      rw [Nat.add_sub_cancel] at h3
      omega
  rcases Nat.lt_or_ge 64 l.length with h1 | h1
  · have := up 64 h1
    omega
  · exact h1
theorem vec_fmd {zs : List Zn} (h : fmd zs = true) {k : Nat} (hk : k < zs.length) : Ve.fmd (zs.getD k (0, 0, [])).2.2 = true := ((fmd_iff zs).1 h k hk).2.1
theorem some_at (zs : List Zn) (o : Int) : (at_ zs o).isSome = decide (0 ≤ atI zs o) := by
  rcases at_ways zs o with ⟨h1, h2, -⟩ | ⟨k, -, h1, h2, -, -⟩
  · rw [h1, h2]; rfl
  · rw [h1, h2]; exact (decide_eq_true (by omega)).symm
theorem rch_fmd {zs : List Zn} {known : List (Int × Int)} (h : fmd zs = true) (hk : Ve.fmd known = true) (o : Int) : Ve.fmd (rch zs known o) = true := by
  unfold rch
  rcases at_ways zs o with ⟨-, h2, -⟩ | ⟨k, h0, -, h2, -, -⟩
  · rw [h2]; exact hk
  · rw [h2]; exact vec_fmd h h0
theorem rchs_len (zs : List Zn) (known : List (Int × Int)) (f : Nat → Bool) : ∀ k, (rchs zs known f k).length ≤ k
  | 0 => Nat.le_refl _
  | k + 1 => by
    have := rchs_len zs known f k
    unfold rchs
    split
    · rw [List.length_append]; simp; omega
    · omega
end Tr

set_option maxRecDepth 100000 in
set_option maxHeartbeats 3200000 in
theorem zblurred_any (A : Option Addr) (c : Nat) (L : List Zc) (w : World) (h : OneZ w A c L) :
    Calls Try.prog 15 #[.slice A L.length c] w (GivesS (Tr.blr (L.map Zc.zn)) w) := by
  have bn := below_new (Below.refl w.heap.size w) (.cells (Sp.arr fun _ => false) 63)
  have N := zformed_any A c L _ (h.later bn)
  have HD := Lib.hid h
  have HB := Lib.hid (Blk.new w 63 (Sp.arr fun _ => false))
  have BN := Lib.hid bn
  clear h bn
  cases hq : Tr.fmd (L.map Zc.zn) with
  | false =>
    have hR : Tr.blr (L.map Zc.zn) = [] := by unfold Tr.blr; rw [if_neg (by rw [hq]; exact Bool.false_ne_true)]
    rw [hR]
    rw [hq] at N
    have NN := Lib.hid N
    clear N hq hR HB HD
    go_enter Try.func15, Try.ntmps15
    go_wp2_with fail
    rw [marks_zero]
    refine NN.out.mono ?_
    rintro e w1 ⟨rfl, b1⟩
    have BB := Lib.hid (below_on BN.out b1)
    clear b1
    go_wp2
    go_ret
    exact ⟨_, rfl, ⟨rfl, .inl ⟨rfl, rfl⟩⟩, BB.out⟩
  | true =>
    have hR : Tr.blr (L.map Zc.zn) = Sp.ofL (fun o => (Tr.at_ (L.map Zc.zn) (o : Int)).isSome) := by unfold Tr.blr; rw [if_pos hq]
    rw [hR]
    rw [hq] at N
    have NN := Lib.hid N
    clear N hq hR
    go_enter Try.func15, Try.ntmps15
    go_wp2_with fail
    rw [marks_zero]
    refine NN.out.mono ?_
    rintro e w1 ⟨rfl, b1⟩
    have BB := Lib.hid (below_on BN.out b1)
    have HB1 := Lib.hid (HB.out.later b1)
    clear b1 NN HB BN
    go_wp2_with fail
    go_loopw [4] (fun s4 wr => ∃ k : Nat, k ≤ 256 ∧ s4 = .int .i64 (k : Int) ∧ Blk wr w.heap.size 63 (Sp.arr fun o => decide (o < k) && (Tr.at_ (L.map Zc.zn) (o : Int)).isSome) ∧ Below w.heap.size w wr) (fun s4 _ => 256 - (intOf s4).toNat)
    case atStart => exact ⟨0, Nat.zero_le _, rfl, HB1.out.marks_same (fun i _ => by simp), BB.out⟩
    case round =>
      obtain ⟨k, hk, rfl, hB, hbw⟩ := hrel
      have HBK := Lib.hid hB
      have HBW := Lib.hid hbw
      clear hB hbw HB1 BB
      by_cases hlt : k < 256
      · have ZA := zat_any A c L (k : Int) wr (HD.out.later HBW.out)
        obtain ⟨r, hr⟩ : ∃ r, Tr.atI (L.map Zc.zn) (k : Int) = r := ⟨_, rfl⟩
        rw [hr] at ZA
        have NA := Lib.hid ZA
        obtain ⟨g, hg⟩ : ∃ g, decide (0 ≤ r) = g := ⟨_, rfl⟩
        have HG := Lib.hid (show (Tr.at_ (L.map Zc.zn) (k : Int)).isSome = g from by rw [Tr.some_at, hr, hg])
        have hd : decide ((k : Int) < 256) = true := decide_eq_true (by omega)
        have hi0 : (0 : Int) ≤ (k : Int) := by omega
        have hi1 : (k : Int) < 256 := by omega
        clear ZA hr
        go_wp2_with fail
        refine NA.out.mono ?_
        rintro e w2 ⟨rfl, b2⟩
        have hB2 := HBK.out.later b2
        have x1 := hB2.marks_cell k hlt
        have x2 := hB2.free k
        have hB3 := (hB2.marks_put k hlt g).marks_same (f' := fun o => decide (o < k + 1) && (Tr.at_ (L.map Zc.zn) (o : Int)).isSome) (fun i _ => by
          by_cases e : i = k
          · subst e
            rw [if_pos rfl, HG.out, decide_eq_true (Nat.lt_succ_self _), Bool.true_and]
          · rw [if_neg e]
            by_cases e2 : i < k
            · rw [decide_eq_true e2, decide_eq_true (show i < k + 1 by omega)]
            · rw [decide_eq_false e2, decide_eq_false (show ¬ i < k + 1 by omega)])
        have HB3 := Lib.hid hB3
        have HZ := Lib.hid ((below_on HBW.out b2).setCell (p := ⟨w.heap.size, k, none⟩) (Nat.le_refl _) (.bool g))
        clear hB2 hB3 b2 NA
        go_wp2_with fail
        go_roundw
        case rel => exact ⟨k + 1, by omega, by first | rfl | go_num, HB3.out, HZ.out⟩
        case measure => simp [intOf]; omega
      · have hd : decide ((k : Int) < 256) = false := decide_eq_false (by omega)
        have hkl : k = 256 := by omega
        have HB2 := Lib.hid (HBK.out.marks_same (f' := fun o => (Tr.at_ (L.map Zc.zn) (o : Int)).isSome) (fun i hi => by rw [decide_eq_true (show i < k by omega), Bool.true_and]))
        clear hkl HBK
        go_wp2_with (refine wpList_load_row rfl 63 _ rfl w.heap.size rfl 63 _ (0, 0) _ HB2.out Try.underlying63 rfl (by rw [Sp.arr_size]; exact info256) ?_)
        refine (ofS_any _ _).mono ?_
        rintro e w3 ⟨v, rfl, ho, hb3⟩
        have HO := Lib.hid ho
        have hz := HBW.out.size
        clear ho
        go_wp2
        go_ret
        exact ⟨_, rfl, own_base HO.out hz, below_on HBW.out hb3⟩

theorem Gives.none {w w' : World} (hb : Below w.heap.size w w') : Gives [] w (.returned (.slice none 0 0)) w' := ⟨_, rfl, ⟨rfl, .inl ⟨rfl, rfl⟩⟩, hb⟩

set_option maxRecDepth 100000 in
set_option maxHeartbeats 3200000 in
theorem zreach_any (A B : Option Addr) (c cb : Nat) (L : List Zc) (kn : List (Int × Int)) (o : Int) (w : World) (h : OneZ w A c L) (hb : OneL w B cb kn) :
    Calls Try.prog 18 #[.slice A L.length c, .slice B kn.length cb, .int .i64 o] w (Gives (Tr.rchR (L.map Zc.zn) kn o) w) := by
  have hlen := h.len
  have N := zformed_any A c L w h
  have HD := Lib.hid h
  have HK := Lib.hid hb
  clear h hb
  cases hq : Tr.fmd (L.map Zc.zn) with
  | false =>
    have hR : Tr.rchR (L.map Zc.zn) kn o = [] := by unfold Tr.rchR; rw [if_neg (fun h => by rw [hq] at h; exact absurd h.1 Bool.false_ne_true)]
    rw [hR]
    rw [hq] at N
    have NN := Lib.hid N
    clear N hq hR
    go_enter Try.func18, Try.ntmps18
    go_wp2_with fail
    refine NN.out.mono ?_
    rintro e w1 ⟨rfl, b1⟩
    have FIN := Lib.hid (Gives.none b1)
    clear b1
    go_wp2
    go_ret
    exact FIN.out
  | true =>
    rw [hq] at N
    have NN := Lib.hid N
    have HQ := Lib.hid hq
    have KF := Lib.hid (fun (w1 : World) (b1 : Below w.heap.size w w1) => rformed_any B cb kn w1 (HK.out.later b1).len (HK.out.later b1).stamps)
    clear N hq
    cases hk : Ve.fmd kn with
    | false =>
      have hR : Tr.rchR (L.map Zc.zn) kn o = [] := by unfold Tr.rchR; rw [if_neg (fun h => by rw [hk] at h; exact absurd h.2.1 Bool.false_ne_true)]
      rw [hR]
      rw [hk] at KF
      clear hk hR
      go_enter Try.func18, Try.ntmps18
      go_wp2_with fail
      refine NN.out.mono ?_
      rintro e w1 ⟨rfl, b1⟩
      have KF1 := Lib.hid (KF.out w1 b1)
      have B1 := Lib.hid b1
      clear b1 KF
      go_wp2_with fail
      refine KF1.out.mono ?_
      rintro e w2 ⟨rfl, b2⟩
      have FIN := Lib.hid (Gives.none (below_on B1.out b2))
      clear b2
      go_wp2
      go_ret
      exact FIN.out
    | true =>
      rw [hk] at KF
      have HKF := Lib.hid hk
      clear hk
      by_cases ho : 0 ≤ o ∧ o ≤ 255
      · obtain ⟨ho0, ho1⟩ := ho
        have d0 : decide (o < 0) = false := decide_eq_false (by omega)
        have d1 : decide (255 < o) = false := decide_eq_false (by omega)
        have hR : Tr.rchR (L.map Zc.zn) kn o = Tr.rch (L.map Zc.zn) kn o := by unfold Tr.rchR; rw [if_pos ⟨HQ.out, HKF.out, ho0, ho1⟩]
        rw [hR]
        clear hR ho0 ho1
        rcases Tr.at_ways (L.map Zc.zn) o with ⟨h1, h2, -⟩ | ⟨k, h0, h1, h2, -, -⟩
        · have hR : Tr.rch (L.map Zc.zn) kn o = kn := by unfold Tr.rch; rw [h2]; rfl
          rw [hR]
          have ZA := Lib.hid (fun (w1 : World) (b1 : Below w.heap.size w w1) => (show Calls Try.prog 39 #[.slice A L.length c, .int .i64 o] w1 (Says (.int .i64 (-1)) w1) from by
            have := zat_any A c L o w1 (HD.out.later b1)
            rw [h1] at this
            exact this))
          have CP := Lib.hid (fun (w1 : World) (b1 : Below w.heap.size w w1) => rcopy_any B cb kn w1 (by have := Tr.short HKF.out; omega) (HK.out.later b1).2.2.1 (HK.out.later b1).2.2.2)
          clear h1 h2 hR
          go_enter Try.func18, Try.ntmps18
          go_wp2_with fail
          refine NN.out.mono ?_
          rintro e w1 ⟨rfl, b1⟩
          have KF1 := Lib.hid (KF.out w1 b1)
          have B1 := Lib.hid b1
          clear b1 KF NN
          go_wp2_with fail
          refine KF1.out.mono ?_
          rintro e w2 ⟨rfl, b2⟩
          have B2 := Lib.hid (below_on B1.out b2)
          have ZA2 := Lib.hid (ZA.out w2 B2.out)
          clear b2 ZA KF1
          go_wp2_with fail
          refine ZA2.out.mono ?_
          rintro e w3 ⟨rfl, b3⟩
          have B3 := Lib.hid (below_on B2.out b3)
          clear b3 ZA2
          have CP3 := Lib.hid (CP.out w3 B3.out)
          clear CP
          go_wp2_with fail
          refine CP3.out.mono ?_
          rintro e w4 ⟨v, rfl, ho, b4⟩
          have HO := Lib.hid (own_base ho B3.out.size)
          have FB := Lib.hid (below_on B3.out b4)
          clear ho b4
          go_wp2
          go_ret
          exact ⟨_, rfl, HO.out, FB.out⟩
        · rw [List.length_map] at h0
          obtain ⟨x, hx⟩ : ∃ x, L[k]? = some x := ⟨L[k], List.getElem?_eq_getElem h0⟩
          have hg := zn_getD hx
          rw [hg] at h2
          have hR : Tr.rch (L.map Zc.zn) kn o = x.l := by unfold Tr.rch; rw [h2]; rfl
          rw [hR]
          have hxf : Ve.fmd x.l = true := by
            have := Tr.vec_fmd HQ.out (k := k) (by rw [List.length_map]; exact h0)
            rw [hg] at this
            exact this
          have ZA := Lib.hid (fun (w1 : World) (b1 : Below w.heap.size w w1) => (show Calls Try.prog 39 #[.slice A L.length c, .int .i64 o] w1 (Says (.int .i64 (k : Int)) w1) from by
            have := zat_any A c L o w1 (HD.out.later b1)
            rw [h1] at this
            exact this))
          have HXO := Lib.hid (HD.out.one hx)
          have CP := Lib.hid (fun (w1 : World) (b1 : Below w.heap.size w w1) => rcopy_any x.X x.c x.l w1 (by have := Tr.short hxf; omega) (HXO.out.later b1).2.2.1 (HXO.out.later b1).2.2.2)
          obtain ⟨b, off, hA, hc⟩ := HD.out.at (fun e => by subst e; simp at h0)
          obtain ⟨-, -, e2⟩ := hc k x hx
          subst hA
          have E2 := Lib.hid e2
          have hi0 : (0 : Int) ≤ (k : Int) := by omega
          have hi1 : (k : Int) < (L.length : Int) := by omega
          have hdk : decide ((0 : Int) ≤ (k : Int)) = true := decide_eq_true hi0
          clear h1 h2 hR hx hg hxf hc e2
          go_enter Try.func18, Try.ntmps18
          go_wp2_with fail
          refine NN.out.mono ?_
          rintro e w1 ⟨rfl, b1⟩
          have KF1 := Lib.hid (KF.out w1 b1)
          have B1 := Lib.hid b1
          clear b1 KF NN
          go_wp2_with fail
          refine KF1.out.mono ?_
          rintro e w2 ⟨rfl, b2⟩
          have B2 := Lib.hid (below_on B1.out b2)
          have ZA2 := Lib.hid (ZA.out w2 B2.out)
          clear b2 ZA KF1
          go_wp2_with fail
          refine ZA2.out.mono ?_
          rintro e w3 ⟨rfl, b3⟩
          have B3 := Lib.hid (below_on B2.out b3)
          clear b3 ZA2
          have CP3 := Lib.hid (CP.out w3 B3.out)
          have e2 := cell_later B3.out E2.out
          clear CP
          go_wp2_with fail
          refine CP3.out.mono ?_
          rintro e w4 ⟨v, rfl, ho, b4⟩
          have HO := Lib.hid (own_base ho B3.out.size)
          have FB := Lib.hid (below_on B3.out b4)
          clear ho b4 e2
          go_wp2
          go_ret
          exact ⟨_, rfl, HO.out, FB.out⟩
      · have hR : Tr.rchR (L.map Zc.zn) kn o = [] := by unfold Tr.rchR; rw [if_neg (fun h => ho h.2.2)]
        rw [hR]
        clear hR
        by_cases ho0 : o < 0
        · have d0 : decide (o < 0) = true := decide_eq_true ho0
          clear ho ho0
          go_enter Try.func18, Try.ntmps18
          go_wp2_with fail
          refine NN.out.mono ?_
          rintro e w1 ⟨rfl, b1⟩
          have KF1 := Lib.hid (KF.out w1 b1)
          have B1 := Lib.hid b1
          clear b1 KF NN
          go_wp2_with fail
          refine KF1.out.mono ?_
          rintro e w2 ⟨rfl, b2⟩
          have FIN := Lib.hid (Gives.none (below_on B1.out b2))
          clear b2
          go_wp2
          go_ret
          exact FIN.out
        · have d0 : decide (o < 0) = false := decide_eq_false ho0
          have d1 : decide (255 < o) = true := decide_eq_true (by omega)
          clear ho ho0
          go_enter Try.func18, Try.ntmps18
          go_wp2_with fail
          refine NN.out.mono ?_
          rintro e w1 ⟨rfl, b1⟩
          have KF1 := Lib.hid (KF.out w1 b1)
          have B1 := Lib.hid b1
          clear b1 KF NN
          go_wp2_with fail
          refine KF1.out.mono ?_
          rintro e w2 ⟨rfl, b2⟩
          have FIN := Lib.hid (Gives.none (below_on B1.out b2))
          clear b2
          go_wp2
          go_ret
          exact FIN.out

/-- Vectors in memory of the call's own, in a row. -/
structure OwnR (w : World) (base : Nat) (v : Value) (R : List (Option Addr × Nat × List (Int × Int))) : Prop where
  row : w.ownsRow base 23 1 v R.length (R.map fun z => Value.slice z.1 z.2.2.length z.2.1)
  each : ∀ z ∈ R, w.ownsRow base 53 2 (.slice z.1 z.2.2.length z.2.1) z.2.2.length (stCells z.2.2)
section
variable {w w2 : World} {base : Nat} {v v2 : Value} {R : List (Option Addr × Nat × List (Int × Int))}
theorem OwnR.nil (w : World) (base : Nat) : OwnR w base (.slice none 0 0) [] := ⟨⟨rfl, .inl ⟨rfl, rfl⟩⟩, fun _ h => by cases h⟩
theorem OwnR.later (h : OwnR w base v R) (hb : Below w.heap.size w w2) : OwnR w2 base v R := ⟨own_later h.row hb, fun z hz => own_later (h.each z hz) hb⟩
theorem OwnR.snoc (h : OwnR w base v R) {z : Option Addr × Nat × List (Int × Int)} (hz : w.ownsRow base 53 2 (.slice z.1 z.2.2.length z.2.1) z.2.2.length (stCells z.2.2)) (hg : w.grownBy w2 v.ownBlock) (hr : w2.ownsRow base 23 1 v2 (R.length + 1) ((R.map fun z => Value.slice z.1 z.2.2.length z.2.1) ++ [.slice z.1 z.2.2.length z.2.1])) : OwnR w2 base v2 (R ++ [z]) := by
  have keep : ∀ x : Option Addr × Nat × List (Int × Int), w.ownsRow base 53 2 (.slice x.1 x.2.2.length x.2.1) x.2.2.length (stCells x.2.2) → w2.ownsRow base 53 2 (.slice x.1 x.2.2.length x.2.1) x.2.2.length (stCells x.2.2) := fun x hx =>
    own_stays hx (fun k hk => hg.block k (own_lt hx k hk) (own_apart hx h.row (by decide) k hk))
  refine ⟨by rw [List.map_append, List.length_append]; exact hr, fun x hx => ?_⟩
  rcases List.mem_append.1 hx with hx | hx
  · exact keep x (h.each x hx)
  · rw [List.mem_singleton] at hx
    subst hx
    exact keep x hz
theorem OwnR.rows (h : OwnR w base v R) : ∃ A c, v = .slice A R.length c ∧ Rows w A (R.map (·.2.2)) := by
  obtain ⟨A, c, h1, h2, h3, h4, h5⟩ := own_form h.row
  refine ⟨A, c, h1, fun hne => ?_⟩
  have hR : R ≠ [] := fun e => hne (by rw [e]; rfl)
  obtain ⟨b, off, hA, hc⟩ := h5 (fun e => hR (List.map_eq_nil_iff.1 e))
  refine ⟨b, off, hA, fun k hk => ?_⟩
  rw [List.length_map] at hk
  have hg : (R.map (·.2.2)).getD k [] = (R[k]).2.2 := by rw [List.getD_eq_getElem?_getD, List.getElem?_map, List.getElem?_eq_getElem hk]; rfl
  rw [hg]
  obtain ⟨X, cx, e1, e2⟩ := OneL.of_own (h.each R[k] (List.getElem_mem hk))
  injection e1 with e3 _ e4
  refine ⟨(R[k]).1, (R[k]).2.1, hc k _ (by rw [List.getElem?_map, List.getElem?_eq_getElem hk]; rfl), ?_⟩
  rw [e3, e4]
  exact e2
end
theorem undRows : Try.prog.underlying 50 = some (.slice 23) := by kernel_rfl
theorem infoVe : (Try.prog.info? 23).map (fun i => (i.zero, i.size, i.bytes)) = some (some (.slice none 0 0), 1, 24) := by kernel_rfl

set_option maxRecDepth 100000 in
set_option maxHeartbeats 6400000 in
theorem zsince_any (A B C : Option Addr) (c cb cc : Nat) (L : List Zc) (kn it : List (Int × Int)) (w : World) (h : OneZ w A c L) (hb : OneL w B cb kn) (hc : OneL w C cc it) :
    Calls Try.prog 21 #[.slice A L.length c, .slice B kn.length cb, .slice C it.length cc] w (Gives (Tr.sncR (L.map Zc.zn) kn it) w) := by
  have N := zformed_any A c L w h
  have HD := Lib.hid h
  have HK := Lib.hid hb
  have HI := Lib.hid hc
  clear h hb hc
  cases hq : Tr.fmd (L.map Zc.zn) with
  | false =>
    have hR : Tr.sncR (L.map Zc.zn) kn it = [] := by unfold Tr.sncR; rw [if_neg (fun h => by rw [hq] at h; exact absurd h.1 Bool.false_ne_true)]
    rw [hR]
    rw [hq] at N
    have NN := Lib.hid N
    clear N hq hR
    go_enter Try.func21, Try.ntmps21
    go_wp2_with fail
    refine NN.out.mono ?_
    rintro e w1 ⟨rfl, b1⟩
    have FIN := Lib.hid (Gives.none b1)
    clear b1
    go_wp2
    go_ret
    exact FIN.out
  | true =>
    rw [hq] at N
    have NN := Lib.hid N
    have HQ := Lib.hid hq
    have KF := Lib.hid (fun (w1 : World) (b1 : Below w.heap.size w w1) => rformed_any B cb kn w1 (HK.out.later b1).len (HK.out.later b1).stamps)
    clear N hq
    cases hk : Ve.fmd kn with
    | false =>
      have hR : Tr.sncR (L.map Zc.zn) kn it = [] := by unfold Tr.sncR; rw [if_neg (fun h => by rw [hk] at h; exact absurd h.2 Bool.false_ne_true)]
      rw [hR]
      rw [hk] at KF
      clear hk hR
      go_enter Try.func21, Try.ntmps21
      go_wp2_with fail
      refine NN.out.mono ?_
      rintro e w1 ⟨rfl, b1⟩
      have KF1 := Lib.hid (KF.out w1 b1)
      have B1 := Lib.hid b1
      clear b1 KF
      go_wp2_with fail
      refine KF1.out.mono ?_
      rintro e w2 ⟨rfl, b2⟩
      have FIN := Lib.hid (Gives.none (below_on B1.out b2))
      clear b2
      go_wp2
      go_ret
      exact FIN.out
    | true =>
      rw [hk] at KF
      have HKF := Lib.hid hk
      have SE := Lib.hid (fun (w1 : World) (b1 : Below w.heap.size w w1) => set_any C cc it w1 (HI.out.later b1).len (HI.out.later b1).stamps)
      obtain ⟨RL, hRL⟩ : ∃ RL, Tr.rchs (L.map Zc.zn) kn (Sp.inL it) 256 = RL := ⟨_, rfl⟩
      have hR : Tr.sncR (L.map Zc.zn) kn it = (if RL.length = 0 then kn else Ve.meetL RL) := by unfold Tr.sncR; rw [if_pos ⟨HQ.out, HKF.out⟩, hRL]
      rw [hR]
      obtain ⟨RS, hRS⟩ : ∃ RS, (if RL.length = 0 then kn else Ve.meetL RL) = RS := ⟨_, rfl⟩
      rw [hRS]
      have HRS := Lib.hid hRS
      have HRL := Lib.hid hRL
      obtain ⟨i0, hI, hz0, hz1, hz2⟩ := info_parts infoVe
      clear hk hR hRL hRS
      go_enter Try.func21, Try.ntmps21
      go_wp2_with fail
      refine NN.out.mono ?_
      rintro e w1 ⟨rfl, b1⟩
      have KF1 := Lib.hid (KF.out w1 b1)
      have B1 := Lib.hid b1
      clear b1 KF
      go_wp2_with fail
      refine KF1.out.mono ?_
      rintro e w2 ⟨rfl, b2⟩
      have B2 := Lib.hid (below_on B1.out b2)
      have SE2 := Lib.hid (SE.out w2 B2.out)
      clear b2 SE KF1
      go_wp2_with fail
      refine SE2.out.mono ?_
      rintro e w3 ⟨rfl, b3⟩
      have hS0 := Blk.new w3 63 (Sp.arr fun _ => false)
      rw [← marks_zero] at hS0
      have hS1 := hS0.row (Sp.arr (Sp.inL it))
      have bs := below_setRow (below_new (Below.refl w3.heap.size w3) (.cells Try.zeroCells63 63)) (Nat.le_refl _) (Sp.arr (Sp.inL it))
      have B3 := Lib.hid (below_on (below_on B2.out b3) bs)
      have M3 := Lib.hid hS1
      have HS3 := Lib.hid (show w.heap.size ≤ w3.heap.size from (below_on B2.out b3).size)
      clear b3 SE2 hS1 bs
      go_wp2_with (refine wpList_store_row rfl 63 _ _ rfl w3.heap.size (Sp.arr (Sp.inL it)) rfl rfl 63 Try.zeroCells63 hS0 (by rw [Sp.arr_size]; exact info256) (by rw [marks_zero, Sp.arr_size, Sp.arr_size]) (one_marks _) ?_)
      obtain ⟨W4, hW4⟩ : ∃ W4, (w3.alloc (.cells Try.zeroCells63 63)).setRow w3.heap.size (Sp.arr (Sp.inL it)) = W4 := ⟨_, rfl⟩
      obtain ⟨g, hg⟩ : ∃ g, w3.heap.size = g := ⟨_, rfl⟩
      rw [hW4] at B3 M3 ⊢
      rw [hg] at M3 HS3 ⊢
      clear hW4 hS0 hg
      go_loopw [8, 9] (fun s8 s9 wr => ∃ (k : Nat) (R : List (Option Addr × Nat × List (Int × Int))), k ≤ 256 ∧ s9 = .int .i64 (k : Int) ∧ OwnR wr (g + 1) s8 R ∧ R.map (·.2.2) = Tr.rchs (L.map Zc.zn) kn (Sp.inL it) k ∧ Blk wr g 63 (Sp.arr (Sp.inL it)) ∧ Below w.heap.size w wr) (fun _ s9 _ => 256 - (intOf s9).toNat)
      case atStart => exact ⟨0, [], Nat.zero_le _, rfl, OwnR.nil _ _, rfl, M3.out, B3.out⟩
      case round =>
        obtain ⟨k, R, hk, rfl, hR, hm, hB, hbw⟩ := hrel
        obtain ⟨VA, vc, hvv, -, hvm, hvn, -⟩ := own_form hR.row
        subst hvv
        unfold maxLen at hvm
        have HR := Lib.hid hR
        have HM := Lib.hid hm
        have HB := Lib.hid hB
        have HBW := Lib.hid hbw
        have hRl : R.length ≤ k := by
          have h1 := congrArg List.length hm
          have h2 := Tr.rchs_len (L.map Zc.zn) kn (Sp.inL it) k
          rw [List.length_map] at h1
          omega
        have HRLN := Lib.hid hRl
        clear M3 B3 hR hm
        by_cases hlt : k < 256
        · have x1 := hB.marks_cell k hlt
          have hi0 : (0 : Int) ≤ (k : Int) := by omega
          have hi1 : (k : Int) < 256 := by omega
          have hd : decide ((k : Int) < 256) = true := decide_eq_true (by omega)
          obtain ⟨m, hmm⟩ : ∃ m, Sp.inL it k = m := ⟨_, rfl⟩
          rw [hmm] at x1
          cases m with
          | false =>
            have HT := Lib.hid (show R.map (·.2.2) = Tr.rchs (L.map Zc.zn) kn (Sp.inL it) (k + 1) from by
              rw [HM.out]
              show _ = if Sp.inL it k = true then _ else _
              rw [if_neg (by rw [hmm]; exact Bool.false_ne_true)])
            clear hmm hB hbw hRl
            go_wp2_with fail
            go_roundw
            case rel => exact ⟨k + 1, R, by omega, by first | rfl | go_num, HR.out, HT.out, HB.out, HBW.out⟩
            case measure => simp [intOf]; omega
          | true =>
            have hrr : Tr.rchR (L.map Zc.zn) kn (k : Int) = Tr.rch (L.map Zc.zn) kn (k : Int) := by unfold Tr.rchR; rw [if_pos ⟨HQ.out, HKF.out, by omega, by omega⟩]
            have RC := zreach_any A B c cb L kn (k : Int) wr (HD.out.later hbw) (HK.out.later hbw)
            rw [hrr] at RC
            obtain ⟨rv, hrv⟩ : ∃ rv, Tr.rch (L.map Zc.zn) kn (k : Int) = rv := ⟨_, rfl⟩
            rw [hrv] at RC
            have NC := Lib.hid RC
            have HT := Lib.hid (show Tr.rchs (L.map Zc.zn) kn (Sp.inL it) (k + 1) = R.map (·.2.2) ++ [rv] from by
              rw [HM.out, ← hrv]
              show (if Sp.inL it k = true then _ else _) = _
              rw [if_pos hmm])
            have HGW := Lib.hid (show g + 1 ≤ wr.heap.size from hB.lt)
            clear hmm hB hbw hRl hrr RC hrv
            go_wp2_with fail
            refine NC.out.mono ?_
            rintro e w5 ⟨v5, rfl, ho5, b5⟩
            have ho5 := own_base ho5 HGW.out
            obtain ⟨X5, c5, rfl, -, -, -, -⟩ := own_form ho5
            have b6 := below_new (Below.refl w5.heap.size w5) (.cells #[.slice X5 rv.length c5] 23)
            have hR6 := (HR.out.later b5).later b6
            have ho6 := own_later ho5 b6
            have B6 := Lib.hid (below_on (below_on HBW.out b5) b6)
            have HB6 := Lib.hid ((HB.out.later b5).later b6)
            have YB := Lib.hid (Blk.new w5 23 #[.slice X5 rv.length c5])
            have hown := hR6.row
            have hs6 : g + 1 ≤ (w5.alloc (.cells #[.slice X5 rv.length c5] 23)).heap.size := HB6.out.lt
            have hy : Lies (w5.alloc (.cells #[.slice X5 rv.length c5] 23)) (some ⟨w5.heap.size, 0, none⟩) [.slice X5 rv.length c5] := fun _ => ⟨w5.heap.size, 0, rfl, fun j u hu => by
              rw [Nat.zero_add]
              exact YB.out.cell (by simpa using hu)⟩
            have HR6 := Lib.hid hR6
            have HO6 := Lib.hid ho6
            have hrl := HRLN.out
            clear ho5 b5 b6 hR6 ho6 NC x1
            go_wp2_with (at_builtin; refine Go.Proofs.Ytcfkpjbakccgiaa.wpList_append_lies _ rfl _ _ 50 rfl (g + 1) 23 i0 (.slice none 0 0) 1 24 undRows hI hz0 hz1 hz2 rfl (by decide) (.slice VA R.length vc) R.length (R.map fun z => Value.slice z.1 z.2.2.length z.2.1) rfl hown (some ⟨w5.heap.size, 0, none⟩) 1 1 (fun h => by cases h) [.slice X5 rv.length c5] rfl rfl hy (by intro u hu; simp at hu; subst hu; rfl) ?d3 ?d4 ?d5 ?_)
            case d3 => unfold maxLen; omega
            case d4 => omega
            case d5 => exact hs6
            intro v7 w7 ho7 hg7 _
            have hsn := Lib.hid (HR6.out.snoc (z := (X5, c5, rv)) HO6.out hg7 ho7)
            have HB7 := Lib.hid (show Blk w7 g 63 (Sp.arr (Sp.inL it)) from (hg7.block g HB6.out.lt (fun e => by have := own_ge hown g e.symm; omega)).trans HB6.out)
            have HB8 := Lib.hid (B6.out.grown hg7 B6.out.size (fun q hq => by have := own_ge hown q hq; have := HS3.out; omega))
            clear ho7 hg7 hown hy hs6 hrl
            go_wp2_with fail
            go_roundw
            case rel => exact ⟨k + 1, _, by omega, by first | rfl | go_num, hsn.out, by rw [HT.out, List.map_append]; rfl, HB7.out, HB8.out⟩
            case measure => simp [intOf]; omega
        · have hkl : k = 256 := by omega
          have hd : decide ((k : Int) < 256) = false := decide_eq_false (by omega)
          have hme : R.map (·.2.2) = RL := by rw [HM.out, hkl, HRL.out]
          have hln : R.length = RL.length := by rw [← hme, List.length_map]
          have HME := Lib.hid hme
          have hRb : R.length ≤ 256 := by omega
          clear hkl hB hRl hme
          by_cases h0 : RL.length = 0
          · have CP := Lib.hid (rcopy_any B cb kn wr (by have := Tr.short HKF.out; omega) (HK.out.later hbw).2.2.1 (HK.out.later hbw).2.2.2)
            have hRS : RS = kn := by rw [← HRS.out, if_pos h0]
            subst hRS
            have hl0 : R.length = 0 := by omega
            rw [hl0]
            clear h0 hln hl0 hbw hRb
            go_wp2_with fail
            refine CP.out.mono ?_
            rintro e w6 ⟨v, rfl, ho, b6⟩
            have HO := Lib.hid (own_base ho HBW.out.size)
            have FB := Lib.hid (below_on HBW.out b6)
            clear ho b6
            go_wp2
            go_ret
            exact ⟨_, rfl, HO.out, FB.out⟩
          · have hRS : RS = Ve.meetL RL := by rw [← HRS.out, if_neg h0]
            subst hRS
            obtain ⟨VB, vd, hve, hrows⟩ := HR.out.rows
            injection hve with hve1 _ hve2
            subst hve1
            have MT := rmeet_any VA vc (R.map (·.2.2)) wr (by rw [List.length_map]; omega) hrows
            rw [List.length_map, HME.out] at MT
            obtain ⟨n, hn⟩ : ∃ n, R.length = n := ⟨_, rfl⟩
            rw [hn] at MT hln ⊢
            have dn : decide ((n : Int) = 0) = false := decide_eq_false (by omega)
            have dn2 : ((n : Int) == 0) = false := by rw [beq_eq_false_iff_ne]; omega
            have NT := Lib.hid MT
            clear h0 hln hbw hn MT hrows hve2 hRb
            go_wp2_with fail
            refine NT.out.mono ?_
            rintro e w6 ⟨v, rfl, ho, b6⟩
            have HO := Lib.hid (own_base ho HBW.out.size)
            have FB := Lib.hid (below_on HBW.out b6)
            clear ho b6
            go_wp2
            go_ret
            exact ⟨_, rfl, HO.out, FB.out⟩
end Go.Proofs.Ytcfkpjbakccgiaa
namespace Go.Proofs.Ytcfkpjbakccgiaa
open Go.RowKit

section
variable {P : Program} {ops : Array Oper} {md : Region.Mode} {Q : Exit → Act → World → Prop}

theorem wpAny_facts3 {n : Nat} (hB : factsB md ops n = true) (T : (Nat → Value) → Act) (Φ : Nat → (Nat → Value) → World → Prop) (Rel : World → World → Prop) (trans : ∀ {w1 w2 w3}, Rel w1 w2 → Rel w2 w3 → Rel w1 w3) (W0 : World)
    (loc : ∀ i k v x w, k ≠ i → k ∉ deps md ops i → Φ i v w → Φ i (upd v k x) w)
    (step : ∀ i, i < n → ∀ v w, Rel W0 w → (∀ j ∈ deps md ops i, Φ j v w) → wpOp P ops Q i (fun a' w' => ∃ x, a' = T (upd v i x) ∧ Rel w w' ∧ Φ i (upd v i x) w' ∧ ∀ j, j < n → j ≠ i → Φ j v w → Φ j v w') (T v) w)
    (done : ∀ v w, Rel W0 w → (∀ i, i < n → Φ i v w) → wpList P ops Q (ops.toList.drop n) (T v) w) :
    ∀ (f : Nat) (listed : Array Bool) (v : Nat → Value) (w : World), HeadInv md ops n listed → cntTo listed n = f → Rel W0 w → (∀ i, i < n → listed.getD i true = true → Φ i v w) → (∀ i, i < n → listed.getD i true = true → ∀ j ∈ deps md ops i, listed.getD j true = true) → wpAny P md ops Q (f + (ops.size - n)) listed (T v) w := by
  simp only [factsB, Bool.and_eq_true, decide_eq_true_eq] at hB
  obtain ⟨⟨⟨⟨hn, hs⟩, hc⟩, hd⟩, hq⟩ := hB
  intro f
  induction f with
  | zero =>
    intro listed v w inv hcnt hb hfacts _
    have hall := cntTo_zero listed n hcnt
    have he : listed = headListed ops.size n := by
      apply Array.ext
      · rw [inv.size]; simp [headListed]
      · intro i h1 h2
        have hi : i < ops.size := by rw [← inv.size]; exact h1
        have e2 : (headListed ops.size n)[i] = decide (i < n) := by simp [headListed]
        rw [e2]
        by_cases hin : i < n
        · have := hall i hin
          simp [h1] at this
          rw [this, decide_eq_true hin]
        · have := inv.tail i (by omega) hi
          simp [h1] at this
          rw [this, decide_eq_false hin]
    rw [Nat.zero_add]
    have hl : (ops.toList.drop n).length = ops.size - n := by simp
    rw [← hl]
    refine wpAny_of_seq (ops.toList.drop n) n listed _ w (fun j => by simp) ?_ (done v w hb (fun i hi => hfacts i hi (hall i hi)))
    rw [hl, he]
    exact hq
  | succ f ih =>
    intro listed v w inv hcnt hb hfacts hclosed
    obtain ⟨m, hm1, hm2, hm3⟩ := cntTo_pos listed n (by omega)
    have hmr : m ∈ Region.ready md ops listed := by
      have hms : m < ops.size := by omega
      refine mem_ready.2 ⟨hm2, ops[m], Array.getElem?_eq_getElem hms, fun e he hbind => ?_⟩
      have h1 := List.all_eq_true.1 hd m (List.mem_range.2 hms)
      have h2 : e.on ∈ deps md ops m := by
        unfold deps
        rw [Array.getElem?_eq_getElem hms]
        exact List.mem_map.2 ⟨e, List.mem_filter.2 ⟨Array.mem_toList_iff.2 he, hbind⟩, rfl⟩
      have h3 := of_decide_eq_true (List.all_eq_true.1 h1 _ h2)
      have h4 := hm3 e.on h3
      have h5 : e.on < listed.size := by rw [inv.size]; omega
      simp [h5] at h4 ⊢
      exact h4
    rw [show f + 1 + (ops.size - n) = (f + (ops.size - n)) + 1 from by omega]
    refine ⟨fun h0 => (by rw [h0] at hmr; cases hmr), fun i hi => ?_⟩
    have hin : i < n := by
      rcases Nat.lt_or_ge i n with h | h
      · exact h
      · exact absurd hi (tail_waits hs hc hn inv _ m rfl hm1 hm2 i h)
    obtain ⟨hun, oi, hoi, hafter⟩ := mem_ready.1 hi
    have hdl : ∀ j ∈ deps md ops i, listed.getD j true = true ∧ j < n := by
      intro j hj
      unfold deps at hj
      rw [hoi] at hj
      obtain ⟨e, he, rfl⟩ := List.mem_map.1 hj
      obtain ⟨he1, he2⟩ := List.mem_filter.1 he
      have h1 := hafter e (Array.mem_toList_iff.1 he1) he2
      have h2 : e.on < listed.size := by
        rcases Nat.lt_or_ge e.on listed.size with h' | h'
        · exact h'
        · simp [Array.getElem?_eq_none h'] at h1
      have h3 : listed.getD e.on true = true := by simp [h2] at h1 ⊢; exact h1
      refine ⟨h3, ?_⟩
      rcases Nat.lt_or_ge e.on n with h' | h'
      · exact h'
      · have := inv.tail e.on h' (by rw [← inv.size]; exact h2)
        rw [h3] at this
        cases this
    have keep : ∀ j, listed.getD j true = true → (listed.setIfInBounds i true).getD j true = true := fun j hj => by
      by_cases e : j = i
      · subst e; rw [hj] at hun; cases hun
      · rw [getD_set_ne true (fun h => e h.symm)]; exact hj
    refine wpOp_mono ?_ (step i hin v w hb (fun j hj => hfacts j (hdl j hj).2 (hdl j hj).1))
    rintro a' w' ⟨x, rfl, hb', hx, hst⟩
    refine ih _ (upd v i x) w' (inv.set hi hin) (by have := cntTo_set listed i hun n hin; omega) (trans hb hb') (fun j hj hl => ?_) (fun j hj hl d hdj => ?_)
    · by_cases e : j = i
      · subst e
        exact hx
      · rw [getD_set_ne true (fun h => e h.symm)] at hl
        refine loc j i v x w' (fun h => e h.symm) (fun h => ?_) (hst j hj e (hfacts j hj hl))
        have := hclosed j hj hl i h
        rw [hun] at this
        cases this
    · by_cases e : j = i
      · subst e
        exact keep d (hdl d hdj).1
      · rw [getD_set_ne true (fun h => e h.symm)] at hl
        exact keep d (hclosed j hj hl d hdj)

/-- **A region that draws its order, whose operations make memory, and one of which may store into what another one made:** what is known of an operation may speak of what those have yielded for which it waited. -/
theorem wp_region_facts3 {id : Nat} {l : List Oper} {w : World} (n : Nat) (hm : P.follows .mixedOrders = true) (hB : factsB .any l.toArray n = true) (T : (Nat → Value) → Act) (v0 : Nat → Value) (Φ : Nat → (Nat → Value) → World → Prop) (Rel : World → World → Prop) (trans : ∀ {w1 w2 w3}, Rel w1 w2 → Rel w2 w3 → Rel w1 w3) (hself : ∀ w, Rel w w) (hdrew : Rel w w.drew)
    (loc : ∀ i k v x w, k ≠ i → k ∉ deps .any l.toArray i → Φ i v w → Φ i (upd v k x) w)
    (step : ∀ i, i < n → ∀ v w', Rel w w' → (∀ j ∈ deps .any l.toArray i, Φ j v w') → wpOp P l.toArray Q i (fun a' w'' => ∃ x, a' = T (upd v i x) ∧ Rel w' w'' ∧ Φ i (upd v i x) w'' ∧ ∀ j, j < n → j ≠ i → Φ j v w' → Φ j v w'') (T v) w')
    (done : ∀ v w', Rel w w' → (∀ i, i < n → Φ i v w') → wpList P l.toArray Q (l.drop n) (T v) w') :
    (Code.region id l.toArray true).wp P Q (T v0) w := by
  refine wp_region_any hm ?_
  have hn : n < l.toArray.size := by
    simp only [factsB, Bool.and_eq_true, decide_eq_true_eq] at hB
    exact hB.1.1.1.1
  have hw : ∀ w', Rel { w with drawn := w.drawn + 1 } w' → Rel w w' := fun w' h => trans hdrew h
  have hno : ∀ i, i < n → (Array.replicate l.toArray.size false).getD i true = true → False := fun i hi hl => by
    rw [Array.getD_eq_getD_getElem?, Array.getElem?_replicate, if_pos (by omega)] at hl
    cases hl
  have h := wpAny_facts3 hB T Φ Rel trans { w with drawn := w.drawn + 1 } loc (fun i hi v w' hb hd => step i hi v w' (hw w' hb) hd) (fun v w' hb hf => done v w' (hw w' hb) hf)
    n (Array.replicate l.toArray.size false) v0 { w with drawn := w.drawn + 1 }
    ⟨by simp, fun j oj hj hl => (by rw [getD_replicate_false] at hl; cases hl), fun t ht ht' => (by rw [Array.getD_eq_getD_getElem?, Array.getElem?_replicate, if_pos ht']; rfl)⟩ (cntTo_none _ n (by omega)) (hself _) (fun i hi hl => (hno i hi hl).elim) (fun i hi hl => (hno i hi hl).elim)
  rw [show n + (l.toArray.size - n) = l.toArray.size from by omega] at h
  exact h
/-- One operation, walked as a list of one, with the way out behind a letter. -/
theorem wpOp_oneK {i : Nat} {o : Oper} {K : Act → World → Prop} {a : Act} {w : World} (ho : ops[i]? = some o) (h : ∀ K' : Act → World → Prop, (∀ a w, K a w → K' a w) → wpList P ops (Exit.then K' Q) [o] a w) : wpOp P ops Q i K a w := wpOp_one ho (h K (fun _ _ h => h))
end
end Go.Proofs.Ytcfkpjbakccgiaa
