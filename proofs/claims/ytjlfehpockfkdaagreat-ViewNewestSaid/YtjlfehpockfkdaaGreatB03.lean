/-
  What the rows of this claim stand on: DevTop, DevCovers, DevVector, DevMarks, DevJoin, DevSmall, DevFormed, TpFormed, SdEach, SdSmall, SdFormed, AppIn, VdB, CloneW, SdAll, SdPut, VdE.
-/
import Derived.Test.YtjlfehpockfkdaaGreatB01
import Derived.RangeFuncFrom
import Derived.RangeFuncNested
import Derived.RangeFuncBound
import Derived.RangeFuncCalls
import Derived.RangeFuncLeaves
import Derived.RangeFuncWrites
import Derived.Shelf.Abstract
import Derived.Shelf.RegionOpen
import Derived.OwnWalkIn
import Derived.TacticsInMore
import Derived.LoopNIn
import Derived.LoopIn
import Derived.WalkMore
import Derived.RangeFuncBox
import Derived.TacticsIn
import Derived.Lib.SliceRun
import Derived.Test.YtjlfehpockfkdaaGreatB02
namespace Go.Proofs.YtjlfehpockfkdaaGreat
open Go.RowKit Go.Shelf
attribute [local go_sem] Oper.semAt_some
def node(k:Nat):Fin 64:=⟨k % 64,Nat.mod_lt _ (by omega)⟩
theorem node_val{k:Nat}(h:k<64):(node k).val=k:=Nat.mod_eq_of_lt h
def tellN(f:Nat→Int)(i:Fin 64):Array Value:=#[.int .i64 (i.val:Int),.int .i64 (f i.val)]
theorem tellN_node(f:Nat→Int)(k:Nat)(h:k<64):tellN f (node k)=#[.int .i64 (k:Int),.int .i64 (f k)]:=by unfold tellN;rw[node_val h]
theorem comes_mem(f:Nat→Int)(i:Fin 64):∀k,k≤64→(i∈comes node f k↔i.val<k∧0<f i.val)
 |0,_=>by simp[comes]
 |k+1,h=>by
  have ih:=comes_mem f i k (by omega)
  have hv:=node_val (k:=k) (by omega)
  rw[comes,List.mem_append,ih]
  constructor
  ·rintro (⟨h1,h2⟩|h1)
   ·exact⟨by omega,h2⟩
   ·split at h1
    ·rename_i hp
     rw[List.mem_singleton]at h1
     rw[h1,hv]
     exact⟨by omega,hp⟩
    ·cases h1
  ·rintro ⟨h1,h2⟩
   rcases Nat.lt_or_ge i.val k with h3|h3
   ·exact .inl ⟨h3,h2⟩
   ·have h4:i.val=k:=by omega
    rw[h4]at h2
    rw[if_pos h2]
    exact .inr (List.mem_singleton.2 (Fin.ext (by rw[hv];exact h4)))
theorem walk_stops(f:Nat→Int)(b:Nat)(t:TypeId)(Kp:World→World→Prop)(w:World)(hB:Blk w b t (Ve.arr f)) :
  SeqStopsK Fence.wide 2 Tryz.prog 177 #[.pointer (some ⟨b,0,none⟩)] (tellN f) Kp (· = comes node f 64) (fun pre=>∃k,k≤64∧pre=comes node f k) 64 w:=
 each_stops (tellN f) node f (tellN_node f) Fence.wide 2 trivial rfl (by omega) b t Kp w hB
def topOf(f:Nat→Int)(pre:List (Fin 64)):Int:=pre.foldl (fun m i=>if m<f i.val then f i.val else m) 0
theorem topOf_snoc(f:Nat→Int)(pre:List (Fin 64))(i:Fin 64):topOf f (pre++[i])=if topOf f pre<f i.val then f i.val else topOf f pre:=by
 unfold topOf
 rw[List.foldl_append]
 rfl
theorem topTo_nonneg(f:Nat→Int):∀k,0≤Ve.topTo f k
 |0=>Int.le_refl _
 |k+1=>by
  have:=topTo_nonneg f k
  unfold Ve.topTo
  split<;>omega
theorem topOf_comes(f:Nat→Int):∀k,k≤64→topOf f (comes node f k)=Ve.topTo f k
 |0,_=>rfl
 |k+1,h=>by
  have ih:=topOf_comes f k (by omega)
  have hn:=topTo_nonneg f k
  have hv:=node_val (k:=k) (by omega)
  by_cases hf:0<f k
  ·rw[comes_yes _ _ _ hf,topOf_snoc,ih,hv]
   rfl
  ·rw[comes_no _ _ _ hf,ih,Ve.topTo,if_neg (by omega)]
theorem topOf_all(f:Nat→Int):topOf f (comes node f 64)=Ve.top f:=topOf_comes f 64 (Nat.le_refl _)
set_option maxRecDepth 100000 in
set_option maxHeartbeats 3200000 in
theorem greatest_any(A:Option Addr)(c:Nat)(l:List (Int × Int))(w:World)(h1:OneL w A c l) :
  Calls Tryz.prog 106 #[.slice A l.length c] w (Says (.int .i64 (Ve.top (Ve.cnt l))) w):=by
 have n1:=fun wx (hx:OneL wx A c l)=>All_any A c l wx hx
 rw[←topOf_all]
 obtain⟨f,hf⟩:∃f,Ve.cnt l=f:=⟨_,rfl⟩
 rw[hf]at n1 ⊢
 obtain⟨J,hJ⟩:∃J,comes node f 64=J:=⟨_,rfl⟩
 have hsq:=fun b t w hB=>walk_stops f b t (fun _ _=>True) w hB
 rw[hJ]at hsq ⊢
 have SQ:=Hd hsq
 have N1:=Hd n1
 have H1:=Hd h1
 clear n1 h1 hf hJ hsq
 refine(callsIn_wide (n:=3)).1 ?_
 refine callsIn_of_wp_marks Tryz.func106 rfl trivial ?_ rfl
 simp only[Tryz.ntmps106,List.size_toArray,List.length_cons,List.length_nil,Nat.reduceAdd,Nat.reduceSub,Array.replicate_succ,Array.replicate_zero,List.push_toArray,List.append_toArray,List.nil_append,List.cons_append]
 gi_wp2_with fail
 have hb0:=below_new (Below.refl w.heap.size w) (.cells #[.int .i64 0] 3)
 have hB0:=Blk.new w 3 #[.int .i64 0]
 obtain⟨W,hW⟩:∃W,w.alloc (.cells #[.int .i64 0] 3)=W:=⟨_,rfl⟩
 rw[hW]at hb0 hB0 ⊢
 clear hW
 refine⟨trivial,(callsIn_wide.2 (N1.out _ (H1.out.later hb0))).mono ?_⟩
 rintro e w1 ⟨b,rfl,hB,hle,b1⟩
 have bb1:=below_on hb0 b1
 have C0:=hB0.later b1
 have c0:=C0.cell (i:=0) rfl
 have c0f:=C0.free 0
 clear N1 H1 hB0
 gi_wp2_with fail
 refine wpIn_rangeFunc_ownF rfl (by omega) (gf:=177) (lb:=#[.pointer (some ⟨b,0,none⟩)]) rfl trivial enters_each (SQ.out b _ w1 hB) (fun _ _=>trivial) (fun _ _ _ _ _ _ _ _=>trivial) (Below.refl _ _) (fun _=>rfl)
  (fun pre W=>(W.cell? ⟨w.heap.size,0,none⟩=some (.int .i64 (topOf f pre))∧W.frozen? ⟨w.heap.size,0,none⟩=false)∧Below w.heap.size w W)
  (fun _ _ _=>False) ?hI (fun _ _ _ _ _ h _ _=>h) ⟨⟨c0,c0f⟩,bb1⟩
  (fun x=>{ tmps:=#[.slice A l.length c,undef,.int .i64 0,.pointer (some ⟨w.heap.size,0,none⟩),undef,.int .i64 (f x.val),.slice A l.length c,.func (.func 177) #[] #[.pointer (some ⟨b,0,none⟩)],.int .i64 (x.val:Int),.int .i64 (f x.val),undef,undef,undef,undef],defers:=[] }) ?assign ?body ?done ?stop
 case hI=>exact OwnFrom.and (Own.from (fun s A B row hs hg hr=>⟨cell_kept hs.1 hg hr,(frozen_kept hs.1 hg hr).trans hs.2⟩) _) (ownFrom_below (Nat.le_refl _) bb1.size)
 case assign=>
  intro l' x W K hK
  unfold tellN
  gi_wp2
  exact hK
 case body=>
  rintro l' pre x W ⟨⟨hk,hkf⟩,hB⟩ _
  have hs:=topOf_snoc f pre x
  by_cases hlt:topOf f pre<f x.val
  ·rw[if_pos hlt]at hs
   have HS:=Hd hs
   clear hs
   gi_wp2
   refine⟨KeepsOthers.setCell _ _ _,trivial,⟨?_,by rw[World.frozen?_setCell];exact hkf⟩,hB.setCell (p:=⟨w.heap.size,0,none⟩) (Nat.le_refl _) _⟩
   rw[HS.out]
   exact World.cell?_setCell_same' _ _ _ (by rw[hk];rfl)
  ·rw[if_neg hlt]at hs
   have hle2:f x.val≤topOf f pre:=by omega
   have HS:=Hd hs
   clear hs
   gi_wp2
   refine⟨KeepsOthers.setCell _ _ _,trivial,⟨?_,by rw[World.frozen?_setCell];exact hkf⟩,hB.setCell (p:=⟨w.heap.size,0,none⟩) (Nat.le_refl _) _⟩
   rw[HS.out]
   exact World.cell?_setCell_same' _ _ _ (by rw[hk];rfl)
 case done=>
  rintro D ys W hD hys ⟨⟨hk,hkf⟩,hB⟩ hK
  rw[hys]at hk
  have hz:=hB.size
  have hz1:=bb1.size
  gi_wp2
  refine⟨by simp,.inl ⟨_,_,rfl,run_takeDeferred hK,?_⟩⟩
  exact⟨_,results_tmp rfl _ _ _,rfl,hB.trans (belowK_b (w:=w) (Nat.le_refl _) W D _ _ (by omega) hK rfl rfl)⟩
 case stop=>
  rintro D c pre W _ _ h _
  exact h.elim
end Go.Proofs.YtjlfehpockfkdaaGreat
namespace Go.Proofs.YtjlfehpockfkdaaGreat
open Go.RowKit Go.Shelf
attribute [local go_sem] Oper.semAt_some
theorem Blk.setRow{w:World}{g:Nat}{t:TypeId}{old:Array Value}(h:Blk w g t old)(cs:Array Value):Blk (w.setRow g cs) g t cs:=setRow_heap _ _ _ _ _ _ h
theorem cov_comes{f g:Nat→Int}(hf:∀n,0≤f n)(h:∀i∈comes node g 64,g i.val≤f i.val):Ve.cov f g=true:=by
 rw[Ve.cov_iff]
 intro n hn
 by_cases hp:0<g n
 ·have:=h ⟨n,hn⟩ ((comes_mem g ⟨n,hn⟩ 64 (Nat.le_refl _)).2 ⟨hn,hp⟩)
  exact this
 ·have:=hf n
  omega
set_option maxRecDepth 100000 in
set_option maxHeartbeats 3200000 in
theorem covers_any(A B:Option Addr)(c d:Nat)(l r:List (Int × Int))(w:World)(h1:OneL w A c l)(h2:OneL w B d r) :
  Calls Tryz.prog 99 #[.slice A l.length c,.slice B r.length d] w (Says (.bool (Ve.cov (Ve.cnt l) (Ve.cnt r))) w):=by
 have n1:=fun wx (hx:OneL wx A c l)=>countsOf_any A c l wx h1.len hx.stamps
 have n2:=fun wx (hx:OneL wx B d r)=>All_any B d r wx hx
 have hcv:=fun h=>cov_comes (g:=Ve.cnt r) (Ve.cnt_nonneg l) h
 have hno:=fun (i:Fin 64) (h:Ve.cnt l i.val<Ve.cnt r i.val)=>Ve.cov_no i.val i.isLt h
 obtain⟨f,hf⟩:∃f,Ve.cnt l=f:=⟨_,rfl⟩
 obtain⟨g,hg⟩:∃g,Ve.cnt r=g:=⟨_,rfl⟩
 rw[hf]at n1 hcv hno ⊢
 rw[hg]at n2 hcv hno ⊢
 obtain⟨V,hV⟩:∃V,Ve.cov f g=V:=⟨_,rfl⟩
 rw[hV]at hcv hno ⊢
 obtain⟨J,hJ⟩:∃J,comes node g 64=J:=⟨_,rfl⟩
 have hsq:=fun b t w hB=>walk_stops g b t (fun _ _=>True) w hB
 rw[hJ]at hsq hcv
 have SQ:=Hd hsq
 have CV:=Hd hcv
 have NO:=Hd hno
 have N1:=Hd n1
 have N2:=Hd n2
 have H1:=Hd h1
 have H2:=Hd h2
 clear n1 n2 h1 h2 hf hg hJ hV hsq hcv hno
 refine(callsIn_wide (n:=3)).1 ?_
 refine callsIn_of_wp_marks Tryz.func99 rfl trivial ?_ rfl
 simp only[Tryz.ntmps99,List.size_toArray,List.length_cons,List.length_nil,Nat.reduceAdd,Nat.reduceSub,Array.replicate_succ,Array.replicate_zero,List.push_toArray,List.append_toArray,List.nil_append,List.cons_append]
 gi_wp2_with fail
 have hb0:=below_new (Below.refl w.heap.size w) (.cells #[.bool false] 4)
 have hB0:=Blk.new w 4 #[.bool false]
 obtain⟨W,hW⟩:∃W,w.alloc (.cells #[.bool false] 4)=W:=⟨_,rfl⟩
 rw[hW]at hb0 hB0 ⊢
 clear hW
 refine⟨trivial,(callsIn_wide.2 (N1.out _ (H1.out.later hb0))).mono ?_⟩
 rintro e w1 ⟨rfl,b1⟩
 have bb1:=below_on hb0 b1
 have C0:=hB0.later b1
 have hB1:=Blk.new w1 186 (Ve.arr fun _=>0)
 rw[Ve.arr_zero]at hB1
 gi_wp2_with (refine in_store_row rfl 186 _ _ rfl w1.heap.size _ rfl rfl 186 _ hB1 (by rw[Ve.arr_size];exact infoC) (by rw[Ve.arr_size];rfl) (one_arr _) ?_)
 have hB2:=hB1.setRow (Ve.arr f)
 have b2:=below_setRow (below_new (Below.refl w1.heap.size w1) (.cells (Ve.arr fun _=>0) 186)) (Nat.le_refl _) (Ve.arr f)
 rw[←Ve.arr_zero]at hB2 ⊢
 obtain⟨W2,hW2⟩:∃W2,(w1.alloc (.cells (Ve.arr fun _=>0) 186)).setRow w1.heap.size (Ve.arr f)=W2:=⟨_,rfl⟩
 rw[hW2]at hB2 b2 ⊢
 clear hW2 hB1
 have bb2:=below_on bb1 b2
 refine⟨trivial,(callsIn_wide.2 (N2.out _ (H2.out.later bb2))).mono ?_⟩
 rintro e w3 ⟨b,rfl,hB,hle,b3⟩
 have bb3:=below_on bb2 b3
 have z3:=bb3.size
 have D0:=(C0.later b2).later b3
 have D2:=hB2.later b3
 have HD0:=Hd D0
 have HD2:=Hd D2
 clear C0 hB2 N1 N2 H1 H2 D0 D2 hB0
 gi_wp2_with fail
 refine wpIn_rangeFunc_ownF rfl (by omega) (gf:=177) (lb:=#[.pointer (some ⟨b,0,none⟩)]) rfl trivial enters_each (SQ.out b _ w3 hB) (fun _ _=>trivial) (fun _ _ _ _ _ _ _ _=>trivial) (Below.refl _ _) (fun _=>rfl)
  (fun pre W=>(∀i∈pre,g i.val≤f i.val)∧Below w3.heap.size w3 W)
  (fun c' pre W=>(c' = .ret∧V=false∧W.cell? ⟨w.heap.size,0,none⟩=some (.bool false))∧Below w.heap.size w W) ?hI ?hIx ⟨(fun _ h=>by cases h),Below.refl _ _⟩
  (fun x=>{ tmps:=#[.slice A l.length c,.slice B r.length d,undef,undef,.pointer (some ⟨w.heap.size,0,none⟩),.pointer (some ⟨w1.heap.size,0,none⟩),.int .i64 (x.val:Int),.int .i64 (g x.val),.slice A l.length c,.agg (Ve.arr f),.slice B r.length d,.func (.func 177) #[] #[.pointer (some ⟨b,0,none⟩)],.int .i64 (x.val:Int),.int .i64 (g x.val),undef,undef,undef,undef,undef],defers:=[] }) ?assign ?body ?done ?stop
 case hI=>exact OwnFrom.and (Own.from (fun s A B row hs hg hr=>hs) _) (ownFrom_below (Nat.le_refl _) (Nat.le_refl _))
 case hIx=>exact fun c'=>OwnFrom.and (Own.from (fun s A B row hs hg hr=>⟨hs.1,hs.2.1,cell_kept hs.2.2 hg hr⟩) _) (ownFrom_below (Nat.le_refl _) (by omega))
 case assign=>
  intro l' x W K hK
  unfold tellN
  gi_wp2
  exact hK
 case body=>
  rintro l' pre x W ⟨hall,hBw⟩ _
  have r0:=(HD0.out.later hBw).cell (i:=0) rfl
  have r0f:=(HD0.out.later hBw).free 0
  have r2:=(HD2.out.later hBw).arr_cell x.val x.isLt
  have hbw:=below_on bb3 hBw
  have hx0:(0:Int)≤(x.val:Int):=by omega
  have hx1:(x.val:Int)<64:=by have:=x.isLt;omega
  by_cases hlt:f x.val<g x.val
  ·have hV:=NO.out x hlt
   have HV:=Hd hV
   clear hV hall
   gi_wp2
   exact⟨KeepsOthers.setCell _ _ _,⟨rfl,HV.out,World.cell?_setCell_same' _ _ _ (by rw[r0];rfl)⟩,hbw.setCell (p:=⟨w.heap.size,0,none⟩) (Nat.le_refl _) _⟩
  ·have hle2:g x.val≤f x.val:=by omega
   have HA:=Hd hall
   clear hall
   gi_wp2
   refine⟨KeepsOthers.refl _,trivial,?_,hBw⟩
   intro i hi
   rw[List.mem_append,List.mem_singleton]at hi
   rcases hi with hi|rfl
   ·exact HA.out i hi
   ·exact hle2
 case done=>
  rintro D ys W hD hys ⟨hall,hBw⟩ hK
  rw[hys]at hall
  have hV:=CV.out hall
  have r0:=(HD0.out.later hBw).cell (i:=0) rfl
  have r0f:=(HD0.out.later hBw).free 0
  have hbw:=below_on bb3 hBw
  have hz:=hBw.size
  have hend:∀v,(W.setCell ⟨w.heap.size,0,none⟩ v).cell? ⟨w.heap.size,0,none⟩=some v:=fun v=>World.cell?_setCell_same' _ _ _ (by rw[r0];rfl)
  have HE:=Hd hend
  have HV:=Hd hV
  clear hend hall hys hV
  gi_wp2
  have hK':=(KeepsOthers.setCell W ⟨w.heap.size,0,none⟩ (.bool true)).same D _ hK rfl
  refine⟨by simp,.inl ⟨_,_,rfl,run_takeDeferred hK',?_⟩⟩
  have hc5:=cell_kept (HE.out (.bool true)) (grownBy_putObj' _ D (.deferred none)) (fun r e=>by cases e;exact⟨_,hK',rfl⟩)
  refine⟨.bool true,?_,by rw[HV.out],(hbw.setCell (p:=⟨w.heap.size,0,none⟩) (Nat.le_refl _) _).trans (belowK_b (w:=w) (Nat.le_refl _) _ D _ _ (by omega) hK' rfl rfl)⟩
  simp[results,Tryz.f99,go_sem,hc5]
 case stop=>
  rintro D c' pre W hD _ ⟨⟨rfl,hV,hr⟩,hBw⟩ hK
  have hz:=hBw.size
  have HV:=Hd hV
  clear hV
  gi_wp2
  refine⟨by simp,.inl ⟨_,_,rfl,run_takeDeferred hK,?_⟩⟩
  have hc5:=cell_kept hr (grownBy_putObj' _ D (.deferred none)) (fun r e=>by cases e;exact⟨_,hK,rfl⟩)
  refine⟨.bool false,?_,by rw[HV.out],hBw.trans (belowK_b (w:=w) (Nat.le_refl _) W D _ _ (by omega) hK rfl rfl)⟩
  simp[results,Tryz.f99,go_sem,hc5]
end Go.Proofs.YtjlfehpockfkdaaGreat
namespace Go.Proofs.YtjlfehpockfkdaaGreat
open Go.RowKit Go.Shelf
attribute [local go_sem] Oper.semAt_some
def stampsOf(f:Nat→Int)(pre:List (Fin 64)):List (Int × Int):=pre.map fun i=>(f i.val,(i.val:Int))
theorem stampsOf_snoc(f:Nat→Int)(pre:List (Fin 64))(i:Fin 64):stampsOf f (pre++[i])=stampsOf f pre++[(f i.val,(i.val:Int))]:=by unfold stampsOf;rw[List.map_append];rfl
theorem stampsOf_len(f:Nat→Int)(pre:List (Fin 64)):(stampsOf f pre).length=pre.length:=List.length_map _
theorem stampsOf_comes(f:Nat→Int):∀k,k≤64→stampsOf f (comes node f k)=Ve.ofTo f k
 |0,_=>rfl
 |k+1,h=>by
  have ih:=stampsOf_comes f k (by omega)
  have hv:=node_val (k:=k) (by omega)
  by_cases hf:0<f k
  ·rw[comes_yes _ _ _ hf,stampsOf_snoc,ih,hv,Ve.ofTo,if_pos hf]
  ·rw[comes_no _ _ _ hf,ih,Ve.ofTo,if_neg hf,List.append_nil]
theorem stampsOf_all(f:Nat→Int):stampsOf f (comes node f 64)=Ve.ofL f:=by unfold Ve.ofL;exact stampsOf_comes f 64 (Nat.le_refl _)
set_option maxRecDepth 100000 in
set_option maxHeartbeats 3200000 in
theorem vector_any(f:Nat→Int)(w:World) :
  Calls Tryz.prog 164 #[.agg (Ve.arr f)] w (Gives (Ve.ofL f) w):=by
 obtain⟨i0,hi,hz0,hz1,hz2⟩:=info_parts infoSt
 rw[←stampsOf_all]
 obtain⟨J,hJ⟩:∃J,comes node f 64=J:=⟨_,rfl⟩
 have hsq:=fun b t w hB=>walk_stops f b t (fun _ _=>True) w hB
 rw[hJ]at hsq ⊢
 have SQ:=Hd hsq
 clear hJ hsq
 refine(callsIn_wide (n:=3)).1 ?_
 refine callsIn_of_wp_marks Tryz.func164 rfl trivial ?_ rfl
 simp only[Tryz.ntmps164,List.size_toArray,List.length_cons,List.length_nil,Nat.reduceAdd,Nat.reduceSub,Array.replicate_succ,Array.replicate_zero,List.push_toArray,List.append_toArray,List.nil_append,List.cons_append]
 have hB0:=(Blk.new w 186 (Ve.arr f)).alloc (.cells #[.slice none 0 0] 22)
 have hB1:=Blk.new (w.alloc (.cells (Ve.arr f) 186)) 22 #[.slice none 0 0]
 rw[show(w.alloc (.cells (Ve.arr f) 186)).heap.size=w.heap.size+1 from by simp]at hB1
 have hb1:=below_new (below_new (Below.refl w.heap.size w) (.cells (Ve.arr f) 186)) (.cells #[.slice none 0 0] 22)
 gi_wp2_with (refine in_load_row rfl 186 _ rfl w.heap.size rfl 186 _ _ hB0 Tryz.underlying186 rfl (by rw[Ve.arr_size];exact infoC) ?_)
 obtain⟨W,hW⟩:∃W,(w.alloc (.cells (Ve.arr f) 186)).alloc (.cells #[.slice none 0 0] 22)=W:=⟨_,rfl⟩
 rw[hW]at hb1 hB1 ⊢
 clear hW hB0
 refine⟨trivial,(callsIn_wide.2 (all_walker f W)).mono ?_⟩
 rintro e w1 ⟨b,rfl,hB,hle,b1⟩
 have bb1:=below_on hb1 b1
 have C1:=hB1.later b1
 have z1:=bb1.size
 clear hB1
 gi_wp2_with fail
 refine wpIn_rangeFunc_ownF rfl (by omega) (gf:=177) (lb:=#[.pointer (some ⟨b,0,none⟩)]) rfl trivial enters_each (SQ.out b _ w1 hB) (fun _ _=>trivial) (fun _ _ _ _ _ _ _ _=>trivial) (Below.refl _ _) (fun _=>rfl)
  (fun pre W=>(∃v,Boxed W (w.heap.size+1) 22 v∧W.ownsRow w.heap.size 46 2 v pre.length (stCells (stampsOf f pre))∧True)∧Below w.heap.size w W)
  (fun _ _ _=>False) ?hI (fun _ _ _ _ _ h _ _=>h) ⟨⟨.slice none 0 0,C1,⟨rfl,.inl ⟨rfl,rfl⟩⟩,trivial⟩,bb1⟩
  (fun x=>{ tmps:=#[.agg (Ve.arr f),.pointer (some ⟨w.heap.size,0,none⟩),.slice none 0 0,.pointer (some ⟨w.heap.size+1,0,none⟩),.int .i64 (x.val:Int),.int .i64 (f x.val),.agg (Ve.arr f),.func (.func 177) #[] #[.pointer (some ⟨b,0,none⟩)],.int .i64 (x.val:Int),.int .i64 (f x.val),undef,undef,undef,undef,undef,undef,undef],defers:=[] }) ?assign ?body ?done ?stop
 case hI=>exact OwnFrom.and (Own.from (holdsRow_own w.heap.size (w.heap.size+1) 22 46 2 (fun pre=>pre.length) (fun pre=>stCells (stampsOf f pre)) (fun _ _=>True)) _) (ownFrom_below (Nat.le_refl _) z1)
 case assign=>
  intro l' x W K hK
  unfold tellN
  gi_wp2
  exact hK
 case body=>
  rintro l' pre x W ⟨⟨v,hv,hrow,-⟩,hbw⟩ hlen
  have hc:=hv.cell
  have hsz:=hbw.size
  have HST:=Hd (stampsOf_snoc f pre x)
  have HLT:=Hd hv.lt
  gi_wp2_with (gi_at_builtin;refine wpListIn_append_own _ rfl _ _ 22 rfl w.heap.size 46 i0 (.agg #[.int .i64 0,.int .i64 0]) 2 16 Tryz.underlying22 hi hz0 hz1 hz2 rfl (by decide) _ pre.length (stCells (stampsOf f pre)) rfl (hrow.alloc _) ⟨W.heap.size,0,none⟩ 1 1 (stCells [(f x.val,(x.val:Int))]) rfl rfl ?c1 (stCells_one _) ?c3 ?c4 ?c5 ?_)
  case c1=>
   intro j u hu
   rw[show(⟨W.heap.size,0,none⟩:Addr).add j=⟨W.heap.size,j,none⟩ from by simp[Addr.add,eq_comm]]
   exact(Blk.new W 46 #[.int .i64 (f x.val),.int .i64 (x.val:Int)]).cell (by simpa[stCells] using hu)
  case c3=>unfold maxLen;omega
  case c4=>omega
  case c5=>have:=HLT.out;simp;omega
  intro v' w2 hown1 hg1 _
  obtain⟨g',cap',rfl⟩:=ownsRow_succ hown1
  obtain⟨hv1,hv2,hr2,hk2,hb2⟩:=hv.appended (by decide) hrow hsz (by omega) hown1 hg1
  have hc1:=hv1.cell
  have hf1:=hv1.frozen
  rw[←stCells_append,←HST.out]at hr2
  have hln:pre.length+1=(pre++[x]).length:=by simp
  have HR2:=Hd hr2
  have HLN:=Hd hln
  have HV2:=Hd hv2
  clear hv2 hr2 hown1 hg1 hrow hv hv1 hln
  gi_wp2
  refine⟨hk2,trivial,⟨_,HV2.out,?_,trivial⟩,hbw.trans hb2⟩
  rw[←HLN.out]
  exact HR2.out
 case done=>
  rintro D ys W hD hys ⟨⟨v,hv,hrow,-⟩,hbw⟩ hK
  rw[hys,←stampsOf_len f J]at hrow
  have hc:=hv.cell
  have hz:=hbw.size
  gi_wp2
  refine⟨by simp,.inl ⟨_,_,rfl,run_takeDeferred hK,?_⟩⟩
  exact⟨_,results_tmp rfl _ _ _,v,rfl,ownsRow_putObj hrow _ hK rfl,hbw.trans (belowK_b (w:=w) (Nat.le_refl _) W D _ _ (by omega) hK rfl rfl)⟩
 case stop=>
  rintro D c pre W _ _ h _
  exact h.elim
end Go.Proofs.YtjlfehpockfkdaaGreat
namespace Go.Proofs.YtjlfehpockfkdaaGreat
open Go.RowKit Go.Shelf
def putAll(f g:Nat→Int)(pre:List (Fin 64)):Nat→Int:=pre.foldl (fun h i=>fun j=>if j=i.val then (if h j<g j then g j else h j) else h j) f
theorem putAll_snoc(f g:Nat→Int)(pre:List (Fin 64))(x:Fin 64)(j:Nat):putAll f g (pre++[x]) j=if j=x.val then (if putAll f g pre j<g j then g j else putAll f g pre j) else putAll f g pre j:=by
 unfold putAll
 rw[List.foldl_append]
 rfl
theorem putAll_comes(f g:Nat→Int)(hf:∀n,0≤f n):∀k,k≤64→∀j,putAll f g (comes node g k) j=Ve.mxTo f g k j
 |0,_,j=>by unfold Ve.mxTo;rw[if_neg (by omega)];rfl
 |k+1,h,j=>by
  have ih:=putAll_comes f g hf k (by omega)
  have hv:=node_val (k:=k) (by omega)
  have hfk:=hf k
  have hk:Ve.mxTo f g k k=f k:=by unfold Ve.mxTo;rw[if_neg (by omega)]
  rw[←Ve.mx_step f g k _ rfl j]
  by_cases hp:0<g k
  ·rw[comes_yes _ _ _ hp,putAll_snoc,hv,ih j]
   by_cases hj:j=k
   ·rw[if_pos hj,if_pos hj,hj,hk]
   ·rw[if_neg hj,if_neg hj]
  ·rw[comes_no _ _ _ hp,ih j]
   by_cases hj:j=k
   ·rw[if_pos hj,hj,hk,if_neg (by omega)]
   ·rw[if_neg hj]
theorem putAll_all(f g:Nat→Int)(hf:∀n,0≤f n)(j:Nat)(hj:j<64):putAll f g (comes node g 64) j=if f j<g j then g j else f j:=by
 rw[putAll_comes f g hf 64 (Nat.le_refl _) j]
 unfold Ve.mxTo
 rw[if_pos hj]
attribute [local go_sem] Oper.semAt_some
set_option maxRecDepth 100000 in
set_option maxHeartbeats 3200000 in
theorem join_any(A:Option Addr)(c:Nat)(ls:List (List (Int × Int)))(w:World)(hn:ls.length≤9223372036854775807)(h:Rows w A ls) :
  Calls Tryz.prog 125 #[.slice A ls.length c] w (Gives (Ve.joinL ls) w):=by
 have H:=Hd h
 clear h
 refine(callsIn_wide (n:=3)).1 ?_
 refine callsIn_of_wp_marks Tryz.func125 rfl trivial ?_ rfl
 simp only[Tryz.ntmps125,List.size_toArray,List.length_cons,List.length_nil,Nat.reduceAdd,Nat.reduceSub,Array.replicate_succ,Array.replicate_zero,List.push_toArray,List.append_toArray,List.nil_append,List.cons_append]
 gi_wp2_with fail
 rw[←Ve.arr_zero]
 refine wpIn_loop (fun a' wr=>∃(k:Nat) (Ds:List Nat) (u5 u11 u12 u13 u14 u15 u25:Value),k≤ls.length∧Blk wr w.heap.size 186 (Ve.arr (Ve.jnTo ls k))∧Below w.heap.size w wr∧Marks w.heap.size Ds wr ∧
   a'={ tmps:=#[.slice A ls.length c,undef,.slice none 0 0,.pointer (some ⟨w.heap.size,0,none⟩),undef,u5,undef,undef,.slice A ls.length c,.int .i64 (ls.length:Int),.int .i64 (k:Int),u11,u12,u13,u14,u15,undef,undef,undef,undef,undef,undef,undef,undef,undef,u25,undef,undef],defers:=Ds.map Mark })
  (fun a' _=>ls.length-(intOf (a'.tmps.getD 10 undef)).toNat) ?start ?round
 case start=>
  exact⟨0,[],undef,undef,undef,undef,undef,undef,undef,Nat.zero_le _,Blk.new _ _ _,below_new (Below.refl _ _) _,Marks.nil _ _,rfl⟩
 case round=>
  rintro a' wr ⟨k,Ds,u5,u11,u12,u13,u14,u15,u25,hk,hB,hbw,hM,rfl⟩
  by_cases hlt:k<ls.length
  ·have hne:ls≠[]:=fun e=>by subst e;simp at hlt
   obtain⟨b,off,hA,hc⟩:=H.out hne
   obtain⟨A',c',e0,o1⟩:=hc k hlt
   subst hA
   have f0:=(hbw.cell (p:=⟨b,_,none⟩) (World.block_lt_of_cell? _ _ e0)).trans e0
   have hi0:(0:Int)≤(k:Int):=by omega
   have hi1:(k:Int)<(ls.length:Int):=by omega
   obtain⟨v,hv⟩:∃v,ls.getD k []=v:=⟨_,rfl⟩
   rw[hv]at f0 o1
   have n1:=All_any A' c' v wr (o1.later hbw)
   have hj:∀j,j<64→putAll (Ve.jnTo ls k) (Ve.cnt v) (comes node (Ve.cnt v) 64) j=Ve.jnTo ls (k+1) j:=fun j hj=>by
    rw[putAll_all _ _ (Ve.jnTo_nonneg ls k) j hj,Ve.jnTo,hv]
   obtain⟨f,hf⟩:∃f,Ve.jnTo ls k=f:=⟨_,rfl⟩
   obtain⟨g,hg⟩:∃g,Ve.cnt v=g:=⟨_,rfl⟩
   rw[hf,hg]at hj
   rw[hf]at hB
   rw[hg]at n1
   obtain⟨J,hJ⟩:∃J,comes node g 64=J:=⟨_,rfl⟩
   have hsq:=fun b t w hB=>walk_stops g b t (fun _ _=>True) w hB
   rw[hJ]at hsq hj
   have SQ:=Hd hsq
   have HJ:=Hd hj
   have N1:=Hd n1
   have HM:=Hd hM
   have HB:=Hd hB
   clear hc e0 o1 hv n1 hj hf hg hJ hsq hM hB
   gi_wp2_with fail
   refine⟨trivial,(callsIn_wide.2 N1.out).mono ?_⟩
   rintro e w3 ⟨b3,rfl,hB3,hle,b4⟩
   have bb3:=below_on hbw b4
   have hM3:=HM.out.later b4
   have hlt3:=hM3.lt
   have hB0:=HB.out.later b4
   have z3:=bb3.size
   clear N1 HM HB hbw
   gi_wp2_with fail
   refine wpIn_rangeFunc_ownF rfl (by omega) (gf:=177) (lb:=#[.pointer (some ⟨b3,0,none⟩)]) rfl trivial enters_each (SQ.out b3 _ w3 hB3) (fun _ _=>trivial) (fun _ _ _ _ _ _ _ _=>trivial) (Below.refl _ _) (fun _=>rfl)
    (fun pre W=>(Blk W w.heap.size 186 (Ve.arr (putAll f g pre))∧Marks w.heap.size Ds W)∧Below w.heap.size w W)
    (fun _ _ _=>False) ?hI (fun _ _ _ _ _ h _ _=>h) ⟨⟨hB0,hM3⟩,bb3⟩
    (fun x=>{ tmps:=#[.slice (some ⟨b,off,none⟩) ls.length c,undef,.slice none 0 0,.pointer (some ⟨w.heap.size,0,none⟩),undef,.slice A' v.length c',.int .i64 (x.val:Int),.int .i64 (g x.val),.slice (some ⟨b,off,none⟩) ls.length c,.int .i64 (ls.length:Int),.int .i64 (k:Int),.bool true,.pointer (some ⟨b,off+k,none⟩),.slice A' v.length c',.slice A' v.length c',.func (.func 177) #[] #[.pointer (some ⟨b3,0,none⟩)],.int .i64 (x.val:Int),.int .i64 (g x.val),undef,undef,undef,undef,undef,undef,undef,u25,undef,undef],defers:=[] }) ?assign ?body ?done ?stop
   case hI=>exact OwnFrom.and (OwnFrom.and (Own.from (blk_own _ _ fun pre=>Ve.arr (putAll f g pre)) _) (marks_own hlt3)) (ownFrom_below (Nat.le_refl _) z3)
   case assign=>
    intro l' x W K hK
    unfold tellN
    gi_wp2
    exact hK
   case body=>
    rintro l' pre x W ⟨⟨hB,hM⟩,hBw⟩ _
    have c1:=hB.arr_cell x.val x.isLt
    have c2:=hB.free x.val
    have hx0:(0:Int)≤(x.val:Int):=by omega
    have hx1:(x.val:Int)<64:=by have:=x.isLt;omega
    have hst:∀y,y=(if putAll f g pre x.val<g x.val then g x.val else putAll f g pre x.val)→∀i,i<64→(if i=x.val then y else putAll f g pre i)=putAll f g (pre++[x]) i:=fun y hy i _=>by
     rw[putAll_snoc]
     by_cases hi:i=x.val
     ·rw[if_pos hi,if_pos hi,hy,hi]
     ·rw[if_neg hi,if_neg hi]
    have fin:∀y,y=(if putAll f g pre x.val<g x.val then g x.val else putAll f g pre x.val)→KeepsOthers W (W.setCell ⟨w.heap.size,x.val,none⟩ (.int .i64 y))∧True∧(Blk (W.setCell ⟨w.heap.size,x.val,none⟩ (.int .i64 y)) w.heap.size 186 (Ve.arr (putAll f g (pre++[x])))∧Marks w.heap.size Ds (W.setCell ⟨w.heap.size,x.val,none⟩ (.int .i64 y)))∧Below w.heap.size w (W.setCell ⟨w.heap.size,x.val,none⟩ (.int .i64 y)):=fun y hy=>
     ⟨KeepsOthers.setCell _ _ _,trivial,⟨(hB.arr_put x.val x.isLt y).same (hst y hy),hM.others (KeepsOthers.setCell _ _ _)⟩,hBw.setCell (p:=⟨w.heap.size,x.val,none⟩) (Nat.le_refl _) _⟩
    have FIN:=Hd fin
    clear hst fin hB hM
    by_cases hgt:putAll f g pre x.val<g x.val
    ·have HY:=Hd (show g x.val=(if putAll f g pre x.val<g x.val then g x.val else putAll f g pre x.val) from by rw[if_pos hgt])
     gi_wp2
     exact FIN.out _ HY.out
    ·have HY:=Hd (show putAll f g pre x.val=(if putAll f g pre x.val<g x.val then g x.val else putAll f g pre x.val) from by rw[if_neg hgt])
     have hle2:g x.val≤putAll f g pre x.val:=by omega
     gi_wp2
     exact FIN.out _ HY.out
   case done=>
    rintro D ys W hD hys ⟨⟨hB,hM⟩,hBw⟩ hK
    rw[hys]at hB
    have hB2:=Hd (hB.same HJ.out)
    have hM2:=Hd (hM.cons (by omega) (fun h=>by have:=hlt3 D h;omega) hK)
    clear hB hM hys hK
    gi_wp2
    refine⟨⟨k+1,D::Ds,.slice A' v.length c',.bool true,.pointer (some ⟨b,off+k,none⟩),.slice A' v.length c',.slice A' v.length c',.func (.func 177) #[] #[.pointer (some ⟨b3,0,none⟩)],.int .i64 ((k:Int)+1),by omega,hB2.out,hBw,hM2.out,?_⟩,?_⟩
    ·rfl
    ·simp[intOf]
     omega
   case stop=>
    rintro D c pre W _ _ h _
    exact h.elim
  ·have hkl:k=ls.length:=by omega
   subst hkl
   have HM:=Hd hM
   have HB:=Hd hB
   clear hM hB
   gi_wp2_with (refine in_load_row rfl 186 _ rfl w.heap.size rfl 186 _ _ HB.out Tryz.underlying186 rfl (by rw[Ve.arr_size];exact infoC) ?_)
   refine⟨trivial,(callsIn_wide.2 (vector_any _ _)).mono ?_⟩
   rintro e w3 ⟨v,rfl,ho,b3⟩
   have HO:=Hd ho
   have hM3:=HM.out.later b3
   have bb3:=below_on hbw b3
   have HM3:=Hd hM3
   clear ho hM3 HM HB
   gi_wp2
   refine leaves_marks (n₀:=w.heap.size) (fun wx=>wx.ownsRow w.heap.size 46 2 v (Ve.joinL ls).length (stCells (Ve.joinL ls))∧Below w.heap.size w wx) ?_ ?_ Ds w3 HM3.out ⟨own_base HO.out hbw.size,bb3⟩
   ·rintro wx D ⟨q1,q2⟩ hD hK
    exact⟨ownsRow_putObj q1 _ hK rfl,q2.trans (belowK_b (w:=w) (Nat.le_refl _) wx D _ _ hD hK rfl rfl)⟩
   ·rintro wx ⟨q1,q2⟩
    exact⟨_,results_tmp rfl _ _ _,v,rfl,q1,q2⟩
end Go.Proofs.YtjlfehpockfkdaaGreat
namespace Go.Proofs.YtjlfehpockfkdaaGreat
open Go.RowKit
set_option maxHeartbeats 800000 in
theorem count_any(A:Option Addr)(c1:Nat)(l:List (Int × Int))(n:Int)(w:World)(h1:OneL w A c1 l) :
  Calls Tryz.prog 167 #[.slice A l.length c1,.int .i64 n] w (Says (.int .i64 (countOf l n)) w):=by
 by_cases h0:n<0
 ·have hc:countOf l n=0:=by unfold countOf;rw[if_neg (by omega)]
  have HC:=Hd hc
  clear hc
  have hd:decide (n<0)=true:=decide_eq_true h0
  go_enter Tryz.func167,Tryz.ntmps167
  go_wp2
  go_ret
  exact⟨by rw[HC.out];rfl,Below.refl _ _⟩
 ·have hd:decide (n<0)=false:=decide_eq_false h0
  by_cases h2:64≤n
  ·have hc:countOf l n=0:=by unfold countOf;rw[if_neg (by omega)]
   have HC:=Hd hc
   clear hc
   have hd2:decide (64≤n)=true:=decide_eq_true h2
   go_enter Tryz.func167,Tryz.ntmps167
   go_wp2
   go_ret
   exact⟨by rw[HC.out];rfl,Below.refl _ _⟩
  ·obtain⟨k,rfl⟩:∃k:Nat,n=(k:Int):=⟨n.toNat,by omega⟩
   have hk:k<64:=by omega
   have hc:countOf l (k:Int)=Ve.cnt l k:=by unfold countOf;rw[if_pos (by omega)];rfl
   have HC:=Hd hc
   have hd2:decide (64≤(k:Int))=false:=decide_eq_false h2
   have N1:=Hd (countsOf_any A c1 l w h1.len h1.stamps)
   clear hc
   have hix:=fun w=>index_counts (Ve.cnt l) k hk w
   go_enter Tryz.func167,Tryz.ntmps167
   go_wp2_with fail
   refine N1.out.mono ?_
   rintro e w2 ⟨rfl,hb2⟩
   go_wp2
   go_ret
   exact⟨by rw[HC.out];rfl,hb2⟩
set_option maxHeartbeats 1600000 in
theorem has_any(A:Option Addr)(c1:Nat)(l:List (Int × Int))(c n:Int)(w:World)(h1:OneL w A c1 l) :
  Calls Tryz.prog 133 #[.slice A l.length c1,.agg #[.int .i64 c,.int .i64 n]] w (Says (.bool (hasOf l c n)) w):=by
 have hb0:=below_new (Below.refl w.heap.size w) (.cells #[.int .i64 c,.int .i64 n] 46)
 have hB:=Blk.new w 46 #[.int .i64 c,.int .i64 n]
 have h1':=h1.later hb0
 clear h1
 obtain⟨W,hW⟩:∃W,w.alloc (.cells #[.int .i64 c,.int .i64 n] 46)=W:=⟨_,rfl⟩
 rw[hW]at hb0 hB h1'
 have HW:=Hd hW
 clear hW
 have k0:∀d os,(Sort.grow (redrawn W d) os).cell? ⟨w.heap.size,0,none⟩=some (.int .i64 c):=cell_regrown (hB.cell rfl)
 have k1:∀d os,(Sort.grow (redrawn W d) os).cell? ⟨w.heap.size,1,none⟩=some (.int .i64 n):=cell_regrown (hB.cell rfl)
 clear hB
 cases hr:St.rgt c n
 all_goals
  have hh:hasOf l c n=(St.rgt c n&&decide (c≤countOf l n)):=rfl
  rw[hr]at hh
  have HH:=Hd hh
  have cR:∀d os,Calls Tryz.prog 111 #[.agg #[.int .i64 c,.int .i64 n]] (Sort.grow (redrawn W d) os) fun e w''=>e = .returned (.bool (St.rgt c n))∧∃p:Regrown,w''=Sort.grow (redrawn W p.d) p.os:=fun d os=>Calls.regrown_of (right_any c n _)
  have cC:∀d os,Calls Tryz.prog 167 #[.slice A l.length c1,.int .i64 n] (Sort.grow (redrawn W d) os) fun e w''=>e = .returned (.int .i64 (countOf l n))∧∃p:Regrown,w''=Sort.grow (redrawn W p.d) p.os:=fun d os=>Calls.regrown_of (count_any A c1 l n _ (h1'.later (below_regrown W d os)))
  rw[hr]at cR
  have CR:=Hd cR
  have CC:=Hd cC
  clear hh hr cR cC
  go_enter Tryz.func133,Tryz.ntmps133
  go_wp2_with fail
  rw[HW.out]
  refine wp_region_quiet_below (by kernel_rfl) (by kernel_rfl) ?_
  repeat (first|go_big_quiet_step (first|exact CR.out _ _|exact CC.out _ _)|quiet_step (first|exact CR.out _ _|exact CC.out _ _))
  refine wpQuiet_nil ?_
  intro _ hw'
  obtain⟨⟨dq,osq⟩,hw''⟩:=hw'
  subst hw''
  go_wp2
  go_ret
  exact⟨by rw[HH.out];rfl,below_on hb0 (below_regrown W dq osq)⟩
set_option maxHeartbeats 800000 in
theorem vcompare_any(A B:Option Addr)(c d:Nat)(l r:List (Int × Int))(w:World)(h1:OneL w A c l)(h2:OneL w B d r) :
  Calls Tryz.prog 113 #[.slice A l.length c,.slice B r.length d] w (Says (.int .i64 (Ve.stand (Ve.cnt l) (Ve.cnt r))) w):=by
 have hs:=Ve.stand_eq (Ve.cnt l) (Ve.cnt r)
 have n1:=covers_any A B c d l r w h1 h2
 have n2:=fun wx hx hy=>covers_any B A d c r l wx hx hy
 obtain⟨o,ho⟩:∃o,Ve.cov (Ve.cnt l) (Ve.cnt r)=o:=⟨_,rfl⟩
 obtain⟨u,hu⟩:∃u,Ve.cov (Ve.cnt r) (Ve.cnt l)=u:=⟨_,rfl⟩
 rw[ho]at n1 hs
 rw[hu]at n2 hs
 have N1:=Hd n1
 have N2:=Hd n2
 have H1:=Hd h1
 have H2:=Hd h2
 have HS:=Hd hs
 clear n1 n2 h1 h2 hs ho hu
 cases o<;>cases u
 all_goals
  go_enter Tryz.func113,Tryz.ntmps113
  go_wp2_with fail
  refine N1.out.mono ?_
  rintro e w1 ⟨rfl,b1⟩
  have N3:=Hd (N2.out w1 (H2.out.later b1) (H1.out.later b1))
  clear N1 N2
  go_wp2_with fail
  refine N3.out.mono ?_
  rintro e w2 ⟨rfl,b2⟩
  clear N3
  go_wp2
  go_ret
  exact⟨by rw[HS.out];rfl,below_on b1 b2⟩
set_option maxHeartbeats 1600000 in
theorem with_any(A:Option Addr)(c1:Nat)(l:List (Int × Int))(c n:Int)(w:World)(h1:OneL w A c1 l) :
  Calls Tryz.prog 159 #[.slice A l.length c1,.agg #[.int .i64 c,.int .i64 n]] w (Gives (Ve.joinL [l,[(c,n)]]) w):=by
 have hb0:=below_new (below_new (below_new (Below.refl w.heap.size w) (.cells #[.int .i64 c,.int .i64 n] 46)) (.cells #[.int .i64 c,.int .i64 n] 46)) (.cells #[.slice A l.length c1,.slice (some ⟨w.heap.size+1,0,none⟩) 1 1] 22)
 have hB:=(Blk.new (w.alloc (.cells #[.int .i64 c,.int .i64 n] 46)) 46 #[.int .i64 c,.int .i64 n]).alloc (.cells #[.slice A l.length c1,.slice (some ⟨w.heap.size+1,0,none⟩) 1 1] 22)
 rw[show(w.alloc (.cells #[.int .i64 c,.int .i64 n] 46)).heap.size=w.heap.size+1 from by simp]at hB
 have hC:=Blk.new ((w.alloc (.cells #[.int .i64 c,.int .i64 n] 46)).alloc (.cells #[.int .i64 c,.int .i64 n] 46)) 22 #[.slice A l.length c1,.slice (some ⟨w.heap.size+1,0,none⟩) 1 1]
 rw[show((w.alloc (.cells #[.int .i64 c,.int .i64 n] 46)).alloc (.cells #[.int .i64 c,.int .i64 n] 46)).heap.size=w.heap.size+2 from by simp]at hC
 have hR:=rows_two (l:=l) (r:=[(c,n)]) hC (h1.later hb0) (one_stamp hB)
 have hj:=join_any (some ⟨w.heap.size+2,0,none⟩) 2 [l,[(c,n)]] _ (by simp) hR
 have HJ:=Hd hj
 clear hj hR hB hC h1
 go_enter Tryz.func159,Tryz.ntmps159
 go_wp2_with fail
 refine HJ.out.mono ?_
 rintro e w1 ⟨v,rfl,ho,hb1⟩
 have HO:=Hd ho
 clear ho
 go_wp2
 go_ret
 exact⟨_,rfl,own_base HO.out (by simp;omega),below_on hb0 hb1⟩
def lastN(l:List (Int × Int)):Nat→Int
 |0=> -1
 |k+1=>(l.getD k (0,0)).2
set_option maxHeartbeats 1600000 in
theorem formed_any(A:Option Addr)(c1:Nat)(l:List (Int × Int))(w:World)(h1:OneL w A c1 l) :
  Calls Tryz.prog 49 #[.slice A l.length c1] w (Says (.bool (Ve.fmd l)) w):=by
 have hl:=h1.len
 have H1:=Hd h1.stamps
 clear h1
 go_enter Tryz.func49,Tryz.ntmps49
 go_wp2_with fail
 go_loopw [3,8] (fun s3 s8 wr=>∃k:Nat,k≤l.length∧s8 = .int .i64 (k:Int)∧s3 = .int .i64 (lastN l k)∧Ve.fmTo l k∧Below w.heap.size w wr) (fun _ s8 _=>l.length-(intOf s8).toNat)
 case atStart=>exact⟨0,Nat.zero_le _,rfl,rfl,fun j hj=>by omega,Below.refl _ _⟩
 case round=>
  obtain⟨k,hk,rfl,rfl,heq,hbw⟩:=hrel
  have HEQ:=Hd heq
  clear heq
  by_cases hlt:k<l.length
  ·have hne:l≠[]:=fun e=>by subst e;simp at hlt
   obtain⟨b,off,hA,hcA⟩:=(H1.out.later hbw) hne
   subst hA
   obtain⟨e0,e1⟩:=hcA k hlt
   have hi0:(0:Int)≤(k:Int):=by omega
   have hi1:(k:Int)<(l.length:Int):=by omega
   obtain⟨x,hx⟩:∃x,l.getD k (0,0)=x:=⟨_,rfl⟩
   rw[hx]at e0 e1
   obtain⟨x1,x2⟩:=x
   have HB2:=Hd (Blk.new wr 46 #[.int .i64 x1,.int .i64 x2])
   have hbn:=below_new hbw (.cells #[.int .i64 x1,.int .i64 x2] 46)
   obtain⟨ln,hln⟩:∃ln,lastN l k=ln:=⟨_,rfl⟩
   rw[hln]
   have hprev:0<k→(l.getD (k-1) (0,0)).2=ln:=fun h=>by
    cases k with
    |zero=>omega
    |succ m=>rw[←hln];rfl
   have hz:k=0→ln = -1:=fun h=>by subst h;rw[←hln];rfl
   have hnext:lastN l (k+1)=x2:=by show(l.getD k (0,0)).2=x2;rw[hx]
   have HX:=Hd hx
   have HP:=Hd hprev
   have HZ:=Hd hz
   have HN:=Hd hnext
   have HLN:=Hd hln
   clear hx hprev hz hnext hln hcA
   go_wp2_with fail
   refine(right_any _ _ _).mono ?_
   rintro e w1 ⟨rfl,hb1⟩
   have hbx:=below_on hbn hb1
   have B2:=HB2.out.later hb1
   have g0:=B2.cell (i:=0) rfl
   have g1:=B2.cell (i:=1) rfl
   clear HB2 B2
   cases hr:St.rgt x1 x2
   ·have hno:Ve.fmd l=false:=Ve.fmd_no k hlt (fun h=>by rw[HX.out,hr]at h;exact absurd h.1 (by simp))
    have HNO:=Hd hno
    clear hno hr
    go_wp2
    go_ret
    exact⟨by rw[HNO.out];rfl,hbx⟩
   ·have hrr:1≤x1∧0≤x2∧x2≤63:=by unfold St.rgt at hr;exact of_decide_eq_true hr
    have HR:=Hd hr
    clear hr
    by_cases hle:x2≤ln
    ·have hd:decide (x2≤ln)=true:=decide_eq_true hle
     have hno:Ve.fmd l=false:=Ve.fmd_no k hlt (fun h=>by
      by_cases hk0:k=0
      ·have:=HZ.out hk0;omega
      ·have h2:=h.2 (by omega)
       rw[HX.out,HP.out (by omega)]at h2
       have h3:ln<x2:=h2
       omega)
     have HNO:=Hd hno
     clear hno
     go_wp2
     go_ret
     exact⟨by rw[HNO.out];rfl,hbx⟩
    ·have hd:decide (x2≤ln)=false:=decide_eq_false hle
     have hall:Ve.fmTo l (k+1):=by
      intro j hj
      by_cases e:j=k
      ·subst e
       refine⟨by rw[HX.out];exact HR.out,fun h0 =>?_⟩
       rw[HX.out,HP.out h0]
       show ln<x2
       omega
      ·exact HEQ.out j (by omega)
     have HALL:=Hd hall
     clear hall
     go_wp2_with fail
     go_roundw
     case rel=>exact⟨k+1,by omega,by go_num,by rw[HN.out],HALL.out,hbx⟩
     case measure=>simp[intOf];omega
  ·have hkl:k=l.length:=by omega
   subst hkl
   have hyes:Ve.fmd l=true:=(Ve.fmd_iff l).2 HEQ.out
   have HY:=Hd hyes
   clear hyes
   go_wp2
   go_ret
   exact⟨by rw[HY.out];rfl,hbw⟩
theorem Sp.fmd_one(lo hi:Int):Sp.fmd [(lo,hi)]=decide (0≤lo∧lo≤hi∧hi≤255):=by
 by_cases h:0≤lo∧lo≤hi∧hi≤255
 ·rw[decide_eq_true h,Sp.fmd_iff]
  intro j hj
  obtain rfl:j=0:=by simpa using hj
  exact⟨h.1,h.2.1,by show hi<256;omega,fun h=>by omega⟩
 ·rw[decide_eq_false h]
  refine Sp.fmd_no _ 0 (by simp) (fun h2=>h ?_)
  have h3:hi<256:=h2.2.2.1
  exact⟨h2.1,h2.2.1,by omega⟩
set_option maxRecDepth 100000 in
set_option maxHeartbeats 6400000 in
theorem tformed_any(A:Option Addr)(c:Nat)(L:List Zc)(w:World)(h:OneZ w A c L) :
  Calls Tryz.prog 112 #[.slice A L.length c] w (Says (.bool (Tr.fmd (L.map Zc.zn))) w):=by
 have hlen:=h.len
 have HD:=Hd h
 obtain⟨q,hq⟩:∃q,Tr.fmd (L.map Zc.zn)=q:=⟨_,rfl⟩
 rw[hq]
 have HQ:=Hd hq
 clear h hq
 go_enter Tryz.func112,Tryz.ntmps112
 go_wp2_with fail
 go_loopw [7] (fun s7 wr=>∃(k:Nat),k≤L.length∧s7 = .int .i64 (k:Int)∧Tr.fmTo (L.map Zc.zn) k∧Below w.heap.size w wr) (fun s7 _=>L.length-(intOf s7).toNat)
 case atStart=>exact⟨0,Nat.zero_le _,rfl,fun u hu=>by omega,Below.refl _ _⟩
 case round=>
  obtain⟨k,hk,rfl,hall,hbw⟩:=hrel
  have HALL:=Hd hall
  clear hall
  by_cases hlt:k<L.length
  ·have hne:L≠[]:=fun e=>by subst e;simp at hlt
   have HO:=Hd (HD.out.later hbw)
   obtain⟨b,off,hA,hc⟩:=HO.out.at hne
   subst hA
   obtain⟨x,hx⟩:∃x,L[k]?=some x:=⟨L[k],List.getElem?_eq_getElem hlt⟩
   obtain⟨e0,e1,e2⟩:=hc k x hx
   have hg:=zn_getD hx
   have hi0:(0:Int)≤(k:Int):=by omega
   have hi1:(k:Int)<(L.length:Int):=by omega
   have hxo:=HO.out.one hx
   have HC:=Hd hc
   obtain⟨lo,hi,X,cx,l⟩:=x
   dsimp only at e0 e1 e2 hxo
   have hok:Tr.okAt (L.map Zc.zn) k↔((0≤lo∧lo≤hi∧hi≤255)∧Ve.fmd l=true∧(0<k→((L.map Zc.zn).getD (k-1) (0,0,[])).2.1<lo∧(((L.map Zc.zn).getD (k-1) (0,0,[])).2.1=lo-1→((L.map Zc.zn).getD (k-1) (0,0,[])).2.2≠l))):=by
    unfold Tr.okAt
    rw[hg]
    rfl
   have NO:=Hd (fun (hn:¬((0≤lo∧lo≤hi∧hi≤255)∧Ve.fmd l=true∧(0<k→((L.map Zc.zn).getD (k-1) (0,0,[])).2.1<lo∧(((L.map Zc.zn).getD (k-1) (0,0,[])).2.1=lo-1→((L.map Zc.zn).getD (k-1) (0,0,[])).2.2≠l))))=>(show q=false from by
    rw[←HQ.out]
    exact Tr.fmd_no k (by rw[List.length_map];exact hlt) (fun hh=>hn (hok.1 hh))))
   have NX:=Hd (fun (hn:((0≤lo∧lo≤hi∧hi≤255)∧Ve.fmd l=true∧(0<k→((L.map Zc.zn).getD (k-1) (0,0,[])).2.1<lo∧(((L.map Zc.zn).getD (k-1) (0,0,[])).2.1=lo-1→((L.map Zc.zn).getD (k-1) (0,0,[])).2.2≠l))))=>(show Tr.fmTo (L.map Zc.zn) (k+1) from fun u hu=>by
    by_cases e:u=k
    ·subst e;exact hok.2 hn
    ·exact HALL.out u (by omega)))
   obtain⟨W1,hW1⟩:∃W1,wr.alloc (.cells #[.int .i64 lo,.int .i64 hi,.slice X l.length cx] 99)=W1:=⟨_,rfl⟩
   have hb1:Below wr.heap.size wr W1:=by rw[←hW1];exact below_new (Below.refl _ _) _
   have XB:Blk W1 wr.heap.size 99 #[.int .i64 lo,.int .i64 hi,.slice X l.length cx]:=by rw[←hW1];exact Blk.new wr _ _
   have BN:=Hd (below_on hbw hb1)
   have DR:=Hd (show Below W1.heap.size W1 W1.drew from Below.drew (Below.refl _ _))
   have HX1:=Hd (hxo.later hb1)
   have HXB:=Hd XB
   have k0:W1.drew.cell? ⟨wr.heap.size,0,none⟩=some (.int .i64 lo):=XB.cell (i:=0) rfl
   have k1:W1.drew.cell? ⟨wr.heap.size,1,none⟩=some (.int .i64 hi):=XB.cell (i:=1) rfl
   obtain⟨sf,hsf⟩:∃f,decide (0≤lo∧lo≤hi∧hi≤255)=f:=⟨_,rfl⟩
   have FS:=Hd (fun (w':World) (g:Nat) (ob:Blk w' g 97 #[.int .i64 lo,.int .i64 hi])=>(show Calls Tryz.prog 100 #[.slice (some ⟨g,0,none⟩) 1 1] w' (Says (.bool sf) w') from by
    rw[←hsf,←Sp.fmd_one]
    exact spformed_any (some ⟨g,0,none⟩) 1 [(lo,hi)] w' (one_stamp ob)))
   obtain⟨vf,hvf⟩:∃f,Ve.fmd l=f:=⟨_,rfl⟩
   have FV:=Hd (fun (w':World) (b:Below W1.heap.size W1 w')=>(show Calls Tryz.prog 49 #[.slice X l.length cx] w' (Says (.bool vf) w') from by
    rw[←hvf]
    exact formed_any X cx l w' (HX1.out.later b)))
   have HSF:=Hd hsf
   have HVF:=Hd hvf
   have BX:=Hd (fun (w':World) (b:Below W1.heap.size W1 w')=>(show w'.cell? ⟨wr.heap.size,0,none⟩=some (.int .i64 lo)∧w'.cell? ⟨wr.heap.size,1,none⟩=some (.int .i64 hi)∧w'.cell? ⟨wr.heap.size,2,none⟩=some (.slice X l.length cx) from
    ⟨(HXB.out.later b).cell (i:=0) rfl,(HXB.out.later b).cell (i:=1) rfl,(HXB.out.later b).cell (i:=2) rfl⟩))
   have HW1:=Hd hW1
   have HX:=Hd hx
   have HB1:=Hd hb1
   clear hsf hvf hg hok hc hne hxo hx hb1 XB hW1
   go_upto_region 4 with (fail)
   rw[HW1.out]
   clear e0 e1 e2 HW1
   cases sf with
   |false=>
    have hqf:=NO.out (fun h=>by have:=decide_eq_true h.1;rw[HSF.out]at this;cases this)
    subst hqf
    refine wp_region_facts 24 (by kernel_rfl) (by kernel_rfl)
     (fun v=>{ tmps:=#[.slice (some ⟨b,off,none⟩) L.length c,undef,u2,.int .i64 (k:Int),.pointer (some ⟨wr.heap.size,0,none⟩),.slice (some ⟨b,off,none⟩) L.length c,.int .i64 (L.length:Int),.int .i64 (k:Int),.bool true,.int .i64 (k:Int),.pointer (some ⟨b,off+k*3,none⟩),.agg #[.int .i64 lo,.int .i64 hi,.slice X l.length cx],v 0,v 1,v 2,v 3,v 4,v 5,v 6,v 7,v 8,v 9,v 10,v 11,v 12,v 13,v 14,v 15,v 16,v 17,v 18,v 19,v 20,v 21,v 22,v 23,u36,u37],defers:=[] }) (fun i=>match i with|0=>u12|1=>u13|2=>u14|3=>u15|4=>u16|5=>u17|6=>u18|7=>u19|8=>u20|9=>u21|10=>u22|11=>u23|12=>u24|13=>u25|14=>u26|15=>u27|16=>u28|17=>u29|18=>u30|19=>u31|20=>u32|21=>u33|22=>u34|23=>u35|_=>undef)
     (fun i x wx=>match i with
      |0=>x = .pointer (some ⟨wr.heap.size,0,none⟩)
      |1=>x = .agg #[.int .i64 lo,.int .i64 hi]
      |2=>∃g,x = .slice (some ⟨g,0,none⟩) 1 1∧Blk wx g 97 #[.int .i64 lo,.int .i64 hi]
      |3=>x = .bool false
      |4=>x = .bool true
      |5=>x = .bool true
      |6=>x=undef
      |7=>x=undef
      |8=>x=undef
      |9=>x=undef
      |10=>x = .bool true
      |11=>x = .bool true
      |12=>x=undef
      |13=>x=undef
      |14=>x=undef
      |15=>x=undef
      |16=>x=undef
      |17=>x=undef
      |18=>x=undef
      |19=>x=undef
      |20=>x=undef
      |21=>x=undef
      |22=>x=undef
      |23=>x=undef
      |_=>True)
     (fun w1 w2=>Below w1.heap.size w1 w2) (fun h1 h2=>below_on h1 h2) (fun _=>Below.refl _ _) (Below.drew (Below.refl _ _)) ?stabA ?stepA ?doneA
    case stabA=>
     rintro i x w1 w2 h hb
     match i,h with
     |0,h=>exact h
     |1,h=>exact h
     |2,h=>obtain⟨g,h1,h2⟩:=h;exact⟨g,h1,h2.later hb⟩
     |3,h=>exact h
     |4,h=>exact h
     |5,h=>exact h
     |6,h=>exact h
     |7,h=>exact h
     |8,h=>exact h
     |9,h=>exact h
     |10,h=>exact h
     |11,h=>exact h
     |12,h=>exact h
     |13,h=>exact h
     |14,h=>exact h
     |15,h=>exact h
     |16,h=>exact h
     |17,h=>exact h
     |18,h=>exact h
     |19,h=>exact h
     |20,h=>exact h
     |21,h=>exact h
     |22,h=>exact h
     |23,h=>exact h
     |i+24,_=>trivial
    case stepA=>
     intro i hi v w' hb hd
     match i,hi with
     |0,_=>
      refine wpOp_oneH rfl fun KK HKK =>?_
      clear hd
      go_wp2
      exact HKK.out _ _ ⟨_,(by simp[upd];done),Below.refl _ _,rfl⟩
     |1,_=>
      have h0:v 0=_:=hdx hd 0 (by kernel_rfl)
      refine wpOp_oneH rfl fun KK HKK =>?_
      clear hd
      rw[h0]
      have q0:=cell_later hb (BX.out W1 (Below.refl _ _)).1
      have q1:=cell_later hb (BX.out W1 (Below.refl _ _)).2.1
      go_wp2
      exact HKK.out _ _ ⟨_,(by simp[upd,h0];done),Below.refl _ _,rfl⟩
     |2,_=>
      have h1:v 1=_:=hdx hd 1 (by kernel_rfl)
      refine wpOp_oneH rfl fun KK HKK =>?_
      clear hd
      rw[h1]
      go_wp2_with fail
      refine(alone_any _ _ _).mono ?_
      rintro e w'' ⟨g,rfl,ob,-,b⟩
      go_wp2
      exact HKK.out _ _ ⟨_,(by simp[upd,h1];done),b,g,rfl,ob⟩
     |3,_=>
      obtain⟨g2,h2,o2⟩:=hd 2 (List.elem_iff.1 (by kernel_rfl))
      refine wpOp_oneH rfl fun KK HKK =>?_
      clear hd
      rw[h2]
      go_wp2_with fail
      refine(FS.out _ _ o2).mono ?_
      rintro e w'' ⟨rfl,b⟩
      go_wp2
      exact HKK.out _ _ ⟨_,(by simp[upd,h2];done),b,rfl⟩
     |4,_=>
      have h3:v 3=_:=hdx hd 3 (by kernel_rfl)
      refine wpOp_oneH rfl fun KK HKK =>?_
      clear hd
      rw[h3]
      go_wp2
      exact HKK.out _ _ ⟨_,(by simp[upd,h3];done),Below.refl _ _,rfl⟩
     |5,_=>
      have h4:v 4=_:=hdx hd 4 (by kernel_rfl)
      refine wpOp_oneH rfl fun KK HKK =>?_
      clear hd
      rw[h4]
      go_wp2
      exact HKK.out _ _ ⟨_,(by simp[upd,h4];done),Below.refl _ _,rfl⟩
     |6,_=>
      have h5:v 5=_:=hdx hd 5 (by kernel_rfl)
      clear hd
      rw[h5]
      exact wpOp_skip rfl (by rfl) ⟨_,(by simp[upd,Act.put,h5];done),Below.refl _ _,rfl⟩
     |7,_=>
      have h5:v 5=_:=hdx hd 5 (by kernel_rfl)
      clear hd
      rw[h5]
      exact wpOp_skip rfl (by rfl) ⟨_,(by simp[upd,Act.put,h5];done),Below.refl _ _,rfl⟩
     |8,_=>
      have h5:v 5=_:=hdx hd 5 (by kernel_rfl)
      clear hd
      rw[h5]
      exact wpOp_skip rfl (by rfl) ⟨_,(by simp[upd,Act.put,h5];done),Below.refl _ _,rfl⟩
     |9,_=>
      have h5:v 5=_:=hdx hd 5 (by kernel_rfl)
      clear hd
      rw[h5]
      exact wpOp_skip rfl (by rfl) ⟨_,(by simp[upd,Act.put,h5];done),Below.refl _ _,rfl⟩
     |10,_=>
      have h5:v 5=_:=hdx hd 5 (by kernel_rfl)
      have h9:v 9=_:=hdx hd 9 (by kernel_rfl)
      refine wpOp_oneH rfl fun KK HKK =>?_
      clear hd
      rw[h5,h9]
      go_wp2
      exact HKK.out _ _ ⟨_,(by simp[upd,h5,h9];done),Below.refl _ _,rfl⟩
     |11,_=>
      have h10:v 10=_:=hdx hd 10 (by kernel_rfl)
      refine wpOp_oneH rfl fun KK HKK =>?_
      clear hd
      rw[h10]
      go_wp2
      exact HKK.out _ _ ⟨_,(by simp[upd,h10];done),Below.refl _ _,rfl⟩
     |12,_=>
      have h11:v 11=_:=hdx hd 11 (by kernel_rfl)
      clear hd
      rw[h11]
      exact wpOp_skip rfl (by rfl) ⟨_,(by simp[upd,Act.put,h11];done),Below.refl _ _,rfl⟩
     |13,_=>
      have h11:v 11=_:=hdx hd 11 (by kernel_rfl)
      clear hd
      rw[h11]
      exact wpOp_skip rfl (by rfl) ⟨_,(by simp[upd,Act.put,h11];done),Below.refl _ _,rfl⟩
     |14,_=>
      have h11:v 11=_:=hdx hd 11 (by kernel_rfl)
      clear hd
      rw[h11]
      exact wpOp_skip rfl (by rfl) ⟨_,(by simp[upd,Act.put,h11];done),Below.refl _ _,rfl⟩
     |15,_=>
      have h14:v 14=_:=hdx hd 14 (by kernel_rfl)
      clear hd
      rw[h14]
      exact wpOp_skip rfl (by rfl) ⟨_,(by simp[upd,Act.put,h14];done),Below.refl _ _,rfl⟩
     |16,_=>
      have h14:v 14=_:=hdx hd 14 (by kernel_rfl)
      clear hd
      rw[h14]
      exact wpOp_skip rfl (by rfl) ⟨_,(by simp[upd,Act.put,h14];done),Below.refl _ _,rfl⟩
     |17,_=>
      have h14:v 14=_:=hdx hd 14 (by kernel_rfl)
      clear hd
      rw[h14]
      exact wpOp_skip rfl (by rfl) ⟨_,(by simp[upd,Act.put,h14];done),Below.refl _ _,rfl⟩
     |18,_=>
      have h14:v 14=_:=hdx hd 14 (by kernel_rfl)
      clear hd
      rw[h14]
      exact wpOp_skip rfl (by rfl) ⟨_,(by simp[upd,Act.put,h14];done),Below.refl _ _,rfl⟩
     |19,_=>
      have h14:v 14=_:=hdx hd 14 (by kernel_rfl)
      clear hd
      rw[h14]
      exact wpOp_skip rfl (by rfl) ⟨_,(by simp[upd,Act.put,h14];done),Below.refl _ _,rfl⟩
     |20,_=>
      have h14:v 14=_:=hdx hd 14 (by kernel_rfl)
      clear hd
      rw[h14]
      exact wpOp_skip rfl (by rfl) ⟨_,(by simp[upd,Act.put,h14];done),Below.refl _ _,rfl⟩
     |21,_=>
      have h14:v 14=_:=hdx hd 14 (by kernel_rfl)
      clear hd
      rw[h14]
      exact wpOp_skip rfl (by rfl) ⟨_,(by simp[upd,Act.put,h14];done),Below.refl _ _,rfl⟩
     |22,_=>
      have h14:v 14=_:=hdx hd 14 (by kernel_rfl)
      clear hd
      rw[h14]
      exact wpOp_skip rfl (by rfl) ⟨_,(by simp[upd,Act.put,h14];done),Below.refl _ _,rfl⟩
     |23,_=>
      have h11:v 11=_:=hdx hd 11 (by kernel_rfl)
      clear hd
      rw[h11]
      exact wpOp_skip rfl (by rfl) ⟨_,(by simp[upd,Act.put,h11];done),Below.refl _ _,rfl⟩
     |k+24,hk=>exact absurd hk (by omega)
    case doneA=>
     intro v w5 hb hf
     have h11:v 11=_:=hf 11 (by decide)
     have h23:v 23=_:=hf 23 (by decide)
     clear hf
     rw[h11,h23]
     have HBB:=Hd hb
     clear hb
     go_wp2
     go_ret
     exact⟨rfl,below_on BN.out HBB.out⟩
   |true=>
   have T:=Hd (of_decide_eq_true HSF.out)
   cases vf with
   |false=>
    have hqf:=NO.out (fun h=>by have:=h.2.1;rw[HVF.out]at this;cases this)
    subst hqf
    refine wp_region_facts 24 (by kernel_rfl) (by kernel_rfl)
     (fun v=>{ tmps:=#[.slice (some ⟨b,off,none⟩) L.length c,undef,u2,.int .i64 (k:Int),.pointer (some ⟨wr.heap.size,0,none⟩),.slice (some ⟨b,off,none⟩) L.length c,.int .i64 (L.length:Int),.int .i64 (k:Int),.bool true,.int .i64 (k:Int),.pointer (some ⟨b,off+k*3,none⟩),.agg #[.int .i64 lo,.int .i64 hi,.slice X l.length cx],v 0,v 1,v 2,v 3,v 4,v 5,v 6,v 7,v 8,v 9,v 10,v 11,v 12,v 13,v 14,v 15,v 16,v 17,v 18,v 19,v 20,v 21,v 22,v 23,u36,u37],defers:=[] }) (fun i=>match i with|0=>u12|1=>u13|2=>u14|3=>u15|4=>u16|5=>u17|6=>u18|7=>u19|8=>u20|9=>u21|10=>u22|11=>u23|12=>u24|13=>u25|14=>u26|15=>u27|16=>u28|17=>u29|18=>u30|19=>u31|20=>u32|21=>u33|22=>u34|23=>u35|_=>undef)
     (fun i x wx=>match i with
      |0=>x = .pointer (some ⟨wr.heap.size,0,none⟩)
      |1=>x = .agg #[.int .i64 lo,.int .i64 hi]
      |2=>∃g,x = .slice (some ⟨g,0,none⟩) 1 1∧Blk wx g 97 #[.int .i64 lo,.int .i64 hi]
      |3=>x = .bool true
      |4=>x = .bool false
      |5=>x = .bool false
      |6=>x = .pointer (some ⟨wr.heap.size,2,none⟩)
      |7=>x = .slice X l.length cx
      |8=>x = .bool false
      |9=>x = .bool true
      |10=>x = .bool true
      |11=>x = .bool true
      |12=>x=undef
      |13=>x=undef
      |14=>x=undef
      |15=>x=undef
      |16=>x=undef
      |17=>x=undef
      |18=>x=undef
      |19=>x=undef
      |20=>x=undef
      |21=>x=undef
      |22=>x=undef
      |23=>x=undef
      |_=>True)
     (fun w1 w2=>Below w1.heap.size w1 w2) (fun h1 h2=>below_on h1 h2) (fun _=>Below.refl _ _) (Below.drew (Below.refl _ _)) ?stabB ?stepB ?doneB
    case stabB=>
     rintro i x w1 w2 h hb
     match i,h with
     |0,h=>exact h
     |1,h=>exact h
     |2,h=>obtain⟨g,h1,h2⟩:=h;exact⟨g,h1,h2.later hb⟩
     |3,h=>exact h
     |4,h=>exact h
     |5,h=>exact h
     |6,h=>exact h
     |7,h=>exact h
     |8,h=>exact h
     |9,h=>exact h
     |10,h=>exact h
     |11,h=>exact h
     |12,h=>exact h
     |13,h=>exact h
     |14,h=>exact h
     |15,h=>exact h
     |16,h=>exact h
     |17,h=>exact h
     |18,h=>exact h
     |19,h=>exact h
     |20,h=>exact h
     |21,h=>exact h
     |22,h=>exact h
     |23,h=>exact h
     |i+24,_=>trivial
    case stepB=>
     intro i hi v w' hb hd
     match i,hi with
     |0,_=>
      refine wpOp_oneH rfl fun KK HKK =>?_
      clear hd
      go_wp2
      exact HKK.out _ _ ⟨_,(by simp[upd];done),Below.refl _ _,rfl⟩
     |1,_=>
      have h0:v 0=_:=hdx hd 0 (by kernel_rfl)
      refine wpOp_oneH rfl fun KK HKK =>?_
      clear hd
      rw[h0]
      have q0:=cell_later hb (BX.out W1 (Below.refl _ _)).1
      have q1:=cell_later hb (BX.out W1 (Below.refl _ _)).2.1
      go_wp2
      exact HKK.out _ _ ⟨_,(by simp[upd,h0];done),Below.refl _ _,rfl⟩
     |2,_=>
      have h1:v 1=_:=hdx hd 1 (by kernel_rfl)
      refine wpOp_oneH rfl fun KK HKK =>?_
      clear hd
      rw[h1]
      go_wp2_with fail
      refine(alone_any _ _ _).mono ?_
      rintro e w'' ⟨g,rfl,ob,-,b⟩
      go_wp2
      exact HKK.out _ _ ⟨_,(by simp[upd,h1];done),b,g,rfl,ob⟩
     |3,_=>
      obtain⟨g2,h2,o2⟩:=hd 2 (List.elem_iff.1 (by kernel_rfl))
      refine wpOp_oneH rfl fun KK HKK =>?_
      clear hd
      rw[h2]
      go_wp2_with fail
      refine(FS.out _ _ o2).mono ?_
      rintro e w'' ⟨rfl,b⟩
      go_wp2
      exact HKK.out _ _ ⟨_,(by simp[upd,h2];done),b,rfl⟩
     |4,_=>
      have h3:v 3=_:=hdx hd 3 (by kernel_rfl)
      refine wpOp_oneH rfl fun KK HKK =>?_
      clear hd
      rw[h3]
      go_wp2
      exact HKK.out _ _ ⟨_,(by simp[upd,h3];done),Below.refl _ _,rfl⟩
     |5,_=>
      have h4:v 4=_:=hdx hd 4 (by kernel_rfl)
      refine wpOp_oneH rfl fun KK HKK =>?_
      clear hd
      rw[h4]
      go_wp2
      exact HKK.out _ _ ⟨_,(by simp[upd,h4];done),Below.refl _ _,rfl⟩
     |6,_=>
      have h5:v 5=_:=hdx hd 5 (by kernel_rfl)
      refine wpOp_oneH rfl fun KK HKK =>?_
      clear hd
      rw[h5]
      go_wp2
      exact HKK.out _ _ ⟨_,(by simp[upd,h5];done),Below.refl _ _,rfl⟩
     |7,_=>
      have h5:v 5=_:=hdx hd 5 (by kernel_rfl)
      have h6:v 6=_:=hdx hd 6 (by kernel_rfl)
      refine wpOp_oneH rfl fun KK HKK =>?_
      clear hd
      rw[h5,h6]
      have q0:=cell_later hb (BX.out W1 (Below.refl _ _)).2.2
      go_wp2
      exact HKK.out _ _ ⟨_,(by simp[upd,h5,h6];done),Below.refl _ _,rfl⟩
     |8,_=>
      have h5:v 5=_:=hdx hd 5 (by kernel_rfl)
      have h7:v 7=_:=hdx hd 7 (by kernel_rfl)
      refine wpOp_oneH rfl fun KK HKK =>?_
      clear hd
      rw[h5,h7]
      go_wp2_with fail
      refine(FV.out _ hb).mono ?_
      rintro e w'' ⟨rfl,b⟩
      go_wp2
      exact HKK.out _ _ ⟨_,(by simp[upd,h5,h7];done),b,rfl⟩
     |9,_=>
      have h5:v 5=_:=hdx hd 5 (by kernel_rfl)
      have h8:v 8=_:=hdx hd 8 (by kernel_rfl)
      refine wpOp_oneH rfl fun KK HKK =>?_
      clear hd
      rw[h5,h8]
      go_wp2
      exact HKK.out _ _ ⟨_,(by simp[upd,h5,h8];done),Below.refl _ _,rfl⟩
     |10,_=>
      have h5:v 5=_:=hdx hd 5 (by kernel_rfl)
      have h9:v 9=_:=hdx hd 9 (by kernel_rfl)
      refine wpOp_oneH rfl fun KK HKK =>?_
      clear hd
      rw[h5,h9]
      go_wp2
      exact HKK.out _ _ ⟨_,(by simp[upd,h5,h9];done),Below.refl _ _,rfl⟩
     |11,_=>
      have h10:v 10=_:=hdx hd 10 (by kernel_rfl)
      refine wpOp_oneH rfl fun KK HKK =>?_
      clear hd
      rw[h10]
      go_wp2
      exact HKK.out _ _ ⟨_,(by simp[upd,h10];done),Below.refl _ _,rfl⟩
     |12,_=>
      have h11:v 11=_:=hdx hd 11 (by kernel_rfl)
      clear hd
      rw[h11]
      exact wpOp_skip rfl (by rfl) ⟨_,(by simp[upd,Act.put,h11];done),Below.refl _ _,rfl⟩
     |13,_=>
      have h11:v 11=_:=hdx hd 11 (by kernel_rfl)
      clear hd
      rw[h11]
      exact wpOp_skip rfl (by rfl) ⟨_,(by simp[upd,Act.put,h11];done),Below.refl _ _,rfl⟩
     |14,_=>
      have h11:v 11=_:=hdx hd 11 (by kernel_rfl)
      clear hd
      rw[h11]
      exact wpOp_skip rfl (by rfl) ⟨_,(by simp[upd,Act.put,h11];done),Below.refl _ _,rfl⟩
     |15,_=>
      have h14:v 14=_:=hdx hd 14 (by kernel_rfl)
      clear hd
      rw[h14]
      exact wpOp_skip rfl (by rfl) ⟨_,(by simp[upd,Act.put,h14];done),Below.refl _ _,rfl⟩
     |16,_=>
      have h14:v 14=_:=hdx hd 14 (by kernel_rfl)
      clear hd
      rw[h14]
      exact wpOp_skip rfl (by rfl) ⟨_,(by simp[upd,Act.put,h14];done),Below.refl _ _,rfl⟩
     |17,_=>
      have h14:v 14=_:=hdx hd 14 (by kernel_rfl)
      clear hd
      rw[h14]
      exact wpOp_skip rfl (by rfl) ⟨_,(by simp[upd,Act.put,h14];done),Below.refl _ _,rfl⟩
     |18,_=>
      have h14:v 14=_:=hdx hd 14 (by kernel_rfl)
      clear hd
      rw[h14]
      exact wpOp_skip rfl (by rfl) ⟨_,(by simp[upd,Act.put,h14];done),Below.refl _ _,rfl⟩
     |19,_=>
      have h14:v 14=_:=hdx hd 14 (by kernel_rfl)
      clear hd
      rw[h14]
      exact wpOp_skip rfl (by rfl) ⟨_,(by simp[upd,Act.put,h14];done),Below.refl _ _,rfl⟩
     |20,_=>
      have h14:v 14=_:=hdx hd 14 (by kernel_rfl)
      clear hd
      rw[h14]
      exact wpOp_skip rfl (by rfl) ⟨_,(by simp[upd,Act.put,h14];done),Below.refl _ _,rfl⟩
     |21,_=>
      have h14:v 14=_:=hdx hd 14 (by kernel_rfl)
      clear hd
      rw[h14]
      exact wpOp_skip rfl (by rfl) ⟨_,(by simp[upd,Act.put,h14];done),Below.refl _ _,rfl⟩
     |22,_=>
      have h14:v 14=_:=hdx hd 14 (by kernel_rfl)
      clear hd
      rw[h14]
      exact wpOp_skip rfl (by rfl) ⟨_,(by simp[upd,Act.put,h14];done),Below.refl _ _,rfl⟩
     |23,_=>
      have h11:v 11=_:=hdx hd 11 (by kernel_rfl)
      clear hd
      rw[h11]
      exact wpOp_skip rfl (by rfl) ⟨_,(by simp[upd,Act.put,h11];done),Below.refl _ _,rfl⟩
     |k+24,hk=>exact absurd hk (by omega)
    case doneB=>
     intro v w5 hb hf
     have h11:v 11=_:=hf 11 (by decide)
     have h23:v 23=_:=hf 23 (by decide)
     clear hf
     rw[h11,h23]
     have HBB:=Hd hb
     clear hb
     go_wp2
     go_ret
     exact⟨rfl,below_on BN.out HBB.out⟩
   |true=>
   cases k with
   |zero=>
    have HT:=Hd (NX.out ⟨T.out,HVF.out,fun h=>absurd h (by omega)⟩)
    refine wp_region_facts 24 (by kernel_rfl) (by kernel_rfl)
     (fun v=>{ tmps:=#[.slice (some ⟨b,off,none⟩) L.length c,undef,u2,.int .i64 0,.pointer (some ⟨wr.heap.size,0,none⟩),.slice (some ⟨b,off,none⟩) L.length c,.int .i64 (L.length:Int),.int .i64 0,.bool true,.int .i64 0,.pointer (some ⟨b,off,none⟩),.agg #[.int .i64 lo,.int .i64 hi,.slice X l.length cx],v 0,v 1,v 2,v 3,v 4,v 5,v 6,v 7,v 8,v 9,v 10,v 11,v 12,v 13,v 14,v 15,v 16,v 17,v 18,v 19,v 20,v 21,v 22,v 23,u36,u37],defers:=[] }) (fun i=>match i with|0=>u12|1=>u13|2=>u14|3=>u15|4=>u16|5=>u17|6=>u18|7=>u19|8=>u20|9=>u21|10=>u22|11=>u23|12=>u24|13=>u25|14=>u26|15=>u27|16=>u28|17=>u29|18=>u30|19=>u31|20=>u32|21=>u33|22=>u34|23=>u35|_=>undef)
     (fun i x wx=>match i with
      |0=>x = .pointer (some ⟨wr.heap.size,0,none⟩)
      |1=>x = .agg #[.int .i64 lo,.int .i64 hi]
      |2=>∃g,x = .slice (some ⟨g,0,none⟩) 1 1∧Blk wx g 97 #[.int .i64 lo,.int .i64 hi]
      |3=>x = .bool true
      |4=>x = .bool false
      |5=>x = .bool false
      |6=>x = .pointer (some ⟨wr.heap.size,2,none⟩)
      |7=>x = .slice X l.length cx
      |8=>x = .bool true
      |9=>x = .bool false
      |10=>x = .bool false
      |11=>x = .bool false
      |12=>x = .int .i64 0
      |13=>x = .bool false
      |14=>x = .bool false
      |15=>x=undef
      |16=>x=undef
      |17=>x=undef
      |18=>x=undef
      |19=>x=undef
      |20=>x=undef
      |21=>x=undef
      |22=>x=undef
      |23=>x = .bool false
      |_=>True)
     (fun w1 w2=>Below w1.heap.size w1 w2) (fun h1 h2=>below_on h1 h2) (fun _=>Below.refl _ _) (Below.drew (Below.refl _ _)) ?stabC ?stepC ?doneC
    case stabC=>
     rintro i x w1 w2 h hb
     match i,h with
     |0,h=>exact h
     |1,h=>exact h
     |2,h=>obtain⟨g,h1,h2⟩:=h;exact⟨g,h1,h2.later hb⟩
     |3,h=>exact h
     |4,h=>exact h
     |5,h=>exact h
     |6,h=>exact h
     |7,h=>exact h
     |8,h=>exact h
     |9,h=>exact h
     |10,h=>exact h
     |11,h=>exact h
     |12,h=>exact h
     |13,h=>exact h
     |14,h=>exact h
     |15,h=>exact h
     |16,h=>exact h
     |17,h=>exact h
     |18,h=>exact h
     |19,h=>exact h
     |20,h=>exact h
     |21,h=>exact h
     |22,h=>exact h
     |23,h=>exact h
     |i+24,_=>trivial
    case stepC=>
     intro i hi v w' hb hd
     match i,hi with
     |0,_=>
      refine wpOp_oneH rfl fun KK HKK =>?_
      clear hd
      go_wp2
      exact HKK.out _ _ ⟨_,(by simp[upd];done),Below.refl _ _,rfl⟩
     |1,_=>
      have h0:v 0=_:=hdx hd 0 (by kernel_rfl)
      refine wpOp_oneH rfl fun KK HKK =>?_
      clear hd
      rw[h0]
      have q0:=cell_later hb (BX.out W1 (Below.refl _ _)).1
      have q1:=cell_later hb (BX.out W1 (Below.refl _ _)).2.1
      go_wp2
      exact HKK.out _ _ ⟨_,(by simp[upd,h0];done),Below.refl _ _,rfl⟩
     |2,_=>
      have h1:v 1=_:=hdx hd 1 (by kernel_rfl)
      refine wpOp_oneH rfl fun KK HKK =>?_
      clear hd
      rw[h1]
      go_wp2_with fail
      refine(alone_any _ _ _).mono ?_
      rintro e w'' ⟨g,rfl,ob,-,b⟩
      go_wp2
      exact HKK.out _ _ ⟨_,(by simp[upd,h1];done),b,g,rfl,ob⟩
     |3,_=>
      obtain⟨g2,h2,o2⟩:=hd 2 (List.elem_iff.1 (by kernel_rfl))
      refine wpOp_oneH rfl fun KK HKK =>?_
      clear hd
      rw[h2]
      go_wp2_with fail
      refine(FS.out _ _ o2).mono ?_
      rintro e w'' ⟨rfl,b⟩
      go_wp2
      exact HKK.out _ _ ⟨_,(by simp[upd,h2];done),b,rfl⟩
     |4,_=>
      have h3:v 3=_:=hdx hd 3 (by kernel_rfl)
      refine wpOp_oneH rfl fun KK HKK =>?_
      clear hd
      rw[h3]
      go_wp2
      exact HKK.out _ _ ⟨_,(by simp[upd,h3];done),Below.refl _ _,rfl⟩
     |5,_=>
      have h4:v 4=_:=hdx hd 4 (by kernel_rfl)
      refine wpOp_oneH rfl fun KK HKK =>?_
      clear hd
      rw[h4]
      go_wp2
      exact HKK.out _ _ ⟨_,(by simp[upd,h4];done),Below.refl _ _,rfl⟩
     |6,_=>
      have h5:v 5=_:=hdx hd 5 (by kernel_rfl)
      refine wpOp_oneH rfl fun KK HKK =>?_
      clear hd
      rw[h5]
      go_wp2
      exact HKK.out _ _ ⟨_,(by simp[upd,h5];done),Below.refl _ _,rfl⟩
     |7,_=>
      have h5:v 5=_:=hdx hd 5 (by kernel_rfl)
      have h6:v 6=_:=hdx hd 6 (by kernel_rfl)
      refine wpOp_oneH rfl fun KK HKK =>?_
      clear hd
      rw[h5,h6]
      have q0:=cell_later hb (BX.out W1 (Below.refl _ _)).2.2
      go_wp2
      exact HKK.out _ _ ⟨_,(by simp[upd,h5,h6];done),Below.refl _ _,rfl⟩
     |8,_=>
      have h5:v 5=_:=hdx hd 5 (by kernel_rfl)
      have h7:v 7=_:=hdx hd 7 (by kernel_rfl)
      refine wpOp_oneH rfl fun KK HKK =>?_
      clear hd
      rw[h5,h7]
      go_wp2_with fail
      refine(FV.out _ hb).mono ?_
      rintro e w'' ⟨rfl,b⟩
      go_wp2
      exact HKK.out _ _ ⟨_,(by simp[upd,h5,h7];done),b,rfl⟩
     |9,_=>
      have h5:v 5=_:=hdx hd 5 (by kernel_rfl)
      have h8:v 8=_:=hdx hd 8 (by kernel_rfl)
      refine wpOp_oneH rfl fun KK HKK =>?_
      clear hd
      rw[h5,h8]
      go_wp2
      exact HKK.out _ _ ⟨_,(by simp[upd,h5,h8];done),Below.refl _ _,rfl⟩
     |10,_=>
      have h5:v 5=_:=hdx hd 5 (by kernel_rfl)
      have h9:v 9=_:=hdx hd 9 (by kernel_rfl)
      refine wpOp_oneH rfl fun KK HKK =>?_
      clear hd
      rw[h5,h9]
      go_wp2
      exact HKK.out _ _ ⟨_,(by simp[upd,h5,h9];done),Below.refl _ _,rfl⟩
     |11,_=>
      have h10:v 10=_:=hdx hd 10 (by kernel_rfl)
      refine wpOp_oneH rfl fun KK HKK =>?_
      clear hd
      rw[h10]
      go_wp2
      exact HKK.out _ _ ⟨_,(by simp[upd,h10];done),Below.refl _ _,rfl⟩
     |12,_=>
      have h11:v 11=_:=hdx hd 11 (by kernel_rfl)
      refine wpOp_oneH rfl fun KK HKK =>?_
      clear hd
      rw[h11]
      go_wp2
      exact HKK.out _ _ ⟨_,(by simp[upd,h11];done),Below.refl _ _,rfl⟩
     |13,_=>
      have h11:v 11=_:=hdx hd 11 (by kernel_rfl)
      have h12:v 12=_:=hdx hd 12 (by kernel_rfl)
      refine wpOp_oneH rfl fun KK HKK =>?_
      clear hd
      rw[h11,h12]
      go_wp2
      exact HKK.out _ _ ⟨_,(by simp[upd,h11,h12];done),Below.refl _ _,rfl⟩
     |14,_=>
      have h11:v 11=_:=hdx hd 11 (by kernel_rfl)
      have h13:v 13=_:=hdx hd 13 (by kernel_rfl)
      refine wpOp_oneH rfl fun KK HKK =>?_
      clear hd
      rw[h11,h13]
      go_wp2
      exact HKK.out _ _ ⟨_,(by simp[upd,h11,h13];done),Below.refl _ _,rfl⟩
     |15,_=>
      have h14:v 14=_:=hdx hd 14 (by kernel_rfl)
      clear hd
      rw[h14]
      exact wpOp_skip rfl (by rfl) ⟨_,(by simp[upd,Act.put,h14];done),Below.refl _ _,rfl⟩
     |16,_=>
      have h14:v 14=_:=hdx hd 14 (by kernel_rfl)
      clear hd
      rw[h14]
      exact wpOp_skip rfl (by rfl) ⟨_,(by simp[upd,Act.put,h14];done),Below.refl _ _,rfl⟩
     |17,_=>
      have h14:v 14=_:=hdx hd 14 (by kernel_rfl)
      clear hd
      rw[h14]
      exact wpOp_skip rfl (by rfl) ⟨_,(by simp[upd,Act.put,h14];done),Below.refl _ _,rfl⟩
     |18,_=>
      have h14:v 14=_:=hdx hd 14 (by kernel_rfl)
      clear hd
      rw[h14]
      exact wpOp_skip rfl (by rfl) ⟨_,(by simp[upd,Act.put,h14];done),Below.refl _ _,rfl⟩
     |19,_=>
      have h14:v 14=_:=hdx hd 14 (by kernel_rfl)
      clear hd
      rw[h14]
      exact wpOp_skip rfl (by rfl) ⟨_,(by simp[upd,Act.put,h14];done),Below.refl _ _,rfl⟩
     |20,_=>
      have h14:v 14=_:=hdx hd 14 (by kernel_rfl)
      clear hd
      rw[h14]
      exact wpOp_skip rfl (by rfl) ⟨_,(by simp[upd,Act.put,h14];done),Below.refl _ _,rfl⟩
     |21,_=>
      have h14:v 14=_:=hdx hd 14 (by kernel_rfl)
      clear hd
      rw[h14]
      exact wpOp_skip rfl (by rfl) ⟨_,(by simp[upd,Act.put,h14];done),Below.refl _ _,rfl⟩
     |22,_=>
      have h14:v 14=_:=hdx hd 14 (by kernel_rfl)
      clear hd
      rw[h14]
      exact wpOp_skip rfl (by rfl) ⟨_,(by simp[upd,Act.put,h14];done),Below.refl _ _,rfl⟩
     |23,_=>
      have h11:v 11=_:=hdx hd 11 (by kernel_rfl)
      have h14:v 14=_:=hdx hd 14 (by kernel_rfl)
      have h22:v 22=_:=hdx hd 22 (by kernel_rfl)
      refine wpOp_oneH rfl fun KK HKK =>?_
      clear hd
      rw[h11,h14,h22]
      go_wp2
      exact HKK.out _ _ ⟨_,(by simp[upd,h11,h14,h22];done),Below.refl _ _,rfl⟩
     |k+24,hk=>exact absurd hk (by omega)
    case doneC=>
     intro v w5 hb hf
     have h11:v 11=_:=hf 11 (by decide)
     have h23:v 23=_:=hf 23 (by decide)
     clear hf
     rw[h11,h23]
     have HBB:=Hd hb
     clear hb
     go_wp2_with fail
     go_roundw
     case rel=>exact⟨_,by omega,by first|rfl|go_num,HT.out,below_on BN.out HBB.out⟩
     case measure=>simp[intOf];omega
   |succ m=>
    obtain⟨y,hy⟩:∃y,L[m]?=some y:=⟨L[m],List.getElem?_eq_getElem (by omega)⟩
    have hgy:(L.map Zc.zn).getD (m+1-1) (0,0,[])=y.zn:=zn_getD hy
    have hyo:=(HO.out.one hy).later HB1.out
    obtain⟨f0,f1,f2⟩:=HC.out m y hy
    have hyk:=HALL.out m (by omega)
    unfold Tr.okAt at hyk
    rw[Nat.add_sub_cancel]at hgy
    rw[hgy]at hyk
    obtain⟨ylo,yhi,Y,cy,yl⟩:=y
    dsimp only at f0 f1 f2 hyo
    obtain⟨⟨y1,y2,y3⟩,-,-⟩:=hyk
    have y1:0≤ylo:=y1
    have y2:ylo≤yhi:=y2
    have y3:yhi≤255:=y3
    have hg2:((L.map Zc.zn).getD (m+1-1) (0,0,[])).2.1=yhi:=by rw[Nat.add_sub_cancel,hgy];rfl
    have hg3:((L.map Zc.zn).getD (m+1-1) (0,0,[])).2.2=yl:=by rw[Nat.add_sub_cancel,hgy];rfl
    rw[hg2,hg3]at NO NX
    have hm1:((m+1:Nat):Int)-1=(m:Int):=by omega
    have hj0:(0:Int)≤(m:Int):=by omega
    have hj1:(m:Int)<(L.length:Int):=by omega
    have hgt:decide ((0:Int)<((m+1:Nat):Int))=true:=decide_eq_true (by omega)
    obtain⟨mf,hmf⟩:∃mf,decide (yhi<lo∧¬(yhi+1=lo∧yl=l))=mf:=⟨_,rfl⟩
    have CS:=Hd (fun (w':World) (b:Below W1.heap.size W1 w')=>(show Calls Tryz.prog 161 #[.agg #[.int .i64 ylo,.int .i64 yhi,.slice Y yl.length cy],.agg #[.int .i64 lo,.int .i64 hi,.slice X l.length cx]] w' (Says (.bool mf) w') from by
     rw[←hmf]
     exact mayFollow_any ⟨ylo,yhi,Y,cy,yl⟩ ⟨lo,hi,X,cx,l⟩ w' (hyo.later b) (HX1.out.later b) (by dsimp only;omega) y3))
    have BY:=Hd (fun (w':World) (bb:Below W1.heap.size W1 w')=>(show w'.cell? ⟨b,off+m*3,none⟩=some (.int .i64 ylo)∧w'.cell? ⟨b,off+m*3+1,none⟩=some (.int .i64 yhi)∧w'.cell? ⟨b,off+m*3+2,none⟩=some (.slice Y yl.length cy) from
     ⟨cell_later (below_on HB1.out bb) f0,cell_later (below_on HB1.out bb) f1,cell_later (below_on HB1.out bb) f2⟩))
    have HMF:=Hd hmf
    clear hy hgy hg2 hg3 f0 f1 f2 hyo hmf y1 y2 y3
    cases mf with
    |false=>
     have hqf:=NO.out (fun h=>by
      have h1:=h.2.2 (by omega)
      exact(of_decide_eq_false HMF.out) ⟨h1.1,fun h2=>h1.2 (by omega) h2.2⟩)
     subst hqf
     refine wp_region_facts 24 (by kernel_rfl) (by kernel_rfl)
      (fun v=>{ tmps:=#[.slice (some ⟨b,off,none⟩) L.length c,undef,u2,.int .i64 ↑(m+1),.pointer (some ⟨wr.heap.size,0,none⟩),.slice (some ⟨b,off,none⟩) L.length c,.int .i64 (L.length:Int),.int .i64 ↑(m+1),.bool true,.int .i64 ↑(m+1),.pointer (some ⟨b,off+(m+1)*3,none⟩),.agg #[.int .i64 lo,.int .i64 hi,.slice X l.length cx],v 0,v 1,v 2,v 3,v 4,v 5,v 6,v 7,v 8,v 9,v 10,v 11,v 12,v 13,v 14,v 15,v 16,v 17,v 18,v 19,v 20,v 21,v 22,v 23,u36,u37],defers:=[] }) (fun i=>match i with|0=>u12|1=>u13|2=>u14|3=>u15|4=>u16|5=>u17|6=>u18|7=>u19|8=>u20|9=>u21|10=>u22|11=>u23|12=>u24|13=>u25|14=>u26|15=>u27|16=>u28|17=>u29|18=>u30|19=>u31|20=>u32|21=>u33|22=>u34|23=>u35|_=>undef)
      (fun i x wx=>match i with
       |0=>x = .pointer (some ⟨wr.heap.size,0,none⟩)
       |1=>x = .agg #[.int .i64 lo,.int .i64 hi]
       |2=>∃g,x = .slice (some ⟨g,0,none⟩) 1 1∧Blk wx g 97 #[.int .i64 lo,.int .i64 hi]
       |3=>x = .bool true
       |4=>x = .bool false
       |5=>x = .bool false
       |6=>x = .pointer (some ⟨wr.heap.size,2,none⟩)
       |7=>x = .slice X l.length cx
       |8=>x = .bool true
       |9=>x = .bool false
       |10=>x = .bool false
       |11=>x = .bool false
       |12=>x = .int .i64 ((m+1:Nat):Int)
       |13=>x = .bool true
       |14=>x = .bool true
       |15=>x = .slice (some ⟨b,off,none⟩) L.length c
       |16=>x = .int .i64 ((m+1:Nat):Int)
       |17=>x = .int .i64 (m:Int)
       |18=>x = .pointer (some ⟨b,off+m*3,none⟩)
       |19=>x = .agg #[.int .i64 ylo,.int .i64 yhi,.slice Y yl.length cy]
       |20=>x = .agg #[.int .i64 lo,.int .i64 hi,.slice X l.length cx]
       |21=>x = .bool false
       |22=>x = .bool true
       |23=>x = .bool true
       |_=>True)
      (fun w1 w2=>Below w1.heap.size w1 w2) (fun h1 h2=>below_on h1 h2) (fun _=>Below.refl _ _) (Below.drew (Below.refl _ _)) ?stabD ?stepD ?doneD
     case stabD=>
      rintro i x w1 w2 h hb
      match i,h with
      |0,h=>exact h
      |1,h=>exact h
      |2,h=>obtain⟨g,h1,h2⟩:=h;exact⟨g,h1,h2.later hb⟩
      |3,h=>exact h
      |4,h=>exact h
      |5,h=>exact h
      |6,h=>exact h
      |7,h=>exact h
      |8,h=>exact h
      |9,h=>exact h
      |10,h=>exact h
      |11,h=>exact h
      |12,h=>exact h
      |13,h=>exact h
      |14,h=>exact h
      |15,h=>exact h
      |16,h=>exact h
      |17,h=>exact h
      |18,h=>exact h
      |19,h=>exact h
      |20,h=>exact h
      |21,h=>exact h
      |22,h=>exact h
      |23,h=>exact h
      |i+24,_=>trivial
     case stepD=>
      intro i hi v w' hb hd
      match i,hi with
      |0,_=>
       refine wpOp_oneH rfl fun KK HKK =>?_
       clear hd
       go_wp2
       exact HKK.out _ _ ⟨_,(by simp[upd];done),Below.refl _ _,rfl⟩
      |1,_=>
       have h0:v 0=_:=hdx hd 0 (by kernel_rfl)
       refine wpOp_oneH rfl fun KK HKK =>?_
       clear hd
       rw[h0]
       have q0:=cell_later hb (BX.out W1 (Below.refl _ _)).1
       have q1:=cell_later hb (BX.out W1 (Below.refl _ _)).2.1
       go_wp2
       exact HKK.out _ _ ⟨_,(by simp[upd,h0];done),Below.refl _ _,rfl⟩
      |2,_=>
       have h1:v 1=_:=hdx hd 1 (by kernel_rfl)
       refine wpOp_oneH rfl fun KK HKK =>?_
       clear hd
       rw[h1]
       go_wp2_with fail
       refine(alone_any _ _ _).mono ?_
       rintro e w'' ⟨g,rfl,ob,-,b⟩
       go_wp2
       exact HKK.out _ _ ⟨_,(by simp[upd,h1];done),b,g,rfl,ob⟩
      |3,_=>
       obtain⟨g2,h2,o2⟩:=hd 2 (List.elem_iff.1 (by kernel_rfl))
       refine wpOp_oneH rfl fun KK HKK =>?_
       clear hd
       rw[h2]
       go_wp2_with fail
       refine(FS.out _ _ o2).mono ?_
       rintro e w'' ⟨rfl,b⟩
       go_wp2
       exact HKK.out _ _ ⟨_,(by simp[upd,h2];done),b,rfl⟩
      |4,_=>
       have h3:v 3=_:=hdx hd 3 (by kernel_rfl)
       refine wpOp_oneH rfl fun KK HKK =>?_
       clear hd
       rw[h3]
       go_wp2
       exact HKK.out _ _ ⟨_,(by simp[upd,h3];done),Below.refl _ _,rfl⟩
      |5,_=>
       have h4:v 4=_:=hdx hd 4 (by kernel_rfl)
       refine wpOp_oneH rfl fun KK HKK =>?_
       clear hd
       rw[h4]
       go_wp2
       exact HKK.out _ _ ⟨_,(by simp[upd,h4];done),Below.refl _ _,rfl⟩
      |6,_=>
       have h5:v 5=_:=hdx hd 5 (by kernel_rfl)
       refine wpOp_oneH rfl fun KK HKK =>?_
       clear hd
       rw[h5]
       go_wp2
       exact HKK.out _ _ ⟨_,(by simp[upd,h5];done),Below.refl _ _,rfl⟩
      |7,_=>
       have h5:v 5=_:=hdx hd 5 (by kernel_rfl)
       have h6:v 6=_:=hdx hd 6 (by kernel_rfl)
       refine wpOp_oneH rfl fun KK HKK =>?_
       clear hd
       rw[h5,h6]
       have q0:=cell_later hb (BX.out W1 (Below.refl _ _)).2.2
       go_wp2
       exact HKK.out _ _ ⟨_,(by simp[upd,h5,h6];done),Below.refl _ _,rfl⟩
      |8,_=>
       have h5:v 5=_:=hdx hd 5 (by kernel_rfl)
       have h7:v 7=_:=hdx hd 7 (by kernel_rfl)
       refine wpOp_oneH rfl fun KK HKK =>?_
       clear hd
       rw[h5,h7]
       go_wp2_with fail
       refine(FV.out _ hb).mono ?_
       rintro e w'' ⟨rfl,b⟩
       go_wp2
       exact HKK.out _ _ ⟨_,(by simp[upd,h5,h7];done),b,rfl⟩
      |9,_=>
       have h5:v 5=_:=hdx hd 5 (by kernel_rfl)
       have h8:v 8=_:=hdx hd 8 (by kernel_rfl)
       refine wpOp_oneH rfl fun KK HKK =>?_
       clear hd
       rw[h5,h8]
       go_wp2
       exact HKK.out _ _ ⟨_,(by simp[upd,h5,h8];done),Below.refl _ _,rfl⟩
      |10,_=>
       have h5:v 5=_:=hdx hd 5 (by kernel_rfl)
       have h9:v 9=_:=hdx hd 9 (by kernel_rfl)
       refine wpOp_oneH rfl fun KK HKK =>?_
       clear hd
       rw[h5,h9]
       go_wp2
       exact HKK.out _ _ ⟨_,(by simp[upd,h5,h9];done),Below.refl _ _,rfl⟩
      |11,_=>
       have h10:v 10=_:=hdx hd 10 (by kernel_rfl)
       refine wpOp_oneH rfl fun KK HKK =>?_
       clear hd
       rw[h10]
       go_wp2
       exact HKK.out _ _ ⟨_,(by simp[upd,h10];done),Below.refl _ _,rfl⟩
      |12,_=>
       have h11:v 11=_:=hdx hd 11 (by kernel_rfl)
       refine wpOp_oneH rfl fun KK HKK =>?_
       clear hd
       rw[h11]
       go_wp2
       exact HKK.out _ _ ⟨_,(by simp[upd,h11];done),Below.refl _ _,rfl⟩
      |13,_=>
       have h11:v 11=_:=hdx hd 11 (by kernel_rfl)
       have h12:v 12=_:=hdx hd 12 (by kernel_rfl)
       refine wpOp_oneH rfl fun KK HKK =>?_
       clear hd
       rw[h11,h12]
       go_wp2
       exact HKK.out _ _ ⟨_,(by simp[upd,h11,h12];done),Below.refl _ _,rfl⟩
      |14,_=>
       have h11:v 11=_:=hdx hd 11 (by kernel_rfl)
       have h13:v 13=_:=hdx hd 13 (by kernel_rfl)
       refine wpOp_oneH rfl fun KK HKK =>?_
       clear hd
       rw[h11,h13]
       go_wp2
       exact HKK.out _ _ ⟨_,(by simp[upd,h11,h13];done),Below.refl _ _,rfl⟩
      |15,_=>
       have h14:v 14=_:=hdx hd 14 (by kernel_rfl)
       refine wpOp_oneH rfl fun KK HKK =>?_
       clear hd
       rw[h14]
       go_wp2
       exact HKK.out _ _ ⟨_,(by simp[upd,h14];done),Below.refl _ _,rfl⟩
      |16,_=>
       have h14:v 14=_:=hdx hd 14 (by kernel_rfl)
       refine wpOp_oneH rfl fun KK HKK =>?_
       clear hd
       rw[h14]
       go_wp2
       exact HKK.out _ _ ⟨_,(by simp[upd,h14];done),Below.refl _ _,rfl⟩
      |17,_=>
       have h14:v 14=_:=hdx hd 14 (by kernel_rfl)
       have h16:v 16=_:=hdx hd 16 (by kernel_rfl)
       refine wpOp_oneH rfl fun KK HKK =>?_
       clear hd
       rw[h14,h16]
       go_wp2
       exact HKK.out _ _ ⟨_,(by simp[upd,h14,h16];done),Below.refl _ _,rfl⟩
      |18,_=>
       have h14:v 14=_:=hdx hd 14 (by kernel_rfl)
       have h15:v 15=_:=hdx hd 15 (by kernel_rfl)
       have h17:v 17=_:=hdx hd 17 (by kernel_rfl)
       refine wpOp_oneH rfl fun KK HKK =>?_
       clear hd
       rw[h14,h15,h17]
       go_wp2
       exact HKK.out _ _ ⟨_,(by simp[upd,h14,h15,h17];done),Below.refl _ _,rfl⟩
      |19,_=>
       have h14:v 14=_:=hdx hd 14 (by kernel_rfl)
       have h18:v 18=_:=hdx hd 18 (by kernel_rfl)
       refine wpOp_oneH rfl fun KK HKK =>?_
       clear hd
       rw[h14,h18]
       have q0:=cell_later hb (BY.out W1 (Below.refl _ _)).1
       have q1:=cell_later hb (BY.out W1 (Below.refl _ _)).2.1
       have q2:=cell_later hb (BY.out W1 (Below.refl _ _)).2.2
       go_wp2
       exact HKK.out _ _ ⟨_,(by simp[upd,h14,h18];done),Below.refl _ _,rfl⟩
      |20,_=>
       have h14:v 14=_:=hdx hd 14 (by kernel_rfl)
       refine wpOp_oneH rfl fun KK HKK =>?_
       clear hd
       rw[h14]
       have q0:=cell_later hb (BX.out W1 (Below.refl _ _)).1
       have q1:=cell_later hb (BX.out W1 (Below.refl _ _)).2.1
       have q2:=cell_later hb (BX.out W1 (Below.refl _ _)).2.2
       go_wp2
       exact HKK.out _ _ ⟨_,(by simp[upd,h14];done),Below.refl _ _,rfl⟩
      |21,_=>
       have h14:v 14=_:=hdx hd 14 (by kernel_rfl)
       have h19:v 19=_:=hdx hd 19 (by kernel_rfl)
       have h20:v 20=_:=hdx hd 20 (by kernel_rfl)
       refine wpOp_oneH rfl fun KK HKK =>?_
       clear hd
       rw[h14,h19,h20]
       go_wp2_with fail
       refine(CS.out _ hb).mono ?_
       rintro e w'' ⟨rfl,b⟩
       go_wp2
       exact HKK.out _ _ ⟨_,(by simp[upd,h14,h19,h20];done),b,rfl⟩
      |22,_=>
       have h14:v 14=_:=hdx hd 14 (by kernel_rfl)
       have h21:v 21=_:=hdx hd 21 (by kernel_rfl)
       refine wpOp_oneH rfl fun KK HKK =>?_
       clear hd
       rw[h14,h21]
       go_wp2
       exact HKK.out _ _ ⟨_,(by simp[upd,h14,h21];done),Below.refl _ _,rfl⟩
      |23,_=>
       have h11:v 11=_:=hdx hd 11 (by kernel_rfl)
       have h14:v 14=_:=hdx hd 14 (by kernel_rfl)
       have h22:v 22=_:=hdx hd 22 (by kernel_rfl)
       refine wpOp_oneH rfl fun KK HKK =>?_
       clear hd
       rw[h11,h14,h22]
       go_wp2
       exact HKK.out _ _ ⟨_,(by simp[upd,h11,h14,h22];done),Below.refl _ _,rfl⟩
      |k+24,hk=>exact absurd hk (by omega)
     case doneD=>
      intro v w5 hb hf
      have h11:v 11=_:=hf 11 (by decide)
      have h23:v 23=_:=hf 23 (by decide)
      clear hf
      rw[h11,h23]
      have HBB:=Hd hb
      clear hb
      go_wp2
      go_ret
      exact⟨rfl,below_on BN.out HBB.out⟩
    |true=>
     have HT:=Hd (NX.out ⟨T.out,HVF.out,fun _=>by
      have h1:=of_decide_eq_true HMF.out
      exact⟨h1.1,fun h2 h3=>h1.2 ⟨by omega,h3⟩⟩⟩)
     refine wp_region_facts 24 (by kernel_rfl) (by kernel_rfl)
      (fun v=>{ tmps:=#[.slice (some ⟨b,off,none⟩) L.length c,undef,u2,.int .i64 ↑(m+1),.pointer (some ⟨wr.heap.size,0,none⟩),.slice (some ⟨b,off,none⟩) L.length c,.int .i64 (L.length:Int),.int .i64 ↑(m+1),.bool true,.int .i64 ↑(m+1),.pointer (some ⟨b,off+(m+1)*3,none⟩),.agg #[.int .i64 lo,.int .i64 hi,.slice X l.length cx],v 0,v 1,v 2,v 3,v 4,v 5,v 6,v 7,v 8,v 9,v 10,v 11,v 12,v 13,v 14,v 15,v 16,v 17,v 18,v 19,v 20,v 21,v 22,v 23,u36,u37],defers:=[] }) (fun i=>match i with|0=>u12|1=>u13|2=>u14|3=>u15|4=>u16|5=>u17|6=>u18|7=>u19|8=>u20|9=>u21|10=>u22|11=>u23|12=>u24|13=>u25|14=>u26|15=>u27|16=>u28|17=>u29|18=>u30|19=>u31|20=>u32|21=>u33|22=>u34|23=>u35|_=>undef)
      (fun i x wx=>match i with
       |0=>x = .pointer (some ⟨wr.heap.size,0,none⟩)
       |1=>x = .agg #[.int .i64 lo,.int .i64 hi]
       |2=>∃g,x = .slice (some ⟨g,0,none⟩) 1 1∧Blk wx g 97 #[.int .i64 lo,.int .i64 hi]
       |3=>x = .bool true
       |4=>x = .bool false
       |5=>x = .bool false
       |6=>x = .pointer (some ⟨wr.heap.size,2,none⟩)
       |7=>x = .slice X l.length cx
       |8=>x = .bool true
       |9=>x = .bool false
       |10=>x = .bool false
       |11=>x = .bool false
       |12=>x = .int .i64 ((m+1:Nat):Int)
       |13=>x = .bool true
       |14=>x = .bool true
       |15=>x = .slice (some ⟨b,off,none⟩) L.length c
       |16=>x = .int .i64 ((m+1:Nat):Int)
       |17=>x = .int .i64 (m:Int)
       |18=>x = .pointer (some ⟨b,off+m*3,none⟩)
       |19=>x = .agg #[.int .i64 ylo,.int .i64 yhi,.slice Y yl.length cy]
       |20=>x = .agg #[.int .i64 lo,.int .i64 hi,.slice X l.length cx]
       |21=>x = .bool true
       |22=>x = .bool false
       |23=>x = .bool false
       |_=>True)
      (fun w1 w2=>Below w1.heap.size w1 w2) (fun h1 h2=>below_on h1 h2) (fun _=>Below.refl _ _) (Below.drew (Below.refl _ _)) ?stabE ?stepE ?doneE
     case stabE=>
      rintro i x w1 w2 h hb
      match i,h with
      |0,h=>exact h
      |1,h=>exact h
      |2,h=>obtain⟨g,h1,h2⟩:=h;exact⟨g,h1,h2.later hb⟩
      |3,h=>exact h
      |4,h=>exact h
      |5,h=>exact h
      |6,h=>exact h
      |7,h=>exact h
      |8,h=>exact h
      |9,h=>exact h
      |10,h=>exact h
      |11,h=>exact h
      |12,h=>exact h
      |13,h=>exact h
      |14,h=>exact h
      |15,h=>exact h
      |16,h=>exact h
      |17,h=>exact h
      |18,h=>exact h
      |19,h=>exact h
      |20,h=>exact h
      |21,h=>exact h
      |22,h=>exact h
      |23,h=>exact h
      |i+24,_=>trivial
     case stepE=>
      intro i hi v w' hb hd
      match i,hi with
      |0,_=>
       refine wpOp_oneH rfl fun KK HKK =>?_
       clear hd
       go_wp2
       exact HKK.out _ _ ⟨_,(by simp[upd];done),Below.refl _ _,rfl⟩
      |1,_=>
       have h0:v 0=_:=hdx hd 0 (by kernel_rfl)
       refine wpOp_oneH rfl fun KK HKK =>?_
       clear hd
       rw[h0]
       have q0:=cell_later hb (BX.out W1 (Below.refl _ _)).1
       have q1:=cell_later hb (BX.out W1 (Below.refl _ _)).2.1
       go_wp2
       exact HKK.out _ _ ⟨_,(by simp[upd,h0];done),Below.refl _ _,rfl⟩
      |2,_=>
       have h1:v 1=_:=hdx hd 1 (by kernel_rfl)
       refine wpOp_oneH rfl fun KK HKK =>?_
       clear hd
       rw[h1]
       go_wp2_with fail
       refine(alone_any _ _ _).mono ?_
       rintro e w'' ⟨g,rfl,ob,-,b⟩
       go_wp2
       exact HKK.out _ _ ⟨_,(by simp[upd,h1];done),b,g,rfl,ob⟩
      |3,_=>
       obtain⟨g2,h2,o2⟩:=hd 2 (List.elem_iff.1 (by kernel_rfl))
       refine wpOp_oneH rfl fun KK HKK =>?_
       clear hd
       rw[h2]
       go_wp2_with fail
       refine(FS.out _ _ o2).mono ?_
       rintro e w'' ⟨rfl,b⟩
       go_wp2
       exact HKK.out _ _ ⟨_,(by simp[upd,h2];done),b,rfl⟩
      |4,_=>
       have h3:v 3=_:=hdx hd 3 (by kernel_rfl)
       refine wpOp_oneH rfl fun KK HKK =>?_
       clear hd
       rw[h3]
       go_wp2
       exact HKK.out _ _ ⟨_,(by simp[upd,h3];done),Below.refl _ _,rfl⟩
      |5,_=>
       have h4:v 4=_:=hdx hd 4 (by kernel_rfl)
       refine wpOp_oneH rfl fun KK HKK =>?_
       clear hd
       rw[h4]
       go_wp2
       exact HKK.out _ _ ⟨_,(by simp[upd,h4];done),Below.refl _ _,rfl⟩
      |6,_=>
       have h5:v 5=_:=hdx hd 5 (by kernel_rfl)
       refine wpOp_oneH rfl fun KK HKK =>?_
       clear hd
       rw[h5]
       go_wp2
       exact HKK.out _ _ ⟨_,(by simp[upd,h5];done),Below.refl _ _,rfl⟩
      |7,_=>
       have h5:v 5=_:=hdx hd 5 (by kernel_rfl)
       have h6:v 6=_:=hdx hd 6 (by kernel_rfl)
       refine wpOp_oneH rfl fun KK HKK =>?_
       clear hd
       rw[h5,h6]
       have q0:=cell_later hb (BX.out W1 (Below.refl _ _)).2.2
       go_wp2
       exact HKK.out _ _ ⟨_,(by simp[upd,h5,h6];done),Below.refl _ _,rfl⟩
      |8,_=>
       have h5:v 5=_:=hdx hd 5 (by kernel_rfl)
       have h7:v 7=_:=hdx hd 7 (by kernel_rfl)
       refine wpOp_oneH rfl fun KK HKK =>?_
       clear hd
       rw[h5,h7]
       go_wp2_with fail
       refine(FV.out _ hb).mono ?_
       rintro e w'' ⟨rfl,b⟩
       go_wp2
       exact HKK.out _ _ ⟨_,(by simp[upd,h5,h7];done),b,rfl⟩
      |9,_=>
       have h5:v 5=_:=hdx hd 5 (by kernel_rfl)
       have h8:v 8=_:=hdx hd 8 (by kernel_rfl)
       refine wpOp_oneH rfl fun KK HKK =>?_
       clear hd
       rw[h5,h8]
       go_wp2
       exact HKK.out _ _ ⟨_,(by simp[upd,h5,h8];done),Below.refl _ _,rfl⟩
      |10,_=>
       have h5:v 5=_:=hdx hd 5 (by kernel_rfl)
       have h9:v 9=_:=hdx hd 9 (by kernel_rfl)
       refine wpOp_oneH rfl fun KK HKK =>?_
       clear hd
       rw[h5,h9]
       go_wp2
       exact HKK.out _ _ ⟨_,(by simp[upd,h5,h9];done),Below.refl _ _,rfl⟩
      |11,_=>
       have h10:v 10=_:=hdx hd 10 (by kernel_rfl)
       refine wpOp_oneH rfl fun KK HKK =>?_
       clear hd
       rw[h10]
       go_wp2
       exact HKK.out _ _ ⟨_,(by simp[upd,h10];done),Below.refl _ _,rfl⟩
      |12,_=>
       have h11:v 11=_:=hdx hd 11 (by kernel_rfl)
       refine wpOp_oneH rfl fun KK HKK =>?_
       clear hd
       rw[h11]
       go_wp2
       exact HKK.out _ _ ⟨_,(by simp[upd,h11];done),Below.refl _ _,rfl⟩
      |13,_=>
       have h11:v 11=_:=hdx hd 11 (by kernel_rfl)
       have h12:v 12=_:=hdx hd 12 (by kernel_rfl)
       refine wpOp_oneH rfl fun KK HKK =>?_
       clear hd
       rw[h11,h12]
       go_wp2
       exact HKK.out _ _ ⟨_,(by simp[upd,h11,h12];done),Below.refl _ _,rfl⟩
      |14,_=>
       have h11:v 11=_:=hdx hd 11 (by kernel_rfl)
       have h13:v 13=_:=hdx hd 13 (by kernel_rfl)
       refine wpOp_oneH rfl fun KK HKK =>?_
       clear hd
       rw[h11,h13]
       go_wp2
       exact HKK.out _ _ ⟨_,(by simp[upd,h11,h13];done),Below.refl _ _,rfl⟩
      |15,_=>
       have h14:v 14=_:=hdx hd 14 (by kernel_rfl)
       refine wpOp_oneH rfl fun KK HKK =>?_
       clear hd
       rw[h14]
       go_wp2
       exact HKK.out _ _ ⟨_,(by simp[upd,h14];done),Below.refl _ _,rfl⟩
      |16,_=>
       have h14:v 14=_:=hdx hd 14 (by kernel_rfl)
       refine wpOp_oneH rfl fun KK HKK =>?_
       clear hd
       rw[h14]
       go_wp2
       exact HKK.out _ _ ⟨_,(by simp[upd,h14];done),Below.refl _ _,rfl⟩
      |17,_=>
       have h14:v 14=_:=hdx hd 14 (by kernel_rfl)
       have h16:v 16=_:=hdx hd 16 (by kernel_rfl)
       refine wpOp_oneH rfl fun KK HKK =>?_
       clear hd
       rw[h14,h16]
       go_wp2
       exact HKK.out _ _ ⟨_,(by simp[upd,h14,h16];done),Below.refl _ _,rfl⟩
      |18,_=>
       have h14:v 14=_:=hdx hd 14 (by kernel_rfl)
       have h15:v 15=_:=hdx hd 15 (by kernel_rfl)
       have h17:v 17=_:=hdx hd 17 (by kernel_rfl)
       refine wpOp_oneH rfl fun KK HKK =>?_
       clear hd
       rw[h14,h15,h17]
       go_wp2
       exact HKK.out _ _ ⟨_,(by simp[upd,h14,h15,h17];done),Below.refl _ _,rfl⟩
      |19,_=>
       have h14:v 14=_:=hdx hd 14 (by kernel_rfl)
       have h18:v 18=_:=hdx hd 18 (by kernel_rfl)
       refine wpOp_oneH rfl fun KK HKK =>?_
       clear hd
       rw[h14,h18]
       have q0:=cell_later hb (BY.out W1 (Below.refl _ _)).1
       have q1:=cell_later hb (BY.out W1 (Below.refl _ _)).2.1
       have q2:=cell_later hb (BY.out W1 (Below.refl _ _)).2.2
       go_wp2
       exact HKK.out _ _ ⟨_,(by simp[upd,h14,h18];done),Below.refl _ _,rfl⟩
      |20,_=>
       have h14:v 14=_:=hdx hd 14 (by kernel_rfl)
       refine wpOp_oneH rfl fun KK HKK =>?_
       clear hd
       rw[h14]
       have q0:=cell_later hb (BX.out W1 (Below.refl _ _)).1
       have q1:=cell_later hb (BX.out W1 (Below.refl _ _)).2.1
       have q2:=cell_later hb (BX.out W1 (Below.refl _ _)).2.2
       go_wp2
       exact HKK.out _ _ ⟨_,(by simp[upd,h14];done),Below.refl _ _,rfl⟩
      |21,_=>
       have h14:v 14=_:=hdx hd 14 (by kernel_rfl)
       have h19:v 19=_:=hdx hd 19 (by kernel_rfl)
       have h20:v 20=_:=hdx hd 20 (by kernel_rfl)
       refine wpOp_oneH rfl fun KK HKK =>?_
       clear hd
       rw[h14,h19,h20]
       go_wp2_with fail
       refine(CS.out _ hb).mono ?_
       rintro e w'' ⟨rfl,b⟩
       go_wp2
       exact HKK.out _ _ ⟨_,(by simp[upd,h14,h19,h20];done),b,rfl⟩
      |22,_=>
       have h14:v 14=_:=hdx hd 14 (by kernel_rfl)
       have h21:v 21=_:=hdx hd 21 (by kernel_rfl)
       refine wpOp_oneH rfl fun KK HKK =>?_
       clear hd
       rw[h14,h21]
       go_wp2
       exact HKK.out _ _ ⟨_,(by simp[upd,h14,h21];done),Below.refl _ _,rfl⟩
      |23,_=>
       have h11:v 11=_:=hdx hd 11 (by kernel_rfl)
       have h14:v 14=_:=hdx hd 14 (by kernel_rfl)
       have h22:v 22=_:=hdx hd 22 (by kernel_rfl)
       refine wpOp_oneH rfl fun KK HKK =>?_
       clear hd
       rw[h11,h14,h22]
       go_wp2
       exact HKK.out _ _ ⟨_,(by simp[upd,h11,h14,h22];done),Below.refl _ _,rfl⟩
      |k+24,hk=>exact absurd hk (by omega)
     case doneE=>
      intro v w5 hb hf
      have h11:v 11=_:=hf 11 (by decide)
      have h23:v 23=_:=hf 23 (by decide)
      clear hf
      rw[h11,h23]
      have HBB:=Hd hb
      clear hb
      go_wp2_with fail
      go_roundw
      case rel=>exact⟨_,by omega,by first|rfl|go_num,HT.out,below_on BN.out HBB.out⟩
      case measure=>simp[intOf];omega
  ·have hd:decide ((k:Int)<(L.length:Int))=false:=decide_eq_false (by omega)
   have hqt:q=true:=by
    rw[←HQ.out]
    refine(Tr.fmd_iff _).2 ?_
    rw[List.length_map]
    rw[show L.length=k from by omega]
    exact HALL.out
   subst hqt
   go_wp2
   go_ret
   exact⟨rfl,hbw⟩
end Go.Proofs.YtjlfehpockfkdaaGreat
namespace Go.Proofs.YtjlfehpockfkdaaGreat
open Go.RowKit Go.Shelf
attribute [local go_sem] Oper.semAt_some
def toldW(x:Wr):Array Value:=#[.int .i64 x.2.2.1,Nt.wrV x]
def KeepL(A:Option Addr)(c:Nat)(l:List Wr)(W W':World):Prop:=OneW W A c l→OneW W' A c l
theorem KeepL.trans{A:Option Addr}{c:Nat}{l:List Wr}{X Y Z:World}(h:KeepL A c l X Y)(h':KeepL A c l Y Z):KeepL A c l X Z:=fun k=>h' (h k)
theorem oneW_own{β:Type}(A:Option Addr)(c:Nat)(l:List Wr):Own (fun (_:β) W=>OneW W A c l):=fun s X Y row h hg hr=>
 ⟨h.1,h.2.1,h.2.2.1,fun hne=>by
  obtain⟨b,off,hA,hc⟩:=h.2.2.2 hne
  exact⟨b,off,hA,fun j u hu=>cell_kept (hc j u hu) hg hr⟩⟩
theorem KeepL.put{A:Option Addr}{c:Nat}{l:List Wr}(W:World)(k:Nat)(o o':Obj)(ho:W.heap[k]?=some o)(hc:o.isCells=false):KeepL A c l W (W.putObj k o'):=
 fun h=>oneW_own A c l () W _ (some k) h (grownBy_putObj' W k o') (fun r e=>by cases e;exact⟨o,ho,hc⟩)
set_option maxRecDepth 100000 in
set_option maxHeartbeats 3200000 in
theorem eachW_in{α:Type}(val:α→Wr)(xs:List α)(l:List Wr)(hl:xs.map val=l)(n:Nat)(hn:1≤n)
  (lb bl c s:Nat)(A:Option Addr)(J Jx:List α→World→Prop)(hJa:AbidesFrom s J)
  (hY:∀pre x W,J pre W→pre.length<l.length→YieldAt Fence.wide (n-1) Tryz.prog lb (toldW (val x)) W fun e W'=>(e = .returned (.bool true)∧J (pre++[x]) W'∧KeepL A c l W W')∨(e = .returned (.bool false)∧Jx (pre++[x]) W'))
  (W:World)(hL:OneW W A c l)(hb:W.cell? ⟨bl,0,none⟩=some (.slice A l.length c))(h0:J [] W) :
  CallsIn Fence.wide n Tryz.prog 171 #[.func (.yield lb) #[] #[],.pointer (some ⟨bl,0,none⟩)] W fun e W'=>(∃v,e = .returned v) ∧
   ((∃ys,ys=xs∧J ys W')∨(∃pre,pre <+: xs∧Jx pre W')):=by
 have hlen:=hL.len
 have hxl:xs.length=l.length:=by rw[←hl,List.length_map]
 have hat:∀k,k<l.length→∃a,l.getD k Nt.zeroW=val a∧xs.take k++[a]=xs.take (k+1):=fun k hk=>by
  have hk2:k<xs.length:=by omega
  refine⟨xs[k],?_,(List.take_succ_eq_append_getElem hk2).symm⟩
  subst hl
  rw[List.getD_eq_getElem?_getD,List.getElem?_map,List.getElem?_eq_getElem hk2]
  rfl
 have hpr:∀k,xs.take k <+: xs:=fun k=>List.take_prefix k xs
 have hall:xs.take l.length=xs:=by rw[←hxl,List.take_length]
 have hls:∀k,k<l.length→(xs.take k).length<l.length:=fun k hk=>by rw[List.length_take];omega
 have HAT:=Hd hat
 have HPR:=Hd hpr
 have HALL:=Hd hall
 have HLS:=Hd hls
 have HJA:=Hd hJa
 clear hat hpr hall hJa hl hls hxl
 refine callsIn_of_wp Tryz.func171 rfl trivial ?_ rfl
 simp only[Tryz.ntmps171,List.size_toArray,List.length_cons,List.length_nil,Nat.reduceAdd,Nat.reduceSub,Array.replicate_succ,Array.replicate_zero,List.push_toArray,List.append_toArray,List.nil_append,List.cons_append]
 gi_wp2_with fail
 gi_loopw [7] (fun s7 wr=>∃k:Nat,k≤l.length∧s7 = .int .i64 (k:Int)∧J (xs.take k) wr∧OneW wr A c l) (fun s7 _=>l.length-(intOf s7).toNat)
 case atStart=>exact⟨0,Nat.zero_le _,rfl,h0,hL⟩
 case round=>
  obtain⟨k,hk,rfl,hJs,hLs⟩:=hrel
  clear hL
  by_cases hlt:k<l.length
  ·have hne:l≠[]:=fun e=>by subst e;simp at hlt
   obtain⟨b,off,hA,hcs⟩:=hLs.at hne
   obtain⟨e0,e1,e2,e3⟩:=hcs k hlt
   have hi0:(0:Int)≤(k:Int):=by omega
   have hi1:(k:Int)<(l.length:Int):=by omega
   obtain⟨a,ha,hta⟩:=HAT.out k hlt
   obtain⟨fn,tmps,assign,body,hy,hR⟩:=hY _ a (wr.alloc (.cells (Nt.wrArr (l.getD k Nt.zeroW)) 52)) (HJA.out _ _ _ none hJs (World.grownBy_alloc _ _ none) (fun r e=>by cases e)) (HLS.out k hlt)
   rw[hta]at hR
   rw[←ha]at hy
   clear ha hta
   have hLs1:=hLs.later (below_new (Below.refl wr.heap.size wr) (.cells (Nt.wrArr (l.getD k Nt.zeroW)) 52))
   obtain⟨x,hx⟩:∃x,l.getD k Nt.zeroW=x:=⟨_,rfl⟩
   rw[hx]at e0 e1 e2 e3 hy hR hLs1
   obtain⟨x0,x1,x2,x3⟩:=x
   unfold toldW Nt.wrV at hy
   unfold Nt.wrArr at hy hR hLs1
   dsimp only at e0 e1 e2 e3 hy hR hLs1
   have B2:=Blk.new wr 52 #[.int .i64 x0,.int .i64 x1,.int .i64 x2,.bool x3]
   have g0:=B2.cell (i:=0) rfl
   have g1:=B2.cell (i:=1) rfl
   have g2:=B2.cell (i:=2) rfl
   have g3:=B2.cell (i:=3) rfl
   have HL1:=Hd hLs1
   subst hA
   clear B2 hcs hJs hLs hx hLs1 hY
   gi_wp2_with fail
   refine hR.mono ?_
   rintro e W3 (⟨rfl,hJ3,hk3⟩|⟨rfl,hJx3⟩)
   ·clear hy hR fn tmps assign body e0 e1 e2 e3 g0 g1 g2 g3
    have hL3:=hk3 HL1.out
    gi_wp2_with fail
    go_roundw
    case rel=>exact⟨k+1,by omega,by first|trivial|go_num,hJ3,hL3⟩
    case measure=>simp[intOf];omega
   ·gi_wp2_with fail
    refine bodyPost_ret (results_none rfl _ _ _) rfl ?_
    exact⟨⟨_,rfl⟩,.inr ⟨_,HPR.out (k+1),hJx3⟩⟩
  ·obtain rfl:k=l.length:=by omega
   have hJx:J xs wr:=by rw[←HALL.out];exact hJs
   clear hJs
   gi_wp2
   go_end0
   exact⟨⟨_,rfl⟩,.inl ⟨_,rfl,hJx⟩⟩
def WalkerW(A:Option Addr)(c:Nat)(l:List Wr)(w:World)(e:Ending)(w1:World):Prop:=
 ∃bl,e = .returned (.func (.func 171) #[] #[.pointer (some ⟨bl,0,none⟩)])∧w1.cell? ⟨bl,0,none⟩=some (.slice A l.length c)∧Below w.heap.size w w1
theorem each_any(A:Option Addr)(c:Nat)(l:List Wr)(w:World):Calls Tryz.prog 147 #[.slice A l.length c] w (WalkerW A c l w):=by
 have FIN:=Hd (⟨_,rfl,(Blk.new w 24 #[.slice A l.length c]).cell (i:=0) rfl,below_new (Below.refl _ _) _⟩:WalkerW A c l w (.returned (.func (.func 171) #[] #[.pointer (some ⟨w.heap.size,0,none⟩)])) _)
 go_enter Tryz.func147,Tryz.ntmps147
 go_wp2
 go_ret
 exact FIN.out
theorem enters_eachW:∀args w,(callFunc 171 args).run Tryz.prog w = .ok (.enter 171 args) w:=
 enters_of Tryz.func171 (by kernel_rfl) rfl
theorem eachW_stops{α:Type}(val:α→Wr)(xs:List α)(l:List Wr)(hl:xs.map val=l)(n:Nat)(hn:1≤n)(bl c:Nat)(A:Option Addr)(w:World)(hL:OneW w A c l)(hb:w.cell? ⟨bl,0,none⟩=some (.slice A l.length c)) :
  SeqStopsK Fence.wide n Tryz.prog 171 #[.pointer (some ⟨bl,0,none⟩)] (fun x=>toldW (val x)) (KeepL A c l) (· = xs) (· <+: xs) l.length w:=
 fun lb J Jx W hW hJ _ hY h0=>eachW_in val xs l hl n hn lb bl c W.heap.size A J Jx hJ hY W (hL.later hW) (cell_later hW hb) h0
end Go.Proofs.YtjlfehpockfkdaaGreat
namespace Go.Proofs.YtjlfehpockfkdaaGreat
open Go.RowKit Go.Shelf
attribute [local go_sem] Oper.semAt_some
set_option maxHeartbeats 1600000 in
theorem sdright_any(x:Wr)(w:World):Calls Tryz.prog 162 #[Nt.wrV x] w (Says (.bool (Sf.right x)) w):=by
 obtain⟨x0,x1,x2,x3⟩:=x
 unfold Nt.wrV
 have b0:=below_new (Below.refl w.heap.size w) (.cells #[.int .i64 x0,.int .i64 x1,.int .i64 x2,.bool x3] 52)
 by_cases h0:0≤x2
 ·have d0:decide (0≤x2)=true:=decide_eq_true h0
  by_cases h1:x2<256
  ·have d1:decide (x2<256)=true:=decide_eq_true h1
   have hR:Sf.right (x0,x1,x2,x3)=St.rgt x0 x1:=by unfold Sf.right;dsimp only;rw[d0,decide_eq_true (show x2≤255 by omega)];rfl
   rw[hR]
   have BB:=Hd b0
   have N1:=Hd (fun wx=>right_any x0 x1 wx)
   clear hR b0
   go_enter Tryz.func162,Tryz.ntmps162
   go_wp2_with fail
   refine(N1.out _).mono ?_
   rintro e w1 ⟨rfl,b1⟩
   have FB:=Hd (below_on BB.out b1)
   clear N1 BB b1
   go_wp2
   go_ret
   exact⟨rfl,FB.out⟩
  ·have d1:decide (x2<256)=false:=decide_eq_false h1
   have hR:Sf.right (x0,x1,x2,x3)=false:=by unfold Sf.right;dsimp only;rw[d0,decide_eq_false (show ¬x2≤255 by omega)];rfl
   rw[hR]
   have BB:=Hd b0
   clear hR b0
   go_enter Tryz.func162,Tryz.ntmps162
   go_wp2
   go_ret
   exact⟨rfl,BB.out⟩
 ·have d0:decide (0≤x2)=false:=decide_eq_false h0
  have hR:Sf.right (x0,x1,x2,x3)=false:=by unfold Sf.right;dsimp only;rw[d0];rfl
  rw[hR]
  have BB:=Hd b0
  clear hR b0
  go_enter Tryz.func162,Tryz.ntmps162
  go_wp2
  go_ret
  exact⟨rfl,BB.out⟩
theorem keepsF_below{n0:Nat}{W W':World}(hb:Below W.heap.size W W'):KeepsFrom n0 W W':=⟨hb.size,fun k _ _ hk _=>(hb.block k (Array.getElem?_eq_some_iff.1 hk).1).trans hk⟩
set_option maxRecDepth 100000 in
set_option maxHeartbeats 3200000 in
theorem allRight_any(A:Option Addr)(c:Nat)(l:List Wr)(w:World)(h:OneW w A c l) :
  Calls Tryz.prog 130 #[.slice A l.length c] w (Says (.bool (l.all Sf.right)) w):=by
 have HL:=Hd h
 have b0:=below_new (Below.refl w.heap.size w) (.cells #[.bool false] 4)
 have B0:=Blk.new w 4 #[.bool false]
 obtain⟨W,hW⟩:∃W,w.alloc (.cells #[.bool false] 4)=W:=⟨_,rfl⟩
 rw[hW]at b0 B0
 have HW:=Hd hW
 clear h hW
 refine(callsIn_wide (n:=3)).1 ?_
 refine callsIn_of_wp_marks Tryz.func130 rfl trivial ?_ rfl
 simp only[Tryz.ntmps130,List.size_toArray,List.length_cons,List.length_nil,Nat.reduceAdd,Nat.reduceSub,Array.replicate_succ,Array.replicate_zero,List.push_toArray,List.append_toArray,List.nil_append,List.cons_append]
 gi_wp2_with fail
 rw[HW.out]
 refine⟨trivial,(callsIn_wide.2 (each_any A c l W)).mono ?_⟩
 rintro e w1 ⟨bl,rfl,hbl,b1⟩
 have bb1:=below_on b0 b1
 have B1:=B0.later b1
 have hz1:=bb1.size
 have hlt1:=B1.lt
 have SEQ:=eachW_stops id l l (List.map_id l) 2 (by omega) bl c A w1 (HL.out.later bb1) hbl
 clear b0 B0 b1 HW hbl
 gi_wp2_with fail
 refine wpIn_rangeFunc_ownH rfl (by omega) (gf:=171) (lb:=#[.pointer (some ⟨bl,0,none⟩)]) rfl trivial enters_eachW SEQ KeepL.trans (fun W l' o o' _ h1 h2 _=>KeepL.put W l' o o' h1 h2) (Below.refl _ _) (fun _=>rfl)
  (fun pre W=>(pre.all Sf.right=true∧Blk W w.heap.size 4 #[.bool false])∧Below w.heap.size w W)
  (fun c pre W=>((c = .ret∧pre.all Sf.right=false)∧Blk W w.heap.size 4 #[.bool false])∧Below w.heap.size w W)
  ?hI ?hIx ⟨⟨rfl,B1⟩,bb1⟩
  (fun x a' W=>∃Bx,Blk W Bx 52 (Nt.wrArr x)∧a'={ tmps:=#[.slice A l.length c,undef,.pointer (some ⟨w.heap.size,0,none⟩),undef,.pointer (some ⟨Bx,0,none⟩),.slice A l.length c,.func (.func 171) #[] #[.pointer (some ⟨bl,0,none⟩)],.int .i64 x.2.2.1,Nt.wrV x,undef,undef,undef],defers:=[] })
  ?hAx ?assign ?body ?done ?stop
 case hI=>exact OwnFrom.and (OwnFrom.and (ownFrom_pure _ _) (Own.from (blk_own _ _ fun _=>#[.bool false]) _)) (ownFrom_below (Nat.le_refl _) hz1)
 case hIx=>exact fun c'=>OwnFrom.and (OwnFrom.and (ownFrom_pure _ _) (Own.from (blk_own _ _ fun _=>#[.bool false]) _)) (ownFrom_below (Nat.le_refl _) hz1)
 case hAx=>exact fun x a' _ X Y row ⟨Bx,h1,h2⟩ hg hr=>⟨Bx,blk_own _ _ (fun (_:Unit)=>Nt.wrArr x) () X Y row h1 hg (fun r e=>(hr r e).2),h2⟩
 case assign=>
  rintro l' pre x W K ⟨⟨i0,i1⟩,i2⟩ hK
  obtain⟨x0,x1,x2,x3⟩:=x
  unfold toldW Nt.wrV
  unfold Nt.wrV Nt.wrArr at hK
  dsimp only[id]at hK ⊢
  have bN:=below_new (Below.refl W.heap.size W) (.cells #[.int .i64 x0,.int .i64 x1,.int .i64 x2,.bool x3] 52)
  have HK:=Hd hK
  have F1:=Hd (i1.later bN)
  have F2:=Hd (below_on i2 bN)
  have F3:=Hd (Blk.new W 52 #[.int .i64 x0,.int .i64 x1,.int .i64 x2,.bool x3])
  have F4:=Hd i0
  have F5:=Hd bN
  clear hK i0 i1 i2 bN
  gi_wp2
  exact HK.out _ _ (keepsF_below F5.out) (fun h=>h.later F5.out) ⟨⟨F4.out,F1.out⟩,F2.out⟩ ⟨_,F3.out,rfl⟩
 case body=>
  rintro l' pre x a' W hl _ ⟨⟨i0,i1⟩,i2⟩ ⟨Bx,hX,rfl⟩ hlt
  have hlx:=HL.out.later i2
  obtain⟨x0,x1,x2,x3⟩:=x
  have N1:=Hd (sdright_any (x0,x1,x2,x3) W)
  have hsn:(pre++[(x0,x1,x2,x3)]).all Sf.right=Sf.right (x0,x1,x2,x3):=by rw[List.all_append,i0];simp
  unfold Nt.wrV at N1 ⊢
  unfold Nt.wrArr at hX
  dsimp only at N1 hX ⊢
  have g0:=hX.cell (i:=0) rfl
  have g1:=hX.cell (i:=1) rfl
  have g2:=hX.cell (i:=2) rfl
  have g3:=hX.cell (i:=3) rfl
  obtain⟨q,hq⟩:∃q,Sf.right (x0,x1,x2,x3)=q:=⟨_,rfl⟩
  rw[hq]at N1 hsn
  have HSN:=Hd hsn
  have I1:=Hd i1
  have I2:=Hd i2
  have HLX:=Hd hlx
  clear hX i0 i1 i2 hlx hq hsn SEQ B1 hl
  gi_wp2_with fail
  refine⟨trivial,(CallsIn.inRound l' (callsIn_wide.2 N1.out)).mono ?_⟩
  rintro e w2 ⟨rfl,b2⟩
  have C1:=I1.out.later b2
  have c1:=C1.cell (i:=0) rfl
  have f1:=C1.free 0
  have hb2:=below_on I2.out b2
  cases q with
  |true=>
   have FIN:=Hd (show KeepsFrom w1.heap.size W w2∧KeepL A c l W w2∧((pre++[(x0,x1,x2,x3)]).all Sf.right=true∧Blk w2 w.heap.size 4 #[.bool false])∧Below w.heap.size w w2 from
    ⟨keepsF_below b2,fun h=>h.later b2,⟨HSN.out,C1⟩,hb2⟩)
   clear b2 C1 c1 f1 hb2 N1 g0 g1 g2 g3
   gi_wp2
   exact FIN.out
  |false=>
   have FIN:=Hd (show KeepsFrom w1.heap.size W (w2.setCell ⟨w.heap.size,0,none⟩ (.bool false))∧((Code.ret = .ret∧(pre++[(x0,x1,x2,x3)]).all Sf.right=false)∧Blk (w2.setCell ⟨w.heap.size,0,none⟩ (.bool false)) w.heap.size 4 #[.bool false])∧Below w.heap.size w (w2.setCell ⟨w.heap.size,0,none⟩ (.bool false)) from
    ⟨(keepsF_below b2).trans ((KeepsOthers.setCell _ _ _).from _),⟨⟨rfl,HSN.out⟩,C1.put 0 (.bool false)⟩,hb2.setCell (p:=⟨w.heap.size,0,none⟩) (Nat.le_refl _) _⟩)
   clear b2 C1 hb2 N1 g0 g1 g2 g3
   gi_wp2
   exact⟨FIN.out.1,⟨⟨rfl,FIN.out.2.1.1.2⟩,FIN.out.2.1.2⟩,FIN.out.2.2⟩
 case done=>
  rintro DD ys W hDD hys ⟨⟨i0,i1⟩,i2⟩ hK
  subst hys
  have c1:=i1.cell (i:=0) rfl
  have f1:=i1.free 0
  have C2:=i1.put 0 (.bool true)
  have hK':=(KeepsOthers.setCell W ⟨w.heap.size,0,none⟩ (.bool true)).same DD _ hK rfl
  have hb3:=i2.setCell (p:=⟨w.heap.size,0,none⟩) (Nat.le_refl _) (.bool true)
  have HC2:=Hd C2
  have HB3:=Hd hb3
  have HK':=Hd hK'
  have H0:=Hd i0
  clear SEQ i0 i1 i2 hb3 C2 B1
  gi_wp2
  refine⟨by simp,.inl ⟨_,_,rfl,run_takeDeferred HK'.out,?_⟩⟩
  have hc5:=cell_kept (HC2.out.cell (i:=0) rfl) (grownBy_putObj' _ DD (.deferred none)) (fun r e=>by cases e;exact⟨_,HK'.out,rfl⟩)
  refine⟨.bool true,?_,by rw[H0.out],HB3.out.trans (belowK_b (w:=w) (Nat.le_refl _) _ DD _ _ (by omega) HK'.out rfl rfl)⟩
  simp[results,Tryz.f130,go_sem,hc5]
 case stop=>
  rintro DD c' pre W hDD hpre ⟨⟨⟨rfl,i0⟩,i1⟩,i2⟩ hK
  have hall:l.all Sf.right=false:=by
   obtain⟨t,rfl⟩:=hpre
   rw[List.all_append,i0]
   rfl
  have H0:=Hd hall
  have c1:=i1.cell (i:=0) rfl
  clear SEQ i0 hall B1
  gi_wp2
  refine⟨by simp,.inl ⟨_,_,rfl,run_takeDeferred hK,?_⟩⟩
  have hc5:=cell_kept c1 (grownBy_putObj' _ DD (.deferred none)) (fun r e=>by cases e;exact⟨_,hK,rfl⟩)
  refine⟨.bool false,?_,by rw[H0.out],i2.trans (belowK_b (w:=w) (Nat.le_refl _) W DD _ _ (by omega) hK rfl rfl)⟩
  simp[results,Tryz.f130,go_sem,hc5]
end Go.Proofs.YtjlfehpockfkdaaGreat
namespace Go.Proofs.YtjlfehpockfkdaaGreat
open Go.RowKit Go.Shelf
attribute [local go_sem] Oper.semAt_some
namespace Sf
def last(pre:List Wr):Int:=match pre.getLast? with
 |some x=>x.2.2.1
 |none=> -1
theorem last_snoc(pre:List Wr)(x:Wr):last (pre++[x])=x.2.2.1:=by unfold last;rw[List.getLast?_concat]
theorem le_last{pre:List Wr}(h:fmd pre=true):∀a∈pre,a.2.2.1≤last pre:=by
 rcases List.eq_nil_or_concat pre with rfl|⟨q,y,rfl⟩
 ·intro a ha;cases ha
 ·rw[List.concat_eq_append]at h ⊢
  rw[last_snoc]
  intro a ha
  have hp:=(List.pairwise_append.1 ((fmd_list _).1 h).2).2.2
  rcases List.mem_append.1 ha with ha|ha
  ·have:=hp a ha y (by simp);omega
  ·obtain rfl:a=y:=by simpa using ha
   exact Int.le_refl _
theorem last_mem(pre:List Wr):last pre = -1∨∃y∈pre,last pre=y.2.2.1:=by
 rcases List.eq_nil_or_concat pre with rfl|⟨q,y,rfl⟩
 ·exact .inl rfl
 ·rw[List.concat_eq_append,last_snoc]
  exact .inr ⟨y,by simp,rfl⟩
theorem fmd_pre{pre l:List Wr}(hp:pre <+: l)(h:fmd l=true):fmd pre=true:=by
 rw[fmd_list]at h ⊢
 obtain⟨t,rfl⟩:=hp
 exact⟨fun x hx=>h.1 x (by simp[hx]),(List.pairwise_append.1 h.2).1⟩
theorem fmd_pre_no{pre l:List Wr}(hp:pre <+: l)(h:fmd pre=false):fmd l=false:=by
 cases hl:fmd l with
 |false=>rfl
 |true=>rw[fmd_pre hp hl]at h;cases h
theorem fmd_snoc{pre:List Wr}(x:Wr)(h:fmd pre=true):fmd (pre++[x])=(!(decide (x.2.2.1≤last pre))&&right x):=by
 rw[Bool.eq_iff_iff,fmd_list,Bool.and_eq_true,Bool.not_eq_true',decide_eq_false_iff_not]
 constructor
 ·rintro ⟨h1,h2⟩
  refine⟨?_,h1 x (by simp)⟩
  rcases last_mem pre with e|⟨y,hy,e⟩
  ·have:=((right_iff x).1 (h1 x (by simp))).1;omega
  ·have:=(List.pairwise_append.1 h2).2.2 y hy x (by simp);omega
 ·rintro ⟨h1,h2⟩
  have hf:=(fmd_list pre).1 h
  refine⟨fun y hy =>?_,List.pairwise_append.2 ⟨hf.2,List.pairwise_singleton _ _,fun a ha b hb =>?_⟩⟩
  ·rcases List.mem_append.1 hy with hy|hy
   ·exact hf.1 y hy
   ·obtain rfl:y=x:=by simpa using hy
    exact h2
  ·obtain rfl:b=x:=by simpa using hb
   have:=le_last h a ha
   omega
end Sf
set_option maxRecDepth 100000 in
set_option maxHeartbeats 3200000 in
theorem sdformed_any(A:Option Addr)(c:Nat)(l:List Wr)(w:World)(h:OneW w A c l) :
  Calls Tryz.prog 114 #[.slice A l.length c] w (Says (.bool (Sf.fmd l)) w):=by
 have HL:=Hd h
 have b0:=below_new (below_new (Below.refl w.heap.size w) (.cells #[.bool false] 4)) (.cells #[.int .i64 (-1)] 3)
 have B0:=(Blk.new w 4 #[.bool false]).alloc (.cells #[.int .i64 (-1)] 3)
 have L0:=Blk.new (w.alloc (.cells #[.bool false] 4)) 3 #[.int .i64 (-1)]
 rw[World.size_alloc]at L0
 obtain⟨W,hW⟩:∃W,(w.alloc (.cells #[.bool false] 4)).alloc (.cells #[.int .i64 (-1)] 3)=W:=⟨_,rfl⟩
 rw[hW]at b0 B0 L0
 have HW:=Hd hW
 clear h hW
 refine(callsIn_wide (n:=3)).1 ?_
 refine callsIn_of_wp_marks Tryz.func114 rfl trivial ?_ rfl
 simp only[Tryz.ntmps114,List.size_toArray,List.length_cons,List.length_nil,Nat.reduceAdd,Nat.reduceSub,Array.replicate_succ,Array.replicate_zero,List.push_toArray,List.append_toArray,List.nil_append,List.cons_append]
 gi_wp2_with fail
 rw[HW.out]
 refine⟨trivial,(callsIn_wide.2 (each_any A c l W)).mono ?_⟩
 rintro e w1 ⟨bl,rfl,hbl,b1⟩
 have bb1:=below_on b0 b1
 have B1:=B0.later b1
 have L1:=L0.later b1
 have hz1:=bb1.size
 have hlt1:=L1.lt
 have SEQ:=eachW_stops id l l (List.map_id l) 2 (by omega) bl c A w1 (HL.out.later bb1) hbl
 clear b0 B0 L0 b1 HW hbl
 gi_wp2_with fail
 refine wpIn_rangeFunc_ownH rfl (by omega) (gf:=171) (lb:=#[.pointer (some ⟨bl,0,none⟩)]) rfl trivial enters_eachW SEQ KeepL.trans (fun W l' o o' _ h1 h2 _=>KeepL.put W l' o o' h1 h2) (Below.refl _ _) (fun _=>rfl)
  (fun pre W=>((Sf.fmd pre=true∧Blk W w.heap.size 4 #[.bool false])∧Blk W (w.heap.size+1) 3 #[.int .i64 (Sf.last pre)])∧Below w.heap.size w W)
  (fun c pre W=>((c = .ret∧Sf.fmd pre=false)∧Blk W w.heap.size 4 #[.bool false])∧Below w.heap.size w W)
  ?hI ?hIx ⟨⟨⟨Sf.fmd_nil,B1⟩,L1⟩,bb1⟩
  (fun x a' W=>∃Bx,Blk W Bx 52 (Nt.wrArr x)∧a'={ tmps:=#[.slice A l.length c,undef,.pointer (some ⟨w.heap.size,0,none⟩),.pointer (some ⟨w.heap.size+1,0,none⟩),.int .i64 x.2.2.1,.pointer (some ⟨Bx,0,none⟩),.slice A l.length c,.func (.func 171) #[] #[.pointer (some ⟨bl,0,none⟩)],.int .i64 x.2.2.1,Nt.wrV x,undef,undef,undef,undef,undef,undef,undef,undef,undef],defers:=[] })
  ?hAx ?assign ?body ?done ?stop
 case hI=>exact OwnFrom.and (OwnFrom.and (OwnFrom.and (ownFrom_pure _ _) (Own.from (blk_own _ _ fun _=>#[.bool false]) _)) (Own.from (blk_own _ _ fun pre=>#[.int .i64 (Sf.last pre)]) _)) (ownFrom_below (Nat.le_refl _) hz1)
 case hIx=>exact fun c'=>OwnFrom.and (OwnFrom.and (ownFrom_pure _ _) (Own.from (blk_own _ _ fun _=>#[.bool false]) _)) (ownFrom_below (Nat.le_refl _) hz1)
 case hAx=>exact fun x a' _ X Y row ⟨Bx,h1,h2⟩ hg hr=>⟨Bx,blk_own _ _ (fun (_:Unit)=>Nt.wrArr x) () X Y row h1 hg (fun r e=>(hr r e).2),h2⟩
 case assign=>
  rintro l' pre x W K ⟨⟨⟨i0,i1⟩,i3⟩,i2⟩ hK
  obtain⟨x0,x1,x2,x3⟩:=x
  unfold toldW Nt.wrV
  unfold Nt.wrV Nt.wrArr at hK
  dsimp only[id]at hK ⊢
  have bN:=below_new (Below.refl W.heap.size W) (.cells #[.int .i64 x0,.int .i64 x1,.int .i64 x2,.bool x3] 52)
  have HK:=Hd hK
  have F1:=Hd (i1.later bN)
  have F2:=Hd (below_on i2 bN)
  have F3:=Hd (Blk.new W 52 #[.int .i64 x0,.int .i64 x1,.int .i64 x2,.bool x3])
  have F4:=Hd i0
  have F5:=Hd bN
  have F6:=Hd (i3.later bN)
  clear hK i0 i1 i2 i3 bN
  gi_wp2
  exact HK.out _ _ (keepsF_below F5.out) (fun h=>h.later F5.out) ⟨⟨⟨F4.out,F1.out⟩,F6.out⟩,F2.out⟩ ⟨_,F3.out,rfl⟩
 case body=>
  rintro l' pre x a' W hl _ ⟨⟨⟨i0,i1⟩,i3⟩,i2⟩ ⟨Bx,hX,rfl⟩ hlt
  have hlx:=HL.out.later i2
  obtain⟨x0,x1,x2,x3⟩:=x
  have hsn:=Sf.fmd_snoc (x0,x1,x2,x3) i0
  have hls:=Sf.last_snoc pre (x0,x1,x2,x3)
  have N1:=Hd (sdright_any (x0,x1,x2,x3) W)
  unfold Nt.wrV at N1 ⊢
  unfold Nt.wrArr at hX
  dsimp only at N1 hX hsn hls ⊢
  obtain⟨la,hla⟩:∃la,Sf.last pre=la:=⟨_,rfl⟩
  rw[hla]at hsn i3
  have g0:=hX.cell (i:=0) rfl
  have g1:=hX.cell (i:=1) rfl
  have g2:=hX.cell (i:=2) rfl
  have g3:=hX.cell (i:=3) rfl
  have l0:=i3.cell (i:=0) rfl
  have lf:=i3.free 0
  have c1:=i1.cell (i:=0) rfl
  have f1:=i1.free 0
  have HLS:=Hd hls
  have I1:=Hd i1
  have I2:=Hd i2
  have I3:=Hd i3
  have HLX:=Hd hlx
  obtain⟨q,hq⟩:∃q,Sf.right (x0,x1,x2,x3)=q:=⟨_,rfl⟩
  rw[hq]at N1 hsn
  by_cases hd:x2≤la
  ·have hd1:decide (x2≤la)=true:=decide_eq_true hd
   rw[hd1]at hsn
   have FIN:=Hd (show KeepsFrom w1.heap.size W (W.setCell ⟨w.heap.size,0,none⟩ (.bool false))∧((Code.ret = .ret∧Sf.fmd (pre++[(x0,x1,x2,x3)])=false)∧Blk (W.setCell ⟨w.heap.size,0,none⟩ (.bool false)) w.heap.size 4 #[.bool false])∧Below w.heap.size w (W.setCell ⟨w.heap.size,0,none⟩ (.bool false)) from
    ⟨(KeepsOthers.setCell _ _ _).from _,⟨⟨rfl,hsn⟩,i1.put 0 (.bool false)⟩,i2.setCell (p:=⟨w.heap.size,0,none⟩) (Nat.le_refl _) _⟩)
   clear hX i0 i1 i2 i3 hlx hq hsn hls SEQ B1 L1 hl hla N1
   gi_wp2_with fail
   first
    |(refine⟨trivial,?_⟩
      gi_wp2
      exact⟨FIN.out.1,⟨⟨rfl,FIN.out.2.1.1.2⟩,FIN.out.2.1.2⟩,FIN.out.2.2⟩)
    |exact⟨FIN.out.1,⟨⟨rfl,FIN.out.2.1.1.2⟩,FIN.out.2.1.2⟩,FIN.out.2.2⟩
  ·have hd1:decide (x2≤la)=false:=decide_eq_false hd
   rw[hd1]at hsn
   have HSN:=Hd hsn
   clear hX i0 i1 i2 i3 hlx hq hsn hls SEQ B1 L1 hl hla
   gi_wp2_with fail
   refine⟨trivial,(CallsIn.inRound l' (callsIn_wide.2 N1.out)).mono ?_⟩
   rintro e w2 ⟨rfl,b2⟩
   have C1:=I1.out.later b2
   have C3:=I3.out.later b2
   have c1:=C1.cell (i:=0) rfl
   have f1:=C1.free 0
   have m1:=C3.cell (i:=0) rfl
   have mf1:=C3.free 0
   have hb2:=below_on I2.out b2
   cases q with
   |true=>
    have FIN:=Hd (show KeepsFrom w1.heap.size W (w2.setCell ⟨w.heap.size+1,0,none⟩ (.int .i64 x2))∧KeepL A c l W (w2.setCell ⟨w.heap.size+1,0,none⟩ (.int .i64 x2))∧((Sf.fmd (pre++[(x0,x1,x2,x3)])=true∧Blk (w2.setCell ⟨w.heap.size+1,0,none⟩ (.int .i64 x2)) w.heap.size 4 #[.bool false])∧Blk (w2.setCell ⟨w.heap.size+1,0,none⟩ (.int .i64 x2)) (w.heap.size+1) 3 #[.int .i64 (Sf.last (pre++[(x0,x1,x2,x3)]))])∧Below w.heap.size w (w2.setCell ⟨w.heap.size+1,0,none⟩ (.int .i64 x2)) from
     ⟨(keepsF_below b2).trans ((KeepsOthers.setCell _ _ _).from _),fun _=>HL.out.later (hb2.setCell (p:=⟨w.heap.size+1,0,none⟩) (by show w.heap.size≤w.heap.size+1;omega) _),⟨⟨HSN.out,C1.far (p:=⟨w.heap.size+1,0,none⟩) (by show w.heap.size≠w.heap.size+1;omega) _⟩,by rw[HLS.out];exact C3.put 0 (.int .i64 x2)⟩,hb2.setCell (p:=⟨w.heap.size+1,0,none⟩) (by show w.heap.size≤w.heap.size+1;omega) _⟩)
    clear b2 C1 C3 c1 f1 hb2 N1 g0 g1 g2 g3 l0 lf
    gi_wp2
    exact FIN.out
   |false=>
    have FIN:=Hd (show KeepsFrom w1.heap.size W (w2.setCell ⟨w.heap.size,0,none⟩ (.bool false))∧((Code.ret = .ret∧Sf.fmd (pre++[(x0,x1,x2,x3)])=false)∧Blk (w2.setCell ⟨w.heap.size,0,none⟩ (.bool false)) w.heap.size 4 #[.bool false])∧Below w.heap.size w (w2.setCell ⟨w.heap.size,0,none⟩ (.bool false)) from
     ⟨(keepsF_below b2).trans ((KeepsOthers.setCell _ _ _).from _),⟨⟨rfl,HSN.out⟩,C1.put 0 (.bool false)⟩,hb2.setCell (p:=⟨w.heap.size,0,none⟩) (Nat.le_refl _) _⟩)
    clear b2 C1 C3 hb2 N1 g0 g1 g2 g3 l0 lf m1 mf1
    gi_wp2
    exact⟨FIN.out.1,⟨⟨rfl,FIN.out.2.1.1.2⟩,FIN.out.2.1.2⟩,FIN.out.2.2⟩
 case done=>
  rintro DD ys W hDD hys ⟨⟨⟨i0,i1⟩,-⟩,i2⟩ hK
  subst hys
  have c1:=i1.cell (i:=0) rfl
  have f1:=i1.free 0
  have C2:=i1.put 0 (.bool true)
  have hK':=(KeepsOthers.setCell W ⟨w.heap.size,0,none⟩ (.bool true)).same DD _ hK rfl
  have hb3:=i2.setCell (p:=⟨w.heap.size,0,none⟩) (Nat.le_refl _) (.bool true)
  have HC2:=Hd C2
  have HB3:=Hd hb3
  have HK':=Hd hK'
  have H0:=Hd i0
  clear SEQ i0 i1 i2 hb3 C2 B1 L1
  gi_wp2
  refine⟨by simp,.inl ⟨_,_,rfl,run_takeDeferred HK'.out,?_⟩⟩
  have hc5:=cell_kept (HC2.out.cell (i:=0) rfl) (grownBy_putObj' _ DD (.deferred none)) (fun r e=>by cases e;exact⟨_,HK'.out,rfl⟩)
  refine⟨.bool true,?_,by rw[H0.out],HB3.out.trans (belowK_b (w:=w) (Nat.le_refl _) _ DD _ _ (by omega) HK'.out rfl rfl)⟩
  simp[results,Tryz.f114,go_sem,hc5]
 case stop=>
  rintro DD c' pre W hDD hpre ⟨⟨⟨rfl,i0⟩,i1⟩,i2⟩ hK
  have hall:=Sf.fmd_pre_no hpre i0
  have H0:=Hd hall
  have c1:=i1.cell (i:=0) rfl
  clear SEQ i0 hall B1 L1
  gi_wp2
  refine⟨by simp,.inl ⟨_,_,rfl,run_takeDeferred hK,?_⟩⟩
  have hc5:=cell_kept c1 (grownBy_putObj' _ DD (.deferred none)) (fun r e=>by cases e;exact⟨_,hK,rfl⟩)
  refine⟨.bool false,?_,by rw[H0.out],i2.trans (belowK_b (w:=w) (Nat.le_refl _) W DD _ _ (by omega) hK rfl rfl)⟩
  simp[results,Tryz.f114,go_sem,hc5]
end Go.Proofs.YtjlfehpockfkdaaGreat
namespace Go.Proofs.YtjlfehpockfkdaaGreat
open Go.RowKit Go.Shelf
attribute [local go_sem] Oper.semAt_some
theorem wpListIn_append_lies{F:Fence}{n:Nat}{P:Program}(w:World){ops:Array Oper}{rest:List Oper}{o:Oper}{a:Act}{Q:Exit→Act→World→Prop}(hgd:o.guard=none)(s x:Operand)(t:TypeId)
  (ho:o.op = .call { callee :=.builtin .append,args:=#[s,x],argTypes:=#[t,t] })
  (base:Nat)(e:TypeId)(i:TypeInfo)(z:Value)(size bytes:Nat)(ht:P.underlying t=some (.slice e))(hi:P.info? e=some i)(hz:i.zero=some z)
  (hsize:i.size=size)(hby:i.bytes=bytes)(hzs:z.cells.size=size)(hsz:0<size)
  (v:Value)(k:Nat)(xs:List Value)(hs:a.eval s=v)(hown:w.ownsRow base e size v k xs)
  (A:Option Addr)(m c:Nat)(hA:A=none→m=0∧c=0)(news:List Value)(hx:a.eval x = .slice A m c)(hl:news.length=m*size)(hr:Lies w A news)(h1:∀u∈news,u.oneCell'=true)
  (h63:k+m≤maxLen)(hbytes:(k+m)*bytes≤140737488355328)(hbase:base≤w.heap.size)
  (h:∀v' w',w'.ownsRow base e size v' (k+m) (xs++news)→w.grownBy w' v.ownBlock→(v'.ownBlock=v.ownBlock∨v'.ownBlock=some w.heap.size)→wpListIn F n P ops Q rest (a.put o.dst v') w') :
  wpListIn F n P ops Q (o::rest) a w:=by
 refine wpListIn_plain hgd fun K hK =>?_
 obtain⟨v',w',hrun,r1,r2,r3⟩:=run_append_lies (P:=P) w base t o.type e i z size bytes ht hi hz hsize hby hzs hsz v k xs hown A m c hA news hl hr h1 h63 hbytes hbase
 unfold Oper.wpIn
 refine⟨?_,?_⟩
 ·simp[Oper.about,ho,resolve,Target.leads,Sem.run_pure]
 ·rw[Oper.semAt_plain F _ _ (by rw[ho];intro c hc';cases hc')]
  simp[execOp,ho,resolve,invoke,builtin,hs,hx,hrun,Result.andThen]
  exact hK _ _ (h v' w' r1 r2 r3)
theorem own_row{β:Type}(base:Nat)(e:TypeId)(size n:Nat)(v:Value)(xs:List Value):Own (fun (_:β) W=>W.ownsRow base e size v n xs):=fun s X Y row h hg hr=>
 own_stays h (fun k hk=>hg.block k (own_lt h k hk) (fun e'=>by
  obtain⟨o,ho,hc⟩:=hr k e'.symm
  rcases h.2 with ⟨h1,_⟩|⟨g,cap,cur,h1,_,hB,_⟩
  ·rw[h1]at hk;cases hk
  ·rw[h1]at hk
   injection hk with hk
   subst hk
   rw[hB]at ho
   cases ho
   cases hc))
end Go.Proofs.YtjlfehpockfkdaaGreat
namespace Go.Proofs.YtjlfehpockfkdaaGreat
open Go.RowKit Fb
def Vd.zonesOk(v:Vw):Bool:=Tr.fmd v.z&&v.z.all (fun z=>decide (Ve.stand (Ve.cnt z.2.2) (Ve.cnt v.k)=1))
set_option maxRecDepth 100000 in
set_option maxHeartbeats 3200000 in
theorem vdzones_any(q:Vl)(w:World)(h:VwAt w q):Calls Tryz.prog 50 #[.agg (vwCells q)] w (Says (.bool (Vd.zonesOk q.vw)) w):=by
 obtain⟨K,ck,kn,Z,cz,zs,H,ch,hs,B,cb,bs,room⟩:=q
 have hZO:Vd.zonesOk (Vl.vw ⟨K,ck,kn,Z,cz,zs,H,ch,hs,B,cb,bs,room⟩)=(Tr.fmd (zs.map Zc.zn)&&(zs.map Zc.zn).all (fun z=>decide (Ve.stand (Ve.cnt z.2.2) (Ve.cnt kn)=1))):=rfl
 rw[hZO]
 clear hZO
 have hlen:=h.z.len
 dsimp only at hlen
 unfold vwCells
 dsimp only
 have b0:=below_new (Below.refl w.heap.size w) (.cells #[.slice K kn.length ck,.slice Z zs.length cz,.slice H hs.length ch,.slice B bs.length cb,.int .i64 room] 27)
 have V0:=Blk.new w 27 #[.slice K kn.length ck,.slice Z zs.length cz,.slice H hs.length ch,.slice B bs.length cb,.int .i64 room]
 obtain⟨W,hW⟩:∃W,w.alloc (.cells #[.slice K kn.length ck,.slice Z zs.length cz,.slice H hs.length ch,.slice B bs.length cb,.int .i64 room] 27)=W:=⟨_,rfl⟩
 rw[hW]at b0 V0
 have HW:=Hd hW
 have N1:=Hd (tformed_any Z cz zs W (h.later b0).z)
 have HZ:=Hd (show OneZ w Z cz zs from h.z)
 have HK:=Hd (show OneL w K ck kn from h.k)
 have HB:=Hd b0
 have HV:=Hd V0
 have v1:=V0.cell (i:=1) rfl
 clear h b0 V0 hW
 cases hf:Tr.fmd (zs.map Zc.zn) with
 |false=>
  rw[hf]at N1
  rw[Bool.false_and]
  clear hf
  go_enter Tryz.func50,Tryz.ntmps50
  go_upto_region 1 with (fail)
  rw[HW.out]
  clear HW
  go_wp2_with fail
  refine N1.out.mono ?_
  rintro e w1 ⟨rfl,b1⟩
  have BB:=Hd (below_on HB.out b1)
  clear b1 N1 v1 HZ HK HV
  go_wp2
  go_ret
  exact⟨rfl,BB.out⟩
 |true=>
  rw[hf]at N1
  rw[Bool.true_and]
  clear hf
  obtain⟨ok,hok⟩:∃ok,(zs.map Zc.zn).all (fun z=>decide (Ve.stand (Ve.cnt z.2.2) (Ve.cnt kn)=1))=ok:=⟨_,rfl⟩
  rw[hok]
  have HOK:=Hd hok
  clear hok
  go_enter Tryz.func50,Tryz.ntmps50
  go_upto_region 1 with (fail)
  rw[HW.out]
  clear HW
  go_wp2_with fail
  refine N1.out.mono ?_
  rintro e w1 ⟨rfl,b1⟩
  have BB:=Hd (below_on HB.out b1)
  have HV1:=Hd (HV.out.later b1)
  have y1:=HV1.out.cell (i:=1) rfl
  clear b1 N1 v1 HV
  go_wp2_with fail
  go_loopw [12] (fun s12 wr=>∃(k:Nat),k≤zs.length∧s12 = .int .i64 (k:Int)∧(∀(u:Nat) (x:Zc),u<k→zs[u]?=some x→Ve.stand (Ve.cnt x.l) (Ve.cnt kn)=1)∧Below w1.heap.size w1 wr) (fun s12 _=>zs.length-(intOf s12).toNat)
  case atStart=>exact⟨0,Nat.zero_le _,rfl,fun u _ hu=>by omega,Below.refl _ _⟩
  case round=>
   obtain⟨k,hk,rfl,hno,hbw⟩:=hrel
   have HNO:=Hd hno
   clear hno
   by_cases hlt:k<zs.length
   ·have hne:zs≠[]:=fun e=>by subst e;simp at hlt
    have hbb:=below_on BB.out hbw
    have hz:=HZ.out.later hbb
    obtain⟨b,off,hA,hc⟩:=hz.at hne
    obtain⟨x,hx⟩:∃x,zs[k]?=some x:=⟨zs[k],List.getElem?_eq_getElem hlt⟩
    obtain⟨e0,e1,e2⟩:=hc k x hx
    have hxl:=hz.each x (List.mem_of_getElem? hx)
    have hi0:(0:Int)≤(k:Int):=by omega
    have hi1:(k:Int)<(zs.length:Int):=by omega
    have HXX:=Hd hx
    have hbad:Ve.stand (Ve.cnt x.l) (Ve.cnt kn)≠1→ok=false:=fun hn=>by
     rw[←HOK.out]
     exact Vw.all_at k x.zn (by rw[List.getElem?_map,hx];rfl) (decide_eq_false hn)
    have hnext:Ve.stand (Ve.cnt x.l) (Ve.cnt kn)=1→∀(u:Nat) (y:Zc),u<k+1→zs[u]?=some y→Ve.stand (Ve.cnt y.l) (Ve.cnt kn)=1:=fun hn u y hu hy=>by
     by_cases e:u=k
     ·subst e
      rw[hx]at hy
      injection hy with hy
      rw[←hy]
      exact hn
     ·exact HNO.out u y (by omega) hy
    obtain⟨lo,hi,X,cx,l⟩:=x
    dsimp only at e0 e1 e2 hxl hbad hnext
    have bx:=below_new (Below.refl wr.heap.size wr) (.cells #[.int .i64 lo,.int .i64 hi,.slice X l.length cx] 99)
    have hX:=Blk.new wr 99 #[.int .i64 lo,.int .i64 hi,.slice X l.length cx]
    have hV:=(HV1.out.later hbw).later bx
    obtain⟨W1,hW1⟩:∃W1,wr.alloc (.cells #[.int .i64 lo,.int .i64 hi,.slice X l.length cx] 99)=W1:=⟨_,rfl⟩
    rw[hW1]at bx hX hV
    have N2:=Hd (vcompare_any X K cx ck l kn W1 (hxl.later bx) ((HK.out.later hbb).later bx))
    obtain⟨s,hs'⟩:∃s,Ve.stand (Ve.cnt l) (Ve.cnt kn)=s:=⟨_,rfl⟩
    rw[hs']at N2 hbad hnext
    have HBAD:=Hd hbad
    have HNX:=Hd hnext
    have BW:=Hd (below_on hbw bx)
    have HW1:=Hd hW1
    subst hA
    have p2:=hX.cell (i:=2) rfl
    have q0:=hV.cell (i:=0) rfl
    clear hc hz hx hbb hxl hbad hnext bx hX hV hW1 hs' hbw hne
    go_upto_region 6 with (fail)
    rw[HW1.out]
    clear HW1 e0 e1 e2 y1
    go_wp2_with fail
    refine N2.out.mono ?_
    rintro e w3 ⟨rfl,b3⟩
    have BW3:=Hd (below_on BW.out b3)
    have y1:=(HV1.out.later BW3.out).cell (i:=1) rfl
    clear b3 N2 p2 q0 BW
    by_cases hs1:s=1
    ·have d0:(s == 1)=true:=beq_iff_eq.2 hs1
     have d1:decide (s=1)=true:=decide_eq_true hs1
     have NX:=Hd (HNX.out hs1)
     clear HNX HBAD hs1
     go_wp2_with fail
     go_roundw
     case rel=>exact⟨k+1,by omega,by first|rfl|go_num,NX.out,BW3.out⟩
     case measure=>simp[intOf];omega
    ·have d0:(s == 1)=false:=beq_eq_false_iff_ne.2 hs1
     have d1:decide (s=1)=false:=decide_eq_false hs1
     have hr:=HBAD.out hs1
     subst hr
     have FIN:=Hd (below_on BB.out BW3.out)
     clear HNX HBAD hs1 HNO HOK BW3
     go_wp2
     go_ret
     exact⟨rfl,FIN.out⟩
   ·obtain rfl:k=zs.length:=by omega
    have hr:ok=true:=by
     rw[←HOK.out]
     refine Vw.all_to _ _ fun j x hx =>?_
     rw[List.getElem?_map]at hx
     cases hz:zs[j]? with
     |none=>rw[hz]at hx;cases hx
     |some z=>
      rw[hz]at hx
      injection hx with hx
      subst hx
      exact decide_eq_true (HNO.out j z (List.getElem?_eq_some_iff.1 hz).1 hz)
    subst hr
    have FIN:=Hd (below_on BB.out hbw)
    clear HNO HOK hbw
    go_wp2
    go_ret
    exact⟨rfl,FIN.out⟩
end Go.Proofs.YtjlfehpockfkdaaGreat
namespace Go.Proofs.YtjlfehpockfkdaaGreat
open Go.RowKit
def GivesW(l:List Wr)(w:World)(e:Ending)(w':World):Prop:=
 ∃v,e = .returned v∧w'.ownsRow w.heap.size 52 4 v l.length (Nt.wrCells l)∧Below w.heap.size w w'
def AnsW(l:List Wr)(w:World)(e:Ending)(w':World):Prop:=∃A c,e = .returned (.slice A l.length c)∧OneW w' A c l∧Below w.heap.size w w'
set_option maxHeartbeats 1600000 in
theorem cloneW_any(A:Option Addr)(c:Nat)(l:List Wr)(w:World)(hl:l.length*32≤140737488355328)(h:OneW w A c l) :
  Calls Tryz.prog 79 #[.slice A l.length c] w (GivesW l w):=by
 obtain⟨i0,hI,hz0,hz1,hz2⟩:=info_parts infoWr
 cases A with
 |none=>
  obtain⟨h1,h2⟩:=h.2.2.1 rfl
  have hl0:l=[]:=List.eq_nil_of_length_eq_zero h1
  subst hl0
  subst h2
  clear h
  have hq:=Lib.run_eql_slice_nil (P:=Tryz.prog) w 24 52 none 0 0 0 0 Tryz.underlying24
  go_enter Tryz.func79,Tryz.ntmps79
  go_wp2
  go_ret
  exact⟨_,rfl,⟨rfl,.inl ⟨rfl,rfl⟩⟩,Below.refl _ _⟩
 |some a=>
  have hq:=Lib.run_eql_slice_nil (P:=Tryz.prog) w 24 52 (some a) l.length c 0 0 Tryz.underlying24
  have HL:=Hd (h.2.2.2.alloc (.cells #[] 52))
  have HB:=Hd (Blk.new w 52 #[])
  have b0:=below_new (Below.refl w.heap.size w) (.cells #[] 52)
  have hlen:=h.len
  clear h
  go_enter Tryz.func79,Tryz.ntmps79
  go_wp2_with (at_builtin;refine wpList_append_fresh _ rfl _ _ 24 rfl w.heap.size w.heap.size 52 i0 (.agg #[.int .i64 0,.int .i64 0,.int .i64 0,.bool false]) 4 32 Tryz.underlying24 hI hz0 hz1 hz2 rfl (by decide) rfl HB.out (Nat.le_refl _) (some a) l.length c (fun h=>by cases h) (Nt.wrCells l) rfl (Nt.wrCells_length l) HL.out (Nt.wrCells_one l) (by unfold maxLen;omega) hl ?_)
  intro v' w' ho hb
  have HO:=Hd ho
  clear ho
  go_wp2
  go_ret
  exact⟨v',rfl,HO.out,below_on b0 (by rw[show(w.alloc (.cells #[] 52)).heap.size=w.heap.size+1 from by simp];exact hb)⟩
end Go.Proofs.YtjlfehpockfkdaaGreat
namespace Go.Proofs.YtjlfehpockfkdaaGreat
open Go.RowKit Go.Shelf
theorem SeqStopsK.keeps{α:Type}{F:Fence}{n:Nat}{P:Program}{g:Nat}{lb:Array Value}{encs:α→Array Value}{Kp Kp':World→World→Prop}{S Sp:List α→Prop}{N:Nat}{w:World}
  (h:SeqStopsK F n P g lb encs Kp S Sp N w)(hK:∀W W',Kp' W W'→Kp W W'):SeqStopsK F n P g lb encs Kp' S Sp N w:=
 fun l J Jx W hW hJ hJx hY h0=>h l J Jx W hW hJ hJx (fun pre x W1 hj hl=>(hY pre x W1 hj hl).mono fun _ _ he=>he.elim (fun q =>.inl ⟨q.1,q.2.1,hK _ _ q.2.2⟩) .inr) h0
theorem KeepC.far{n B:Nat}{A:Option Addr}{c:Nat}{l:List Wr}(hA:∀b off,l≠[]→A=some ⟨b,off,none⟩→B≤b){W W':World}(h:KeepC n B W W'):KeepL A c l W W':=fun h1=>
 ⟨h1.1,h1.2.1,h1.2.2.1,fun hne=>by
  obtain⟨b,off,e,hc⟩:=h1.2.2.2 hne
  exact⟨b,off,e,fun j u hu=>h.cell (hc j u hu) (.inr (hA b off (fun e=>hne (Nt.wrCells_nil.2 e)) e))⟩⟩
attribute [local go_sem] Oper.semAt_some
namespace Sf
def dput(f:Nat→Wr)(x:Wr):Nat→Wr:=if 0<St.cmpS x.1 x.2.1 (f x.2.2.1.toNat).1 (f x.2.2.1.toNat).2.1 then (fun i=>if i=x.2.2.1.toNat then x else f i) else f
def dputs(f:Nat→Wr)(l:List Wr):Nat→Wr:=l.foldl dput f
theorem dputs_snoc(f:Nat→Wr)(l:List Wr)(x:Wr):dputs f (l++[x])=dput (dputs f l) x:=by unfold dputs;rw[List.foldl_append];rfl
abbrev RW:={ x:Wr // right x=true }
theorem rights:∀(l:List Wr),(∀x∈l,right x=true)→∃xs:List RW,xs.map Subtype.val=l
 | [],_=>⟨[],rfl⟩
 |x::r,h=>by
  obtain⟨xs,hx⟩:=rights r fun y hy=>h y (List.mem_cons_of_mem _ hy)
  exact⟨⟨x,h x List.mem_cons_self⟩::xs,by rw[List.map_cons,hx]⟩
end Sf
set_option maxRecDepth 100000 in
set_option maxHeartbeats 6400000 in
theorem sdput_any(w0:World)(p:Nat)(f:Nat→Wr)(A:Option Addr)(c:Nat)(l:List Wr)(w:World)(hle:w0.heap.size≤p)(hb:Below w0.heap.size w0 w)(hL:OneW w0 A c l)(hr:∀x∈l,Sf.right x=true)(hP:Blk w p 169 (Sf.arr f)) :
  Calls Tryz.prog 131 #[.pointer (some ⟨p,0,none⟩),.slice A l.length c] w fun e w'=>(∃v,e = .returned v)∧Blk w' p 169 (Sf.arr (Sf.dputs f l))∧Below w0.heap.size w0 w':=by
 have HL:=Hd hL
 have hpl:=hP.lt
 have hz0:=hb.size
 have b0:=below_new hb (.cells #[.pointer (some ⟨p,0,none⟩)] 197)
 have P0:=hP.alloc (.cells #[.pointer (some ⟨p,0,none⟩)] 197)
 have Q0:=Blk.new w 197 #[.pointer (some ⟨p,0,none⟩)]
 obtain⟨W,hW⟩:∃W,w.alloc (.cells #[.pointer (some ⟨p,0,none⟩)] 197)=W:=⟨_,rfl⟩
 rw[hW]at b0 P0 Q0
 have HW:=Hd hW
 obtain⟨xs,hxs⟩:=Sf.rights l hr
 clear hL hW hr hP hb
 refine(callsIn_wide (n:=3)).1 ?_
 refine callsIn_of_wp_marks Tryz.func131 rfl trivial ?_ rfl
 simp only[Tryz.ntmps131,List.size_toArray,List.length_cons,List.length_nil,Nat.reduceAdd,Nat.reduceSub,Array.replicate_succ,Array.replicate_zero,List.push_toArray,List.append_toArray,List.nil_append,List.cons_append]
 gi_wp2_with fail
 rw[HW.out]
 refine⟨trivial,(callsIn_wide.2 (each_any A c l W)).mono ?_⟩
 rintro e w1 ⟨bl,rfl,hbl,b1⟩
 have bb1:=below_on b0 b1
 have P1:=P0.later b1
 have Q1:=Q0.later b1
 have hlt1:=Q1.lt
 have hz1:=bb1.size
 have SEQ:=eachW_stops Subtype.val xs l hxs 2 (by omega) bl c A w1 (HL.out.later bb1) hbl
 have HXS:=Hd hxs
 clear b0 P0 Q0 b1 HW hbl hxs
 gi_wp2_with fail
 refine wpIn_rangeFunc_ownH rfl (by omega) (gf:=171) (lb:=#[.pointer (some ⟨bl,0,none⟩)]) rfl trivial enters_eachW SEQ KeepL.trans (fun W l' o o' _ h1 h2 _=>KeepL.put W l' o o' h1 h2) (Below.refl _ _) (fun _=>rfl)
  (fun pre W=>(Blk W w.heap.size 197 #[.pointer (some ⟨p,0,none⟩)]∧Blk W p 169 (Sf.arr (Sf.dputs f (pre.map Subtype.val))))∧Below w0.heap.size w0 W)
  (fun _ _ _=>False)
  ?hI (fun _ _ _ _ _ h _ _=>h) ⟨⟨Q1,P1⟩,bb1⟩
  (fun x a' W=>∃Bx,Blk W Bx 52 (Nt.wrArr x.val)∧a'={ tmps:=#[.pointer (some ⟨p,0,none⟩),.slice A l.length c,.pointer (some ⟨w.heap.size,0,none⟩),undef,.int .i64 x.val.2.2.1,.pointer (some ⟨Bx,0,none⟩),.slice A l.length c,.func (.func 171) #[] #[.pointer (some ⟨bl,0,none⟩)],.int .i64 x.val.2.2.1,Nt.wrV x.val,undef,undef,undef,undef,undef,undef,undef,undef,undef,undef,undef,undef,undef,undef,undef],defers:=[] })
  ?hAx ?assign ?body ?done (fun _ _ _ _ _ _ h _=>h.elim)
 case hI=>exact OwnFrom.and (OwnFrom.and (Own.from (blk_own _ _ fun _=>#[.pointer (some ⟨p,0,none⟩)]) _) (Own.from (blk_own _ _ fun (pre:List Sf.RW)=>Sf.arr (Sf.dputs f (pre.map Subtype.val))) _)) (ownFrom_below (Nat.le_refl _) hz1)
 case hAx=>exact fun x a' _ X Y row ⟨Bx,h1,h2⟩ hg hr=>⟨Bx,blk_own _ _ (fun (_:Unit)=>Nt.wrArr x.val) () X Y row h1 hg (fun r e=>(hr r e).2),h2⟩
 case assign=>
  rintro l' pre ⟨x,hx⟩ W K ⟨⟨i0,i1⟩,i2⟩ hK
  obtain⟨x0,x1,x2,x3⟩:=x
  unfold toldW Nt.wrV
  unfold Nt.wrV Nt.wrArr at hK
  dsimp only at hK ⊢
  have bN:=below_new (Below.refl W.heap.size W) (.cells #[.int .i64 x0,.int .i64 x1,.int .i64 x2,.bool x3] 52)
  have HK:=Hd hK
  have F1:=Hd (i1.later bN)
  have F2:=Hd (below_on i2 bN)
  have F3:=Hd (Blk.new W 52 #[.int .i64 x0,.int .i64 x1,.int .i64 x2,.bool x3])
  have F4:=Hd (i0.later bN)
  have F5:=Hd bN
  clear hK i0 i1 i2 bN SEQ P1 Q1
  gi_wp2
  exact HK.out _ _ (keepsF_below F5.out) (fun h=>h.later F5.out) ⟨⟨F4.out,F1.out⟩,F2.out⟩ ⟨_,F3.out,rfl⟩
 case body=>
  rintro l' pre ⟨x,hx⟩ a' W hl _ ⟨⟨i0,i1⟩,i2⟩ ⟨Bx,hX,rfl⟩ hlt
  have hsn:Sf.dputs f ((pre++[(⟨x,hx⟩:Sf.RW)]).map Subtype.val)=Sf.dput (Sf.dputs f (pre.map Subtype.val)) x:=by rw[List.map_append];exact Sf.dputs_snoc _ _ _
  have hob:=(Sf.right_iff x).1 hx
  obtain⟨F,hF⟩:∃F,Sf.dputs f (pre.map Subtype.val)=F:=⟨_,rfl⟩
  rw[hF]at i1 hsn
  have hdp:Sf.dput F x=if 0<St.cmpS x.1 x.2.1 (F x.2.2.1.toNat).1 (F x.2.2.1.toNat).2.1 then (fun i=>if i=x.2.2.1.toNat then x else F i) else F:=rfl
  rw[hdp]at hsn
  have hpx:p≠Bx:=fun e=>by
   have h1:W.heap[p]?=_:=i1
   have h2:W.heap[Bx]?=_:=hX
   rw[e,h2]at h1
   injection h1 with h1
   injection h1 with _ h4
   exact absurd h4 (by decide)
  obtain⟨x0,x1,x2,x3⟩:=x
  dsimp only at hX hob hsn ⊢
  unfold Nt.wrArr at hX
  unfold Nt.wrV
  dsimp only at hX ⊢
  obtain⟨o,rfl⟩:∃o:Nat,x2=(o:Int):=⟨x2.toNat,by omega⟩
  rw[Int.toNat_natCast]at hsn
  have ho:o<256:=by omega
  have ho0:(0:Int)≤(o:Int):=by omega
  have ho1:(o:Int)<256:=by omega
  have hFo:∃y,F o=y:=⟨_,rfl⟩
  obtain⟨⟨y0,y1,y2,y3⟩,hy⟩:=hFo
  rw[hy]at hsn
  dsimp only at hsn
  have HSN:=Hd hsn
  have HX:=Hd hX
  have HQ:=Hd i0
  have HP:=Hd i1
  have HB:=Hd i2
  have HY:=Hd hy
  have hne:p≠Bx:=hpx
  clear hX i0 i1 i2 hsn hy hdp hF hob SEQ P1 Q1 hl bb1
  gi_wp2_with fail
  refine wpIn_region_facts 8 (by kernel_rfl) (by kernel_rfl) (by kernel_rfl) ?letsoutR
   (fun v=>{ tmps:=#[.pointer (some ⟨p,0,none⟩),.slice A l.length c,.pointer (some ⟨w.heap.size,0,none⟩),undef,.int .i64 (o:Int),.pointer (some ⟨Bx,0,none⟩),.slice A l.length c,.func (.func 171) #[] #[.pointer (some ⟨bl,0,none⟩)],.int .i64 (o:Int),.agg #[.int .i64 x0,.int .i64 x1,.int .i64 (o:Int),.bool x3],v 0,v 1,v 2,v 3,v 4,v 5,v 6,v 7,undef,undef,undef,undef,undef,undef,undef],defers:=[] }) (fun _=>undef)
   (fun i x _=>match i with
    |0=>x = .pointer (some ⟨Bx,0,none⟩)
    |1=>x = .agg #[.int .i64 x0,.int .i64 x1]
    |2=>x = .pointer (some ⟨p,0,none⟩)
    |3=>x = .int .i64 (o:Int)
    |4=>x = .pointer (some ⟨p,0,none⟩)
    |5=>x = .pointer (some ⟨p,o*4,none⟩)
    |6=>x = .pointer (some ⟨p,o*4,none⟩)
    |7=>x = .agg #[.int .i64 y0,.int .i64 y1]
    |_=>True)
   (fun w1 w2=>Below w1.heap.size w1 w2) (fun h1 h2=>below_on h1 h2) (fun _=>Below.refl _ _) (Below.drew (Below.refl _ _)) ?stabR ?stepR ?doneR
  case letsoutR=>exact fun⟨_,_,h⟩=>h
  case stabR=>
   rintro i x w1 w2 h hb
   exact h
  case stepR=>
   intro i hi v w' hb hd
   match i,hi with
   |0,_=>
    refine wpOp_oneH rfl fun KK HKK =>?_
    clear hd
    go_wp2
    exact HKK.out _ _ ⟨_,(by simp[upd];done),Below.refl _ _,rfl⟩
   |1,_=>
    have h0:v 0=_:=hdx hd 0 (by kernel_rfl)
    refine wpOp_oneH rfl fun KK HKK =>?_
    clear hd
    rw[h0]
    have q0:=cell_later hb (HX.out.cell (i:=0) rfl)
    have q1:=cell_later hb (HX.out.cell (i:=1) rfl)
    go_wp2
    exact HKK.out _ _ ⟨_,(by simp[upd,h0];done),Below.refl _ _,rfl⟩
   |2,_=>
    refine wpOp_oneH rfl fun KK HKK =>?_
    clear hd
    have q0:=cell_later hb (HQ.out.cell (i:=0) rfl)
    go_wp2
    exact HKK.out _ _ ⟨_,(by simp[upd];done),Below.refl _ _,rfl⟩
   |3,_=>
    refine wpOp_oneH rfl fun KK HKK =>?_
    clear hd
    go_wp2
    exact HKK.out _ _ ⟨_,(by simp[upd];done),Below.refl _ _,rfl⟩
   |4,_=>
    have h2:v 2=_:=hdx hd 2 (by kernel_rfl)
    refine wpOp_oneH rfl fun KK HKK =>?_
    clear hd
    rw[h2]
    go_wp2
    exact HKK.out _ _ ⟨_,(by simp[upd,h2];done),Below.refl _ _,rfl⟩
   |5,_=>
    have h3:v 3=_:=hdx hd 3 (by kernel_rfl)
    have h4:v 4=_:=hdx hd 4 (by kernel_rfl)
    refine wpOp_oneH rfl fun KK HKK =>?_
    clear hd
    rw[h3,h4]
    go_wp2
    exact HKK.out _ _ ⟨_,(by simp[upd,h3,h4];done),Below.refl _ _,rfl⟩
   |6,_=>
    have h5:v 5=_:=hdx hd 5 (by kernel_rfl)
    refine wpOp_oneH rfl fun KK HKK =>?_
    clear hd
    rw[h5]
    go_wp2
    exact HKK.out _ _ ⟨_,(by simp[upd,h5];done),Below.refl _ _,rfl⟩
   |7,_=>
    have h6:v 6=_:=hdx hd 6 (by kernel_rfl)
    refine wpOp_oneH rfl fun KK HKK =>?_
    clear hd
    rw[h6]
    obtain⟨r0,r1,-,-⟩:=HP.out.wrs_cells o ho
    rw[HY.out]at r0 r1
    replace r0:=cell_later hb r0
    replace r1:=cell_later hb r1
    dsimp only at r0 r1
    go_wp2
    exact HKK.out _ _ ⟨_,(by simp[upd,h6];done),Below.refl _ _,rfl⟩
   |k+8,hk=>exact absurd hk (by omega)
  case doneR=>
   intro v w5 hb hf
   have h0:v 0=_:=hf 0 (by decide)
   have h1:v 1=_:=hf 1 (by decide)
   have h2:v 2=_:=hf 2 (by decide)
   have h3:v 3=_:=hf 3 (by decide)
   have h4:v 4=_:=hf 4 (by decide)
   have h5:v 5=_:=hf 5 (by decide)
   have h6:v 6=_:=hf 6 (by decide)
   have h7:v 7=_:=hf 7 (by decide)
   clear hf
   rw[h0,h1,h2,h3,h4,h5,h6,h7]
   clear h0 h1 h2 h3 h4 h5 h6 h7
   have NC:=Hd (compare_any x0 x1 y0 y1 w5)
   have BW:=Hd hb
   clear hb
   obtain⟨cm,hcm⟩:∃cm,St.cmpS x0 x1 y0 y1=cm:=⟨_,rfl⟩
   rw[hcm]at NC HSN
   clear hcm
   go_wp2_with fail
   refine NC.out.mono ?_
   rintro e w6 ⟨rfl,b6⟩
   have b7:=below_on BW.out b6
   have X6:=HX.out.later b7
   have Q6:=HQ.out.later b7
   have P6:=HP.out.later b7
   have bb6:=below_on HB.out b7
   by_cases hc:0<cm
   ·have hd:decide (0<cm)=true:=decide_eq_true hc
    have hsn:=HSN.out
    rw[if_pos hc]at hsn
    have H2:=Hd hsn
    have X6':=Hd X6
    have Q6':=Hd Q6
    have P6':=Hd P6
    have BB6:=Hd bb6
    have B7:=Hd b7
    clear hsn HSN X6 Q6 P6 bb6 b7 b6 NC BW
    go_wp2_with fail
    gi_wp2_with fail
    refine wpIn_region_facts 5 (by kernel_rfl) (by kernel_rfl) (by kernel_rfl) ?letsoutS
     (fun v=>{ tmps:=#[.pointer (some ⟨p,0,none⟩),.slice A l.length c,.pointer (some ⟨w.heap.size,0,none⟩),undef,.int .i64 (o:Int),.pointer (some ⟨Bx,0,none⟩),.slice A l.length c,.func (.func 171) #[] #[.pointer (some ⟨bl,0,none⟩)],.int .i64 (o:Int),.agg #[.int .i64 x0,.int .i64 x1,.int .i64 (o:Int),.bool x3],.pointer (some ⟨Bx,0,none⟩),.agg #[.int .i64 x0,.int .i64 x1],.pointer (some ⟨p,0,none⟩),.int .i64 (o:Int),.pointer (some ⟨p,0,none⟩),.pointer (some ⟨p,o*4,none⟩),.pointer (some ⟨p,o*4,none⟩),.agg #[.int .i64 y0,.int .i64 y1],.int .i64 cm,.bool true,v 0,v 1,v 2,v 3,v 4],defers:=[] }) (fun _=>undef)
     (fun i x _=>match i with
      |0=>x = .pointer (some ⟨p,0,none⟩)
      |1=>x = .int .i64 (o:Int)
      |2=>x = .agg #[.int .i64 x0,.int .i64 x1,.int .i64 (o:Int),.bool x3]
      |3=>x = .pointer (some ⟨p,0,none⟩)
      |4=>x = .pointer (some ⟨p,o*4,none⟩)
      |_=>True)
     (fun w1 w2=>Below w1.heap.size w1 w2) (fun h1 h2=>below_on h1 h2) (fun _=>Below.refl _ _) (Below.drew (Below.refl _ _)) ?stabS ?stepS ?doneS
    case letsoutS=>exact fun⟨_,_,h⟩=>h
    case stabS=>
     rintro i x w1 w2 h hb
     exact h
    case stepS=>
     intro i hi v w' hb hd
     match i,hi with
     |0,_=>
      refine wpOp_oneH rfl fun KK HKK =>?_
      clear hd
      have q0:=cell_later hb (Q6'.out.cell (i:=0) rfl)
      go_wp2
      exact HKK.out _ _ ⟨_,(by simp[upd];done),Below.refl _ _,rfl⟩
     |1,_=>
      refine wpOp_oneH rfl fun KK HKK =>?_
      clear hd
      go_wp2
      exact HKK.out _ _ ⟨_,(by simp[upd];done),Below.refl _ _,rfl⟩
     |2,_=>
      refine wpOp_oneH rfl fun KK HKK =>?_
      clear hd
      have q0:=cell_later hb (X6'.out.cell (i:=0) rfl)
      have q1:=cell_later hb (X6'.out.cell (i:=1) rfl)
      have q2:=cell_later hb (X6'.out.cell (i:=2) rfl)
      have q3:=cell_later hb (X6'.out.cell (i:=3) rfl)
      go_wp2
      exact HKK.out _ _ ⟨_,(by simp[upd];done),Below.refl _ _,rfl⟩
     |3,_=>
      have h0:v 0=_:=hdx hd 0 (by kernel_rfl)
      refine wpOp_oneH rfl fun KK HKK =>?_
      clear hd
      rw[h0]
      go_wp2
      exact HKK.out _ _ ⟨_,(by simp[upd,h0];done),Below.refl _ _,rfl⟩
     |4,_=>
      have h1:v 1=_:=hdx hd 1 (by kernel_rfl)
      have h3:v 3=_:=hdx hd 3 (by kernel_rfl)
      refine wpOp_oneH rfl fun KK HKK =>?_
      clear hd
      rw[h1,h3]
      go_wp2
      exact HKK.out _ _ ⟨_,(by simp[upd,h1,h3];done),Below.refl _ _,rfl⟩
     |k+5,hk=>exact absurd hk (by omega)
    case doneS=>
     intro v w8 hb hf
     have h0:v 0=_:=hf 0 (by decide)
     have h1:v 1=_:=hf 1 (by decide)
     have h2:v 2=_:=hf 2 (by decide)
     have h3:v 3=_:=hf 3 (by decide)
     have h4:v 4=_:=hf 4 (by decide)
     clear hf
     rw[h0,h1,h2,h3,h4]
     clear h0 h1 h2 h3 h4
     have P8:=P6'.out.later hb
     have hb8:=below_on B7.out hb
     have bb8:=below_on BB6.out hb
     have Q8:=Q6'.out.later hb
     obtain⟨m0,m1,m2,m3⟩:=P8.wrs_cells o ho
     have f0:=P8.free (o*4)
     have f1:=P8.free (o*4+1)
     have f2:=P8.free (o*4+2)
     have f3:=P8.free (o*4+3)
     have P9:=P8.wrs_put o ho (x0,x1,(o:Int),x3)
     have hqp:w.heap.size≠p:=by omega
     have Q9:=(((Q8.far (p:=⟨p,o*4,none⟩) hqp (.int .i64 x0)).far (p:=⟨p,o*4+1,none⟩) hqp (.int .i64 x1)).far (p:=⟨p,o*4+2,none⟩) hqp (.int .i64 (o:Int))).far (p:=⟨p,o*4+3,none⟩) hqp (.bool x3)
     have B9:=(((bb8.setCell (p:=⟨p,o*4,none⟩) hle (.int .i64 x0)).setCell (p:=⟨p,o*4+1,none⟩) hle (.int .i64 x1)).setCell (p:=⟨p,o*4+2,none⟩) hle (.int .i64 (o:Int))).setCell (p:=⟨p,o*4+3,none⟩) hle (.bool x3)
     have K9:=(((KeepsOthers.setCell w8 ⟨p,o*4,none⟩ (.int .i64 x0)).trans (KeepsOthers.setCell _ ⟨p,o*4+1,none⟩ (.int .i64 x1))).trans (KeepsOthers.setCell _ ⟨p,o*4+2,none⟩ (.int .i64 (o:Int)))).trans (KeepsOthers.setCell _ ⟨p,o*4+3,none⟩ (.bool x3))
     rw[←H2.out]at P9
     have FIN:=Hd (And.intro (KeepsFrom.trans (keepsF_below hb8) (K9.from w1.heap.size)) (And.intro (show KeepL A c l W _ from fun _=>HL.out.later B9) (And.intro (And.intro Q9 P9) B9)))
     clear P8 hb8 bb8 Q8 P9 Q9 B9 K9 hb H2 X6' Q6' P6' BB6 B7 HX HQ HP HB
     go_wp2_with fail
     gi_wp2
     exact FIN.out
   ·have hd:decide (0<cm)=false:=decide_eq_false hc
    have hsn:=HSN.out
    rw[if_neg hc]at hsn
    rw[←hsn]at P6
    have FIN:=Hd (And.intro (keepsF_below (n0:=w1.heap.size) b7) (And.intro (show KeepL A c l W w6 from fun h=>h.later b7) (And.intro (And.intro Q6 P6) bb6)))
    clear hsn HSN X6 Q6 P6 bb6 b7 b6 NC BW HX HQ HP HB
    go_wp2_with fail
    gi_wp2
    exact FIN.out
 case done=>
  rintro DD ys W hDD hys ⟨⟨i0,i1⟩,i2⟩ hK
  subst hys
  rw[HXS.out]at i1
  have PP:=Hd i1
  have I2:=Hd i2
  clear SEQ i0 i1 i2 P1 Q1
  gi_wp2
  refine⟨by simp,.inl ⟨_,_,rfl,run_takeDeferred hK,?_⟩⟩
  have QP:=blk_own _ _ (fun (_:Unit)=>Sf.arr (Sf.dputs f l)) () _ _ (some DD) PP.out (grownBy_putObj' _ DD (.deferred none)) (fun r e=>by cases e;exact⟨_,hK,rfl⟩)
  exact⟨_,results_none rfl _ _ _,⟨_,rfl⟩,QP,I2.out.trans (belowK_b (w:=w0) (Nat.le_refl _) _ DD _ _ (by omega) hK rfl rfl)⟩
end Go.Proofs.YtjlfehpockfkdaaGreat
namespace Go.Proofs.YtjlfehpockfkdaaGreat
open Go.RowKit Go.Shelf Fb
attribute [local go_sem] Oper.semAt_some
set_option maxRecDepth 100000 in
theorem vals_zero:Tryz.zeroCells119=Vd.sArr (fun _=>(0,0)):=by rfl
@[simp] theorem vals_zeroV(w:World):(zeroValue 119).run Tryz.prog w = .ok (.agg Tryz.zeroCells119) w:=by kernel_rfl
@[simp] theorem vals_zero_size:Tryz.zeroCells119.size=512:=by rw[vals_zero,Vd.sArr_size]
@[simp] theorem vals_zero_ne:¬Tryz.zeroCells119=#[]:=fun h=>by have h2:=vals_zero_size;rw[h]at h2;cases h2
theorem infoVals:(Tryz.prog.info? 119).map (·.size)=some 512:=by kernel_rfl
theorem one_sArr(f:Nat→Int × Int):(Vd.sArr f).all (·.oneCell')=true:=by
 have h:∀k,∀u∈Vd.sCells f k,u.oneCell'=true:=fun k=>by
  induction k with
  |zero=>intro u hu;cases hu
  |succ k ih=>
   intro u hu
   simp only[Vd.sCells,List.mem_append,List.mem_cons,List.not_mem_nil,or_false]at hu
   rcases hu with hu|rfl|rfl
   ·exact ih u hu
   ·rfl
   ·rfl
 unfold Vd.sArr
 rw[List.all_toArray,List.all_eq_true]
 exact h 256
theorem Blk.vals_put{w:World}{p:Nat}{t:TypeId}{f:Nat→Int × Int}(h:Blk w p t (Vd.sArr f))(o:Nat)(ho:o<256)(x:Int × Int) :
  Blk ((w.setCell ⟨p,o*2,none⟩ (.int .i64 x.1)).setCell ⟨p,o*2+1,none⟩ (.int .i64 x.2)) p t (Vd.sArr (Vd.sPut f o x)):=by
 rw[←Vd.sArr_put f o x ho]
 exact(h.put (o*2) _).put (o*2+1) _
set_option maxRecDepth 100000 in
set_option maxHeartbeats 3200000 in
theorem sdall_right(A:Option Addr)(c:Nat)(l:List Wr)(w0 w:World)(h:OneW w0 A c l)(hb:Below w0.heap.size w0 w)(hf:Sf.fmd l=true)(xs:List Sf.RW)(hxs:xs.map Subtype.val=l) :
  Calls Tryz.prog 110 #[.slice A l.length c] w fun e w1=>∃gf lb,e = .returned (.func (.func gf) #[] lb)∧Below w.heap.size w w1∧(∀args w,(callFunc gf args).run Tryz.prog w = .ok (.enter gf args) w) ∧
   SeqStopsK Fence.wide 2 Tryz.prog gf lb (fun x:Sf.RW=>toldW x.val) (KeepC w0.heap.size w.heap.size) (· = xs) (· <+: xs) l.length w1:=by
 have N1:=Hd (sdformed_any A c l w (h.later hb))
 have HL:=Hd h
 have HB:=Hd hb
 have fin:∀(A':Option Addr) (c' bl:Nat) (w1:World),OneW w1 A' c' l→(∀b off,l≠[]→A'=some ⟨b,off,none⟩→w.heap.size≤b)→w1.cell? ⟨bl,0,none⟩=some (.slice A' l.length c')→SeqStopsK Fence.wide 2 Tryz.prog 171 #[.pointer (some ⟨bl,0,none⟩)] (fun x:Sf.RW=>toldW x.val) (KeepC w0.heap.size w.heap.size) (· = xs) (· <+: xs) l.length w1:=
  fun A' c' bl w1 h1 h2 h3=>SeqStopsK.keeps (eachW_stops Subtype.val xs l hxs 2 (by omega) bl c' A' w1 h1 h3) fun W W' hk=>KeepC.far h2 hk
 have FIN:=Hd fin
 clear h hb fin hxs
 rw[hf]at N1
 have hl:=Sf.fmd_len hf
 clear hf
 go_enter Tryz.func110,Tryz.ntmps110
 go_wp2_with fail
 refine N1.out.mono ?_
 rintro e w1 ⟨rfl,b1⟩
 have NC:=Hd (cloneW_any A c l w1 (by omega) (HL.out.later (below_on HB.out b1)))
 have B1:=Hd b1
 clear N1 b1
 go_wp2_with fail
 refine NC.out.mono ?_
 rintro e w2 ⟨v,rfl,ho,b2⟩
 have hfar:∀b off c',l≠[]→v = .slice (some ⟨b,off,none⟩) l.length c'→w.heap.size≤b:=fun b off c' hne e=>by
  obtain⟨g,cap,hv⟩:=own_len ho (List.length_pos_iff.2 hne)
  rw[hv]at e
  injection e with e
  injection e with e
  injection e with e
  have:=own_ge ho g (by rw[hv];rfl)
  have:=B1.out.size
  omega
 obtain⟨VA,vc,rfl,hO⟩:=OneW.of_own ho
 have HO:=Hd hO
 have HF:=Hd hfar
 have B2:=Hd (below_on B1.out b2)
 have NE:=Hd (each_any VA vc l w2)
 clear NC ho hO hfar b2 B1
 go_wp2_with fail
 refine NE.out.mono ?_
 rintro e w3 ⟨bl,rfl,hbl,b3⟩
 have BB:=Hd (below_on B2.out b3)
 have HC:=Hd hbl
 have H3:=Hd (HO.out.later b3)
 clear NE b3 hbl HO B2
 go_wp2
 go_ret
 exact⟨_,_,rfl,BB.out,enters_eachW,FIN.out VA vc bl w3 H3.out (fun b off hne e=>HF.out b off vc hne (by rw[e])) HC.out⟩
set_option maxRecDepth 100000 in
set_option maxHeartbeats 6400000 in
theorem vdvalues_any(A:Option Addr)(c:Nat)(l:List Wr)(w:World)(h:OneW w A c l)(hf:Sf.fmd l=true) :
  Calls Tryz.prog 75 #[.slice A l.length c] w (Says (.agg (Vd.sArr (Vd.val l))) w):=by
 obtain⟨xs,hxs⟩:=Sf.rights l ((Sf.fmd_list l).1 hf).1
 have b0:=below_new (below_new (Below.refl w.heap.size w) (.cells Tryz.zeroCells119 119)) (.cells Tryz.zeroCells119 119)
 have R0:=(Blk.new w 119 Tryz.zeroCells119).alloc (.cells Tryz.zeroCells119 119)
 have S0:=Blk.new (w.alloc (.cells Tryz.zeroCells119 119)) 119 Tryz.zeroCells119
 simp only[World.size_alloc]at S0
 obtain⟨W,hW⟩:∃W,(w.alloc (.cells Tryz.zeroCells119 119)).alloc (.cells Tryz.zeroCells119 119)=W:=⟨_,rfl⟩
 have hWz:w.heap.size+2=W.heap.size:=by rw[←hW];simp
 rw[hW]at b0 R0 S0
 have NA:=Hd (sdall_right A c l w W h b0 hf xs hxs)
 have HW:=Hd hW
 have HXS:=Hd hxs
 clear hW h hf hxs
 refine(callsIn_wide (n:=3)).1 ?_
 refine callsIn_of_wp_marks Tryz.func75 rfl trivial ?_ rfl
 simp only[Tryz.ntmps75,List.size_toArray,List.length_cons,List.length_nil,Nat.reduceAdd,Nat.reduceSub,Array.replicate_succ,Array.replicate_zero,List.push_toArray,List.append_toArray,List.nil_append,List.cons_append]
 gi_wp2_with fail
 rw[HW.out]
 refine⟨trivial,(callsIn_wide.2 NA.out).mono ?_⟩
 rintro e w1 ⟨gf,lb,rfl,b1,hent,hseq⟩
 have R1:=R0.later b1
 have S1:=S0.later b1
 rw[vals_zero]at S1
 have bb1:=below_on b0 b1
 have hz1:=b1.size
 have hz0:=bb1.size
 clear b0 R0 S0 b1 HW NA
 gi_wp2_with fail
 refine wpIn_rangeFunc_ownH rfl (by omega) (gf:=gf) (lb:=lb) rfl trivial hent hseq KeepC.trans (fun W l' o o' _ h1 h2 _=>KeepC.mark W l' o o' h1 h2) (Below.refl _ _) (fun _=>rfl)
  (fun pre X=>(Blk X w.heap.size 119 Tryz.zeroCells119∧Blk X (w.heap.size+1) 119 (Vd.sArr (Vd.val (pre.map Subtype.val))))∧(Below w.heap.size w X∧W.heap.size≤X.heap.size))
  (fun _ _ _=>False)
  ?hI (fun _ _ _ _ _ h _ _=>h) ⟨⟨R1,S1⟩,bb1,hz1⟩
  (fun x a' X=>∃Bx,W.heap.size≤Bx∧Blk X Bx 52 (Nt.wrArr x.val)∧a'={ tmps:=#[.slice A l.length c,undef,.pointer (some ⟨w.heap.size,0,none⟩),.pointer (some ⟨w.heap.size+1,0,none⟩),.int .i64 x.val.2.2.1,.pointer (some ⟨Bx,0,none⟩),.slice A l.length c,.func (.func gf) #[] lb,.int .i64 x.val.2.2.1,Nt.wrV x.val,undef,undef,undef,undef,undef,undef,undef,undef],defers:=[] })
  ?hAx ?assign ?body ?done (fun _ _ _ _ _ _ h _=>h.elim)
 case hI=>exact OwnFrom.and (OwnFrom.and (Own.from (blk_own _ _ fun _=>Tryz.zeroCells119) _) (Own.from (blk_own _ _ fun (pre:List Sf.RW)=>Vd.sArr (Vd.val (pre.map Subtype.val))) _)) (OwnFrom.and (ownFrom_below (Nat.le_refl _) (by omega)) (fun _ X Y row hs hg _=>Nat.le_trans hs hg.size))
 case hAx=>exact fun x a' _ X Y row ⟨Bx,h0,h1,h2⟩ hg hr=>⟨Bx,h0,blk_own _ _ (fun (_:Unit)=>Nt.wrArr x.val) () X Y row h1 hg (fun r e=>(hr r e).2),h2⟩
 case assign=>
  rintro l' pre ⟨x,hx⟩ X K ⟨⟨i0,i1⟩,i2,i3⟩ hK
  obtain⟨x0,x1,x2,x3⟩:=x
  unfold toldW Nt.wrV
  unfold Nt.wrV Nt.wrArr at hK
  dsimp only at hK ⊢
  have bN:=below_new (Below.refl X.heap.size X) (.cells #[.int .i64 x0,.int .i64 x1,.int .i64 x2,.bool x3] 52)
  have HK:=Hd hK
  have F0:=Hd (i0.later bN)
  have F1:=Hd (i1.later bN)
  have F2:=Hd (below_on i2 bN)
  have F3:=Hd (Blk.new X 52 #[.int .i64 x0,.int .i64 x1,.int .i64 x2,.bool x3])
  have F4:=Hd i3
  have F5:=Hd bN
  have F6:=Hd (Nat.le_trans i3 bN.size)
  clear hK i0 i1 i2 i3 bN hseq R1 S1
  gi_wp2
  exact HK.out _ _ (keepsF_below F5.out) (KeepC.below F5.out) ⟨⟨F0.out,F1.out⟩,F2.out,F6.out⟩ ⟨_,F4.out,F3.out,rfl⟩
 case body=>
  rintro l' pre ⟨x,hx⟩ a' X hl _ ⟨⟨i0,i1⟩,i2,i3⟩ ⟨Bx,hBx,hX,rfl⟩ hlt
  have hsn:Vd.val ((pre++[(⟨x,hx⟩:Sf.RW)]).map Subtype.val)=Vd.put1 (Vd.val (pre.map Subtype.val)) x:=by rw[List.map_append];exact Vd.val_snoc _ _
  have hob:=(Sf.right_iff x).1 hx
  obtain⟨F,hF⟩:∃F,Vd.val (pre.map Subtype.val)=F:=⟨_,rfl⟩
  rw[hF]at i1 hsn
  obtain⟨x0,x1,x2,x3⟩:=x
  dsimp only at hX hob hsn ⊢
  unfold Nt.wrArr at hX
  unfold Nt.wrV
  dsimp only at hX ⊢
  unfold Vd.put1 at hsn
  dsimp only at hsn
  obtain⟨o,rfl⟩:∃o:Nat,x2=(o:Int):=⟨x2.toNat,by omega⟩
  rw[Int.toNat_natCast]at hsn
  have ho:o<256:=by omega
  have ho0:(0:Int)≤(o:Int):=by omega
  have ho1:(o:Int)<256:=by omega
  have g0:=hX.cell (i:=0) rfl
  have g1:=hX.cell (i:=1) rfl
  have g3:=hX.cell (i:=3) rfl
  have HR:=Hd i0
  have HS:=Hd i1
  have HB:=Hd i2
  have HZ:=Hd i3
  cases x3 with
  |true=>
   rw[if_pos rfl]at hsn
   have FIN:=Hd (And.intro (KeepsFrom.refl w1.heap.size X) (And.intro (KeepC.refl w.heap.size W.heap.size X) (And.intro (And.intro HR.out (show Blk X (w.heap.size+1) 119 (Vd.sArr (Vd.val ((pre++[(⟨(x0,x1,(o:Int),true),hx⟩:Sf.RW)]).map Subtype.val))) from by rw[hsn];exact HS.out)) (And.intro HB.out HZ.out))))
   clear hX i0 i1 i2 i3 hsn hF hob hseq R1 S1 hl HR HS HB HZ
   gi_wp2
   exact FIN.out
  |false=>
   rw[if_neg Bool.false_ne_true]at hsn
   have f0:=i1.free (o*2)
   have f1:=i1.free (o*2+1)
   obtain⟨s0,s1⟩:=Vd.sArr_get F o ho
   have m0:=i1.cell s0
   have m1:=i1.cell s1
   have hne:w.heap.size+1≠Bx:=by omega
   have P9:=i1.vals_put o ho (x0,x1)
   rw[←hsn]at P9
   have hgg:w.heap.size≠w.heap.size+1:=by omega
   have Q9:=(i0.far (p:=⟨w.heap.size+1,o*2,none⟩) hgg (.int .i64 x0)).far (p:=⟨w.heap.size+1,o*2+1,none⟩) hgg (.int .i64 x1)
   have hge:w.heap.size≤w.heap.size+1:=by omega
   have B9:=(i2.setCell (p:=⟨w.heap.size+1,o*2,none⟩) hge (.int .i64 x0)).setCell (p:=⟨w.heap.size+1,o*2+1,none⟩) hge (.int .i64 x1)
   have K9:=(KeepsOthers.setCell X ⟨w.heap.size+1,o*2,none⟩ (.int .i64 x0)).trans (KeepsOthers.setCell _ ⟨w.heap.size+1,o*2+1,none⟩ (.int .i64 x1))
   have C9:=KeepC.trans (KeepC.set (n₀:=w.heap.size) (B:=W.heap.size) X ⟨w.heap.size+1,o*2,none⟩ (.int .i64 x0) hge (by show w.heap.size+1<W.heap.size;omega)) (KeepC.set (n₀:=w.heap.size) (B:=W.heap.size) _ ⟨w.heap.size+1,o*2+1,none⟩ (.int .i64 x1) hge (by show w.heap.size+1<W.heap.size;omega))
   have Z9:=Nat.le_trans i3 K9.size
   have FIN:=Hd (And.intro (K9.from w1.heap.size) (And.intro C9 (And.intro (And.intro Q9 P9) (And.intro B9 Z9))))
   clear hX i0 i1 i2 i3 hsn hF hob hseq R1 S1 hl HR HS HB HZ P9 Q9 B9 K9 C9 Z9
   gi_wp2
   exact FIN.out
 case done=>
  rintro DD ys X hDD hys ⟨⟨i0,i1⟩,i2,i3⟩ hK
  subst hys
  rw[HXS.out]at i1
  have hgd:DD≠w.heap.size:=fun e=>by
   have h1:X.heap[w.heap.size]?=_:=i0
   rw[←e,hK]at h1
   cases h1
  have S9:=Hd i1
  have R9:=Hd i0
  have RR:=i0.row (Vd.sArr (Vd.val l))
  have BB:=below_setRow i2 (Nat.le_refl _) (Vd.sArr (Vd.val l))
  have KK:=(setRow_other X w.heap.size DD (Vd.sArr (Vd.val l)) hgd).trans hK
  have FR:=Hd RR
  have FB:=Hd BB
  clear hseq i0 i1 i2 R1 S1 RR BB
  gi_wp2_with (first|(refine in_load_row rfl 119 _ rfl (w.heap.size+1) rfl 119 _ _ S9.out Tryz.underlying119 rfl (by rw[Vd.sArr_size];exact infoVals) ?_)|(refine in_store_row rfl 119 _ _ rfl w.heap.size _ rfl rfl 119 _ R9.out (by rw[Vd.sArr_size];exact infoVals) (by rw[vals_zero_size,Vd.sArr_size]) (one_sArr _) ?_))
  refine⟨by simp,.inl ⟨_,_,rfl,run_takeDeferred KK,?_⟩⟩
  have QP:=blk_own _ _ (fun (_:Unit)=>Vd.sArr (Vd.val l)) () _ _ (some DD) FR.out (grownBy_putObj' _ DD (.deferred none)) (fun r e=>by cases e;exact⟨_,KK,rfl⟩)
  exact⟨.agg (Vd.sArr (Vd.val l)),results_cell_row rfl _ _ w.heap.size 119 (Vd.sArr (Vd.val l)) (0,0) _ rfl QP Tryz.underlying119 rfl (by rw[Vd.sArr_size];exact infoVals),rfl,FB.out.trans (belowK_b (w:=w) (Nat.le_refl _) _ DD _ _ (by omega) KK rfl rfl)⟩
end Go.Proofs.YtjlfehpockfkdaaGreat
