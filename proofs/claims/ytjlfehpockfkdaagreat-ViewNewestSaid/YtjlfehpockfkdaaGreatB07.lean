/-
  What the rows of this claim stand on: SdGet, VdG, NtDevOf, StampNext, VdP, VwHolds.
-/
import Derived.Test.YtjlfehpockfkdaaGreatB01
import Derived.Laws.ResultCell
import Derived.Test.YtjlfehpockfkdaaGreatB03
import Derived.Test.YtjlfehpockfkdaaGreatB04
import Derived.Test.YtjlfehpockfkdaaGreatB02
import Derived.Test.YtjlfehpockfkdaaGreatB05
import Derived.Test.YtjlfehpockfkdaaGreatB06
namespace Go.Proofs.YtjlfehpockfkdaaGreat
open Go.RowKit Go.Shelf
attribute [local go_sem] Oper.semAt_some
theorem results_wr{P:Program}{fn:Func}{p q:Tmp}{ty t2:TypeId}(h:fn.results=#[.cell p ty,.cell q t2])(tmps:Array Value)(w:World)(g g2:Nat)(t:TypeId)(cs:Array Value)(d:TypeDesc)(v:Value)
  (hp:tmps.getD p undef = .pointer (some ⟨g,0,none⟩))(hg:Blk w g t cs)(hu:P.underlying ty=some d)(hd:(match d with | .struct _ | .array _ _=>true|_=>false)=true)(hi:(P.info? ty).map (·.size)=some cs.size)
  (hq:tmps.getD q undef = .pointer (some ⟨g2,0,none⟩))(hv:(loadVar t2 ⟨g2,0,none⟩).run P w = .ok v w) :
  (results fn tmps).run P w = .ok (.tuple #[.agg cs,v]) w:=by
 have hp':tmps[p]?.getD undef = .pointer (some ⟨g,0,none⟩):=by simpa using hp
 have hq':tmps[q]?.getD undef = .pointer (some ⟨g2,0,none⟩):=by simpa using hq
 simp[results,h,hp',hq',asAddr,run_loadVar_row w g t ty cs (0,0) d hg hu hd hi,hv]
theorem Nt.at_find(l:List Wr)(o:Int)(x:Wr)(h:l.find? (fun x=>decide (x.2.2.1=o))=some x):Nt.at_ l o=(x,true):=by unfold Nt.at_;rw[h]
theorem Nt.at_nowhere(l:List Wr)(o:Int)(h:∀y∈l,y.2.2.1≠o):Nt.at_ l o=(Nt.zeroW,false):=by
 have:l.find? (fun x=>decide (x.2.2.1=o))=none:=by
  rw[List.find?_eq_none]
  intro y hy e
  exact h y hy (of_decide_eq_true e)
 unfold Nt.at_;rw[this]
theorem Nt.find_pre{pre l:List Wr}{o:Int}{x:Wr}(hp:pre <+: l)(h:pre.find? (fun x=>decide (x.2.2.1=o))=some x):l.find? (fun x=>decide (x.2.2.1=o))=some x:=by
 obtain⟨t,rfl⟩:=hp
 rw[List.find?_append,h]
 rfl
theorem Nt.find_snoc{pre:List Wr}{o:Int}{x:Wr}(h:∀y∈pre,y.2.2.1≠o)(hx:x.2.2.1=o):(pre++[x]).find? (fun x=>decide (x.2.2.1=o))=some x:=by
 have:pre.find? (fun x=>decide (x.2.2.1=o))=none:=by
  rw[List.find?_eq_none]
  intro y hy e
  exact h y hy (of_decide_eq_true e)
 rw[List.find?_append,this]
 simp[hx]
set_option maxRecDepth 100000 in
set_option maxHeartbeats 3200000 in
theorem sdget_any(A:Option Addr)(c:Nat)(l:List Wr)(o:Int)(w:World)(h:OneW w A c l) :
  Calls Tryz.prog 85 #[.slice A l.length c,.int .i64 o] w (Says (.tuple #[Nt.wrV (Sf.getR l o).1,.int .i64 (Sf.getR l o).2]) w):=by
 have HL:=Hd h
 have b0:=below_new (below_new (below_new (Below.refl w.heap.size w) (.cells #[.int .i64 o] 3)) (.cells #[.int .i64 0,.int .i64 0,.int .i64 0,.bool false] 52)) (.cells #[.int .i64 0] 31)
 have O0:=((Blk.new w 3 #[.int .i64 o]).alloc (.cells #[.int .i64 0,.int .i64 0,.int .i64 0,.bool false] 52)).alloc (.cells #[.int .i64 0] 31)
 have W0:=(Blk.new (w.alloc (.cells #[.int .i64 o] 3)) 52 #[.int .i64 0,.int .i64 0,.int .i64 0,.bool false]).alloc (.cells #[.int .i64 0] 31)
 have E0:=Blk.new ((w.alloc (.cells #[.int .i64 o] 3)).alloc (.cells #[.int .i64 0,.int .i64 0,.int .i64 0,.bool false] 52)) 31 #[.int .i64 0]
 simp only[World.size_alloc]at W0 E0
 obtain⟨W,hW⟩:∃W,((w.alloc (.cells #[.int .i64 o] 3)).alloc (.cells #[.int .i64 0,.int .i64 0,.int .i64 0,.bool false] 52)).alloc (.cells #[.int .i64 0] 31)=W:=⟨_,rfl⟩
 rw[hW]at b0 O0 W0 E0
 have HW:=Hd hW
 have N0:=Hd (fun (w':World) (b:Below w.heap.size w w')=>sdformed_any A c l w' (h.later b))
 clear h hW
 refine(callsIn_wide (n:=3)).1 ?_
 refine callsIn_of_wp_marks Tryz.func85 rfl trivial ?_ rfl
 simp only[Tryz.ntmps85,List.size_toArray,List.length_cons,List.length_nil,Nat.reduceAdd,Nat.reduceSub,Array.replicate_succ,Array.replicate_zero,List.push_toArray,List.append_toArray,List.nil_append,List.cons_append]
 gi_wp2_with fail
 rw[HW.out]
 refine⟨trivial,(callsIn_wide.2 (N0.out W b0)).mono ?_⟩
 rintro e w1 ⟨rfl,b1⟩
 have bb1:=below_on b0 b1
 have O1:=O0.later b1
 have W1:=W0.later b1
 have E1:=E0.later b1
 clear b0 O0 W0 E0 b1 HW N0
 cases hf:Sf.fmd l with
 |false=>
  have hR:Sf.getR l o=(Nt.zeroW,1):=by unfold Sf.getR;rw[if_neg (by rw[hf];simp)]
  have HR:=Hd hR
  have z0:=W1.cell (i:=0) rfl
  have z1:=W1.cell (i:=1) rfl
  have z2:=W1.cell (i:=2) rfl
  have z3:=W1.cell (i:=3) rfl
  have y0:=W1.free 0
  have y1:=W1.free 1
  have y2:=W1.free 2
  have y3:=W1.free 3
  have e0:=E1.cell (i:=0) rfl
  have ef:=E1.free 0
  have hf0:w.heap.size≤w.heap.size+1:=by omega
  have hf1:w.heap.size≤w.heap.size+1+1:=by omega
  have FW:=Hd (((((W1.put 0 (.int .i64 0)).put 1 (.int .i64 0)).put 2 (.int .i64 0)).put 3 (.bool false)).far (p:=⟨w.heap.size+1+1,0,none⟩) (by show w.heap.size+1≠w.heap.size+1+1;omega) (.int .i64 1))
  have FE:=Hd (((((E1.far (p:=⟨w.heap.size+1,0,none⟩) (by show w.heap.size+1+1≠w.heap.size+1;omega) (.int .i64 0)).far (p:=⟨w.heap.size+1,1,none⟩) (by show w.heap.size+1+1≠w.heap.size+1;omega) (.int .i64 0)).far (p:=⟨w.heap.size+1,2,none⟩) (by show w.heap.size+1+1≠w.heap.size+1;omega) (.int .i64 0)).far (p:=⟨w.heap.size+1,3,none⟩) (by show w.heap.size+1+1≠w.heap.size+1;omega) (.bool false)).put 0 (.int .i64 1))
  have FB:=Hd (((((bb1.setCell (p:=⟨w.heap.size+1,0,none⟩) hf0 (.int .i64 0)).setCell (p:=⟨w.heap.size+1,1,none⟩) hf0 (.int .i64 0)).setCell (p:=⟨w.heap.size+1,2,none⟩) hf0 (.int .i64 0)).setCell (p:=⟨w.heap.size+1,3,none⟩) hf0 (.bool false)).setCell (p:=⟨w.heap.size+1+1,0,none⟩) hf1 (.int .i64 1))
  clear hf hR O1 W1 E1 bb1
  gi_wp2
  have fe:=FE.out.cell (i:=0) rfl
  refine⟨_,results_wr rfl _ _ (w.heap.size+1) (w.heap.size+1+1) _ _ _ (.int .i64 1) rfl FW.out rfl rfl (by kernel_rfl) rfl (by simp[go_sem,fe]),?_,FB.out⟩
  rw[HR.out]
  rfl
 |true=>
 have HF:=Hd hf
 gi_wp2_with fail
 refine⟨trivial,(callsIn_wide.2 (each_any A c l w1)).mono ?_⟩
 rintro e w2 ⟨bl,rfl,hbl,b2⟩
 have bb2:=below_on bb1 b2
 have O2:=O1.later b2
 have W2:=W1.later b2
 have E2:=E1.later b2
 have hz2:=bb2.size
 have hlt2:=E2.lt
 have SEQ:=eachW_stops id l l (List.map_id l) 2 (by omega) bl c A w2 (HL.out.later bb2) hbl
 clear bb1 b2 O1 W1 E1 hbl hf
 gi_wp2_with fail
 refine wpIn_rangeFunc_ownH rfl (by omega) (gf:=171) (lb:=#[.pointer (some ⟨bl,0,none⟩)]) rfl trivial enters_eachW SEQ KeepL.trans (fun W l' o o' _ h1 h2 _=>KeepL.put W l' o o' h1 h2) (Below.refl _ _) (fun _=>rfl)
  (fun pre W=>((((∀y∈pre,y.2.2.1≠o)∧Blk W w.heap.size 3 #[.int .i64 o])∧Blk W (w.heap.size+1) 52 #[.int .i64 0,.int .i64 0,.int .i64 0,.bool false])∧Blk W (w.heap.size+1+1) 31 #[.int .i64 0])∧Below w.heap.size w W)
  (fun c pre W=>∃x:Wr,(((c = .ret∧pre.find? (fun x=>decide (x.2.2.1=o))=some x)∧Blk W (w.heap.size+1) 52 (Nt.wrArr x))∧Blk W (w.heap.size+1+1) 31 #[.int .i64 0])∧Below w.heap.size w W)
  ?hI ?hIx ⟨⟨⟨⟨(fun y hy=>by cases hy),O2⟩,W2⟩,E2⟩,bb2⟩
  (fun x a' W=>∃Bx,Blk W Bx 52 (Nt.wrArr x)∧a'={ tmps:=#[.slice A l.length c,.int .i64 o,undef,.pointer (some ⟨w.heap.size,0,none⟩),.pointer (some ⟨w.heap.size+1,0,none⟩),.pointer (some ⟨w.heap.size+1+1,0,none⟩),.int .i64 x.2.2.1,.pointer (some ⟨Bx,0,none⟩),.slice A l.length c,.bool true,.bool false,undef,.slice A l.length c,.func (.func 171) #[] #[.pointer (some ⟨bl,0,none⟩)],.int .i64 x.2.2.1,Nt.wrV x,undef,undef,undef,undef,undef],defers:=[] })
  ?hAx ?assign ?body ?done ?stop
 case hI=>exact OwnFrom.and (OwnFrom.and (OwnFrom.and (OwnFrom.and (ownFrom_pure _ _) (Own.from (blk_own _ _ fun _=>#[.int .i64 o]) _)) (Own.from (blk_own _ _ fun _=>#[.int .i64 0,.int .i64 0,.int .i64 0,.bool false]) _)) (Own.from (blk_own _ _ fun _=>#[.int .i64 0]) _)) (ownFrom_below (Nat.le_refl _) hz2)
 case hIx=>exact fun c' pre X Y row ⟨x,hx⟩ hg hr=>⟨x,(OwnFrom.and (OwnFrom.and (OwnFrom.and (ownFrom_pure _ (fun pre:List Wr=>c' = .ret∧pre.find? (fun x=>decide (x.2.2.1=o))=some x)) (Own.from (blk_own _ _ fun _=>Nt.wrArr x) _)) (Own.from (blk_own _ _ fun _=>#[.int .i64 0]) _)) (ownFrom_below (Nat.le_refl _) hz2)) pre X Y row hx hg hr⟩
 case hAx=>exact fun x a' _ X Y row ⟨Bx,h1,h2⟩ hg hr=>⟨Bx,blk_own _ _ (fun (_:Unit)=>Nt.wrArr x) () X Y row h1 hg (fun r e=>(hr r e).2),h2⟩
 case assign=>
  rintro l' pre x W K ⟨⟨⟨⟨i0,i1⟩,i3⟩,i4⟩,i2⟩ hK
  obtain⟨x0,x1,x2,x3⟩:=x
  unfold toldW Nt.wrV
  unfold Nt.wrV Nt.wrArr at hK
  dsimp only[id]at hK ⊢
  have bN:=below_new (Below.refl W.heap.size W) (.cells #[.int .i64 x0,.int .i64 x1,.int .i64 x2,.bool x3] 52)
  have HK:=Hd hK
  have F1:=Hd (i1.later bN)
  have F2:=Hd (below_on i2 bN)
  have F3:=Hd (Blk.new W 52 #[.int .i64 x0,.int .i64 x1,.int .i64 x2,.bool x3])
  have F4:=Hd i0
  have F5:=Hd bN
  have F6:=Hd (i3.later bN)
  have F7:=Hd (i4.later bN)
  clear hK i0 i1 i2 i3 i4 bN SEQ O2 W2 E2
  gi_wp2
  exact HK.out _ _ (keepsF_below F5.out) (fun h=>h.later F5.out) ⟨⟨⟨⟨F4.out,F1.out⟩,F6.out⟩,F7.out⟩,F2.out⟩ ⟨_,F3.out,rfl⟩
 case body=>
  rintro l' pre x a' W hl _ ⟨⟨⟨⟨i0,i1⟩,i3⟩,i4⟩,i2⟩ ⟨Bx,hX,rfl⟩ hlt
  obtain⟨x0,x1,x2,x3⟩:=x
  have hfs:=Nt.find_snoc (x:=(x0,x1,x2,x3)) i0
  unfold Nt.wrV
  unfold Nt.wrArr at hX
  dsimp only at hX hfs ⊢
  have o0:=i1.cell (i:=0) rfl
  have FI:=Hd (show KeepsFrom w2.heap.size W W∧KeepL A c l W W∧((((x2≠o→∀y∈pre++[(x0,x1,x2,x3)],y.2.2.1≠o)∧Blk W w.heap.size 3 #[.int .i64 o])∧Blk W (w.heap.size+1) 52 #[.int .i64 0,.int .i64 0,.int .i64 0,.bool false])∧Blk W (w.heap.size+1+1) 31 #[.int .i64 0])∧Below w.heap.size w W from
   ⟨KeepsFrom.refl _ _,id,⟨⟨⟨fun hne y hy=>by
    rcases List.mem_append.1 hy with hy|hy
    ·exact i0 y hy
    ·rw[List.mem_singleton]at hy;subst hy;exact hne,i1⟩,i3⟩,i4⟩,i2⟩)
  by_cases hd:x2=o
  ·have hd1:(x2 == o)=true:=beq_iff_eq.2 hd
   have g0:=hX.cell (i:=0) rfl
   have g1:=hX.cell (i:=1) rfl
   have g2:=hX.cell (i:=2) rfl
   have g3:=hX.cell (i:=3) rfl
   have z0:=i3.cell (i:=0) rfl
   have z1:=i3.cell (i:=1) rfl
   have z2:=i3.cell (i:=2) rfl
   have z3:=i3.cell (i:=3) rfl
   have y0:=i3.free 0
   have y1:=i3.free 1
   have y2:=i3.free 2
   have y3:=i3.free 3
   have e0:=i4.cell (i:=0) rfl
   have ef:=i4.free 0
   have hf0:w.heap.size≤w.heap.size+1:=by omega
   have hf1:w.heap.size≤w.heap.size+1+1:=by omega
   have FW:=Hd (((((i3.put 0 (.int .i64 x0)).put 1 (.int .i64 x1)).put 2 (.int .i64 x2)).put 3 (.bool x3)).far (p:=⟨w.heap.size+1+1,0,none⟩) (by show w.heap.size+1≠w.heap.size+1+1;omega) (.int .i64 0))
   have FE:=Hd (((((i4.far (p:=⟨w.heap.size+1,0,none⟩) (by show w.heap.size+1+1≠w.heap.size+1;omega) (.int .i64 x0)).far (p:=⟨w.heap.size+1,1,none⟩) (by show w.heap.size+1+1≠w.heap.size+1;omega) (.int .i64 x1)).far (p:=⟨w.heap.size+1,2,none⟩) (by show w.heap.size+1+1≠w.heap.size+1;omega) (.int .i64 x2)).far (p:=⟨w.heap.size+1,3,none⟩) (by show w.heap.size+1+1≠w.heap.size+1;omega) (.bool x3)).put 0 (.int .i64 0))
   have FB:=Hd (((((i2.setCell (p:=⟨w.heap.size+1,0,none⟩) hf0 (.int .i64 x0)).setCell (p:=⟨w.heap.size+1,1,none⟩) hf0 (.int .i64 x1)).setCell (p:=⟨w.heap.size+1,2,none⟩) hf0 (.int .i64 x2)).setCell (p:=⟨w.heap.size+1,3,none⟩) hf0 (.bool x3)).setCell (p:=⟨w.heap.size+1+1,0,none⟩) hf1 (.int .i64 0))
   have HFS:=Hd (hfs hd)
   clear hX i0 i1 i2 i3 i4 hfs hl SEQ O2 W2 E2 FI hd
   gi_wp2
   exact⟨(((((KeepsOthers.setCell _ _ _).trans (KeepsOthers.setCell _ _ _)).trans (KeepsOthers.setCell _ _ _)).trans (KeepsOthers.setCell _ _ _)).trans (KeepsOthers.setCell _ _ _)).from _,(x0,x1,x2,x3),⟨⟨⟨rfl,HFS.out⟩,FW.out⟩,FE.out⟩,FB.out⟩
  ·have hd1:(x2 == o)=false:=beq_eq_false_iff_ne.2 hd
   have HD:=Hd hd
   clear hX i0 i1 i2 i3 i4 hfs hl SEQ O2 W2 E2 hd
   gi_wp2
   exact⟨FI.out.1,FI.out.2.1,⟨⟨⟨FI.out.2.2.1.1.1.1 HD.out,FI.out.2.2.1.1.1.2⟩,FI.out.2.2.1.1.2⟩,FI.out.2.2.1.2⟩,FI.out.2.2.2⟩
 case done=>
  rintro DD ys W hDD hys ⟨⟨⟨⟨i0,i1⟩,i3⟩,i4⟩,i2⟩ hK
  subst hys
  have hR:Sf.getR ys o=(Nt.zeroW,8):=by unfold Sf.getR;rw[if_pos HF.out,Nt.at_nowhere ys o i0];rfl
  have HR:=Hd hR
  have z0:=i3.cell (i:=0) rfl
  have z1:=i3.cell (i:=1) rfl
  have z2:=i3.cell (i:=2) rfl
  have z3:=i3.cell (i:=3) rfl
  have y0:=i3.free 0
  have y1:=i3.free 1
  have y2:=i3.free 2
  have y3:=i3.free 3
  have e0:=i4.cell (i:=0) rfl
  have ef:=i4.free 0
  have hf0:w.heap.size≤w.heap.size+1:=by omega
  have hf1:w.heap.size≤w.heap.size+1+1:=by omega
  have FW:=Hd (((((i3.put 0 (.int .i64 0)).put 1 (.int .i64 0)).put 2 (.int .i64 0)).put 3 (.bool false)).far (p:=⟨w.heap.size+1+1,0,none⟩) (by show w.heap.size+1≠w.heap.size+1+1;omega) (.int .i64 8))
  have FE:=Hd (((((i4.far (p:=⟨w.heap.size+1,0,none⟩) (by show w.heap.size+1+1≠w.heap.size+1;omega) (.int .i64 0)).far (p:=⟨w.heap.size+1,1,none⟩) (by show w.heap.size+1+1≠w.heap.size+1;omega) (.int .i64 0)).far (p:=⟨w.heap.size+1,2,none⟩) (by show w.heap.size+1+1≠w.heap.size+1;omega) (.int .i64 0)).far (p:=⟨w.heap.size+1,3,none⟩) (by show w.heap.size+1+1≠w.heap.size+1;omega) (.bool false)).put 0 (.int .i64 8))
  have FB:=Hd (((((i2.setCell (p:=⟨w.heap.size+1,0,none⟩) hf0 (.int .i64 0)).setCell (p:=⟨w.heap.size+1,1,none⟩) hf0 (.int .i64 0)).setCell (p:=⟨w.heap.size+1,2,none⟩) hf0 (.int .i64 0)).setCell (p:=⟨w.heap.size+1,3,none⟩) hf0 (.bool false)).setCell (p:=⟨w.heap.size+1+1,0,none⟩) hf1 (.int .i64 8))
  have FK:=Hd ((((((KeepsOthers.setCell W ⟨w.heap.size+1,0,none⟩ (.int .i64 0)).trans (KeepsOthers.setCell _ ⟨w.heap.size+1,1,none⟩ (.int .i64 0))).trans (KeepsOthers.setCell _ ⟨w.heap.size+1,2,none⟩ (.int .i64 0))).trans (KeepsOthers.setCell _ ⟨w.heap.size+1,3,none⟩ (.bool false))).trans (KeepsOthers.setCell _ ⟨w.heap.size+1+1,0,none⟩ (.int .i64 8))).same DD _ hK rfl)
  clear SEQ i0 i1 i2 i3 i4 O2 W2 E2 hR
  gi_wp2
  refine⟨by simp,.inl ⟨_,_,rfl,run_takeDeferred FK.out,?_⟩⟩
  have QW:=blk_own _ _ (fun (_:Unit)=>#[.int .i64 0,.int .i64 0,.int .i64 0,.bool false]) () _ _ (some DD) FW.out (grownBy_putObj' _ DD (.deferred none)) (fun r e=>by cases e;exact⟨_,FK.out,rfl⟩)
  have QE:=blk_own _ _ (fun (_:Unit)=>#[.int .i64 8]) () _ _ (some DD) FE.out (grownBy_putObj' _ DD (.deferred none)) (fun r e=>by cases e;exact⟨_,FK.out,rfl⟩)
  have fe:=QE.cell (i:=0) rfl
  refine⟨_,results_wr rfl _ _ (w.heap.size+1) (w.heap.size+1+1) _ _ _ (.int .i64 8) rfl QW rfl rfl (by kernel_rfl) rfl (by simp[go_sem,fe]),?_,FB.out.trans (belowK_b (w:=w) (Nat.le_refl _) _ DD _ _ (by omega) FK.out rfl rfl)⟩
  rw[HR.out]
  rfl
 case stop=>
  rintro DD c' pre W hDD hpre ⟨x,⟨⟨⟨rfl,i0⟩,i3⟩,i4⟩,i2⟩ hK
  have hR:Sf.getR l o=(x,0):=by unfold Sf.getR;rw[if_pos HF.out,Nt.at_find l o x (Nt.find_pre hpre i0)];rfl
  have HR:=Hd hR
  clear SEQ O2 W2 E2 hR
  gi_wp2
  refine⟨by simp,.inl ⟨_,_,rfl,run_takeDeferred hK,?_⟩⟩
  have QW:=blk_own _ _ (fun (_:Unit)=>Nt.wrArr x) () _ _ (some DD) i3 (grownBy_putObj' _ DD (.deferred none)) (fun r e=>by cases e;exact⟨_,hK,rfl⟩)
  have QE:=blk_own _ _ (fun (_:Unit)=>#[.int .i64 0]) () _ _ (some DD) i4 (grownBy_putObj' _ DD (.deferred none)) (fun r e=>by cases e;exact⟨_,hK,rfl⟩)
  have fe:=QE.cell (i:=0) rfl
  refine⟨_,results_wr rfl _ _ (w.heap.size+1) (w.heap.size+1+1) _ _ _ (.int .i64 0) rfl QW rfl rfl (by kernel_rfl) rfl (by simp[go_sem,fe]),?_,i2.trans (belowK_b (w:=w) (Nat.le_refl _) W DD _ _ (by omega) hK rfl rfl)⟩
  rw[HR.out]
  rfl
end Go.Proofs.YtjlfehpockfkdaaGreat
namespace Go.Proofs.YtjlfehpockfkdaaGreat
open Go.RowKit Fb
theorem vdisObject_says(o:Int)(w:World):Calls Tryz.prog 82 #[.int .i64 o] w (Says (.bool (decide (0≤o∧o≤255))) w):=by
 refine(vdisObject_any o w).mono ?_
 rintro e w' ⟨rfl,rfl⟩
 exact⟨rfl,Below.refl _ _⟩
theorem Vd.fmd_new(room:Int):Vw.fmd ⟨[],[],[],[],room⟩=decide (0≤room∧room≤16777216):=by
 have h1:Ve.fmd []=true:=by decide
 have h2:Tr.fmd []=true:=by decide
 have h3:Sf.fmd []=true:=Sf.fmd_nil
 have h4:Ca.oks []=true:=by decide
 have h5:Ca.used []=0:=by decide
 unfold Vw.fmd Ca.fmd
 rw[h1,h2,h3,h4,h5]
 by_cases h:0≤room∧room≤16777216
 ·simp[h.1,h.2]
 ·rw[decide_eq_false h]
  by_cases h0:0≤room
  ·have h6:¬room≤16777216:=fun hh=>h ⟨h0,hh⟩
   simp[h6]
  ·simp[h0]
set_option maxRecDepth 100000 in
set_option maxHeartbeats 6400000 in
theorem vdnew_any(room:Int)(w:World):Calls Tryz.prog 13 #[.int .i64 room] w (GivesVwE (Vw.newR room).1 (Vw.newR room).2 w):=by
 have n1:=fun wx=>vdformed_any ⟨none,0,[],none,0,[],none,0,[],none,0,[],room⟩ wx ⟨OneL.nil,OneZ.nil _,OneW.nil,OneC.nil _⟩
 have hv:Vl.vw ⟨none,0,[],none,0,[],none,0,[],none,0,[],room⟩=⟨[],[],[],[],room⟩:=rfl
 rw[hv,Vd.fmd_new]at n1
 unfold vwCells at n1
 dsimp only[List.length_nil]at n1
 by_cases h:0≤room∧room≤16777216
 ·rw[decide_eq_true h]at n1
  rw[show Vw.newR room=(⟨[],[],[],[],room⟩,0) from by unfold Vw.newR;rw[if_pos h]]
  have N1:=Hd n1
  clear n1 hv h
  have hb0:=below_new (Below.refl w.heap.size w) (.cells #[.slice none 0 0,.slice none 0 0,.slice none 0 0,.slice none 0 0,.int .i64 0] 27)
  have hR:=Blk.new w 27 #[.slice none 0 0,.slice none 0 0,.slice none 0 0,.slice none 0 0,.int .i64 0]
  obtain⟨W,hW⟩:∃W,w.alloc (.cells #[.slice none 0 0,.slice none 0 0,.slice none 0 0,.slice none 0 0,.int .i64 0] 27)=W:=⟨_,rfl⟩
  rw[hW]at hb0 hR
  have HW:=Hd hW
  obtain⟨g,hgg⟩:∃g,w.heap.size=g:=⟨_,rfl⟩
  rw[hgg]at hR
  have HR:=Hd (show Blk W (g) 27 #[.slice none 0 0,.slice none 0 0,.slice none 0 0,.slice none 0 0,.int .i64 0] from hR)
  have HB0:=Hd hb0
  clear hW hb0 hR
  go_enter Tryz.func13,Tryz.ntmps13
  go_upto_region 1 with (fail)
  rw[HW.out]
  clear HW
  obtain⟨gv,hggv⟩:∃gv,W.heap.size=gv:=⟨_,rfl⟩
  have lt_R_gv:g<gv:=by have:=HR.out.lt;rw[hggv]at this;exact this
  have le_gv:w.heap.size≤gv:=by have:=HB0.out.size;rw[hggv]at this;exact this
  go_upto_region 2 with (fail)
  have b1:=below_new (Below.refl W.heap.size W) (.cells #[.slice none 0 0,.slice none 0 0,.slice none 0 0,.slice none 0 0,.int .i64 room] 27)
  have hV:=Blk.new W 27 #[.slice none 0 0,.slice none 0 0,.slice none 0 0,.slice none 0 0,.int .i64 room]
  obtain⟨w1,hw1⟩:∃x,W.alloc (.cells #[.slice none 0 0,.slice none 0 0,.slice none 0 0,.slice none 0 0,.int .i64 room] 27)=x:=⟨_,rfl⟩
  rw[hw1]at b1 hV
  rw[hw1]
  replace HR:=Hd (HR.out.later b1)
  have HB1:=Hd (below_on HB0.out b1)
  clear HB0
  rw[hggv]at hV
  have HV:=Hd hV
  clear b1 hw1 hV
  have V_0:=HV.out.cell (i:=0) rfl
  have V_1:=HV.out.cell (i:=1) rfl
  have V_2:=HV.out.cell (i:=2) rfl
  have V_3:=HV.out.cell (i:=3) rfl
  have V_4:=HV.out.cell (i:=4) rfl
  go_wp2_with fail
  refine(N1.out _).mono ?_
  rintro e w2 ⟨rfl,b2⟩
  clear V_0 V_1 V_2 V_3 V_4
  replace HR:=Hd (HR.out.later b2)
  replace HV:=Hd (HV.out.later b2)
  have HB2:=Hd (below_on HB1.out b2)
  clear HB1
  clear b2 N1
  have V_0:=HV.out.cell (i:=0) rfl
  have V_1:=HV.out.cell (i:=1) rfl
  have V_2:=HV.out.cell (i:=2) rfl
  have V_3:=HV.out.cell (i:=3) rfl
  have V_4:=HV.out.cell (i:=4) rfl
  have R_0:=HR.out.cell (i:=0) rfl
  have R_1:=HR.out.cell (i:=1) rfl
  have R_2:=HR.out.cell (i:=2) rfl
  have R_3:=HR.out.cell (i:=3) rfl
  have R_4:=HR.out.cell (i:=4) rfl
  have R_f0:=HR.out.free 0
  have R_f1:=HR.out.free 1
  have R_f2:=HR.out.free 2
  have R_f3:=HR.out.free 3
  have R_f4:=HR.out.free 4
  have hh:w.heap.size≤g:=by omega
  have HP:=Hd (((((HR.out.put 0 (.slice none 0 0)).put 1 (.slice none 0 0)).put 2 (.slice none 0 0)).put 3 (.slice none 0 0)).put 4 (.int .i64 room))
  have HQ:=Hd (((((HB2.out.setCell (p:=⟨g,0,none⟩) hh (.slice none 0 0)).setCell (p:=⟨g,1,none⟩) hh (.slice none 0 0)).setCell (p:=⟨g,2,none⟩) hh (.slice none 0 0)).setCell (p:=⟨g,3,none⟩) hh (.slice none 0 0)).setCell (p:=⟨g,4,none⟩) hh (.int .i64 room))
  clear hh
  go_wp2
  exact bodyPost_ret (results_cell_tmp (p:=2) (t1:=3) (ty:=27) rfl _ _ (g) 27 #[.slice none 0 0,.slice none 0 0,.slice none 0 0,.slice none 0 0,.int .i64 room] _ rfl HP.out Tryz.underlying27 rfl infoVw) rfl ⟨⟨none,0,[],none,0,[],none,0,[],none,0,[],room⟩,rfl,rfl,⟨OneL.nil,OneZ.nil _,OneW.nil,OneC.nil _⟩,HQ.out⟩
 ·rw[decide_eq_false h]at n1
  rw[show Vw.newR room=(Vw.zero,1) from by unfold Vw.newR;rw[if_neg h]]
  have N1:=Hd n1
  clear n1 hv h
  have hb0:=below_new (Below.refl w.heap.size w) (.cells #[.slice none 0 0,.slice none 0 0,.slice none 0 0,.slice none 0 0,.int .i64 0] 27)
  have hR:=Blk.new w 27 #[.slice none 0 0,.slice none 0 0,.slice none 0 0,.slice none 0 0,.int .i64 0]
  obtain⟨W,hW⟩:∃W,w.alloc (.cells #[.slice none 0 0,.slice none 0 0,.slice none 0 0,.slice none 0 0,.int .i64 0] 27)=W:=⟨_,rfl⟩
  rw[hW]at hb0 hR
  have HW:=Hd hW
  obtain⟨g,hgg⟩:∃g,w.heap.size=g:=⟨_,rfl⟩
  rw[hgg]at hR
  have HR:=Hd (show Blk W (g) 27 #[.slice none 0 0,.slice none 0 0,.slice none 0 0,.slice none 0 0,.int .i64 0] from hR)
  have HB0:=Hd hb0
  clear hW hb0 hR
  go_enter Tryz.func13,Tryz.ntmps13
  go_upto_region 1 with (fail)
  rw[HW.out]
  clear HW
  obtain⟨gv,hggv⟩:∃gv,W.heap.size=gv:=⟨_,rfl⟩
  have lt_R_gv:g<gv:=by have:=HR.out.lt;rw[hggv]at this;exact this
  have le_gv:w.heap.size≤gv:=by have:=HB0.out.size;rw[hggv]at this;exact this
  go_upto_region 2 with (fail)
  have b1:=below_new (Below.refl W.heap.size W) (.cells #[.slice none 0 0,.slice none 0 0,.slice none 0 0,.slice none 0 0,.int .i64 room] 27)
  have hV:=Blk.new W 27 #[.slice none 0 0,.slice none 0 0,.slice none 0 0,.slice none 0 0,.int .i64 room]
  obtain⟨w1,hw1⟩:∃x,W.alloc (.cells #[.slice none 0 0,.slice none 0 0,.slice none 0 0,.slice none 0 0,.int .i64 room] 27)=x:=⟨_,rfl⟩
  rw[hw1]at b1 hV
  rw[hw1]
  replace HR:=Hd (HR.out.later b1)
  have HB1:=Hd (below_on HB0.out b1)
  clear HB0
  rw[hggv]at hV
  have HV:=Hd hV
  clear b1 hw1 hV
  have V_0:=HV.out.cell (i:=0) rfl
  have V_1:=HV.out.cell (i:=1) rfl
  have V_2:=HV.out.cell (i:=2) rfl
  have V_3:=HV.out.cell (i:=3) rfl
  have V_4:=HV.out.cell (i:=4) rfl
  go_wp2_with fail
  refine(N1.out _).mono ?_
  rintro e w2 ⟨rfl,b2⟩
  clear V_0 V_1 V_2 V_3 V_4
  replace HR:=Hd (HR.out.later b2)
  replace HV:=Hd (HV.out.later b2)
  have HB2:=Hd (below_on HB1.out b2)
  clear HB1
  clear b2 N1
  have R_0:=HR.out.cell (i:=0) rfl
  have R_1:=HR.out.cell (i:=1) rfl
  have R_2:=HR.out.cell (i:=2) rfl
  have R_3:=HR.out.cell (i:=3) rfl
  have R_4:=HR.out.cell (i:=4) rfl
  have R_f0:=HR.out.free 0
  have R_f1:=HR.out.free 1
  have R_f2:=HR.out.free 2
  have R_f3:=HR.out.free 3
  have R_f4:=HR.out.free 4
  have hh:w.heap.size≤g:=by omega
  have HP:=Hd (((((HR.out.put 0 (.slice none 0 0)).put 1 (.slice none 0 0)).put 2 (.slice none 0 0)).put 3 (.slice none 0 0)).put 4 (.int .i64 0))
  have HQ:=Hd (((((HB2.out.setCell (p:=⟨g,0,none⟩) hh (.slice none 0 0)).setCell (p:=⟨g,1,none⟩) hh (.slice none 0 0)).setCell (p:=⟨g,2,none⟩) hh (.slice none 0 0)).setCell (p:=⟨g,3,none⟩) hh (.slice none 0 0)).setCell (p:=⟨g,4,none⟩) hh (.int .i64 0))
  clear hh
  go_wp2
  exact bodyPost_ret (results_cell_tmp (p:=2) (t1:=3) (ty:=27) rfl _ _ (g) 27 #[.slice none 0 0,.slice none 0 0,.slice none 0 0,.slice none 0 0,.int .i64 0] _ rfl HP.out Tryz.underlying27 rfl infoVw) rfl ⟨Vl.none,rfl,rfl,VwAt.none _,HQ.out⟩
set_option maxRecDepth 100000 in
set_option maxHeartbeats 6400000 in
theorem vdread_any(q:Vl)(o:Int)(w:World)(h:VwAt w q):Calls Tryz.prog 27 #[.agg (vwCells q),.int .i64 o] w (GivesRd (Vw.readR q.vw o).1 (Vw.readR q.vw o).2.1 (Vw.readR q.vw o).2.2 w):=by
 have hR:Vw.readR q.vw o=if Vw.fmd q.vw=true∧0≤o∧o≤255 then
  (if (Tr.at_ (q.z.map Zc.zn) o).isSome=true then ([],Nt.zeroW,9)
   else if (Nt.at_ q.h o).2=false then ([],Nt.zeroW,8)
   else if (Nt.at_ q.h o).1.2.2.2=true then ([],(Nt.at_ q.h o).1,0)
   else ((Ca.getR (q.b.map Bc.b) o (Nt.at_ q.h o).1.1 (Nt.at_ q.h o).1.2.1).1,(Nt.at_ q.h o).1,(Ca.getR (q.b.map Bc.b) o (Nt.at_ q.h o).1.1 (Nt.at_ q.h o).1.2.1).2))
  else ([],Nt.zeroW,1):=rfl
 have hby:=getR_byte (l:=q.b.map Bc.b) (by
  intro x hx
  obtain⟨z,hz,rfl⟩:=List.mem_map.1 hx
  exact(h.b.each z hz).byte) o (Nt.at_ q.h o).1.1 (Nt.at_ q.h o).1.2.1
 have hF:=fun wx (hb:Below w.heap.size w wx)=>vdformed_any q wx (h.later hb)
 have hB:=fun wx (hb:Below w.heap.size w wx)=>tblurred_any q.Z q.cz q.z wx (h.later hb).z
 have hI:=fun (hf:Vw.fmd q.vw=true) (ho:0≤o∧o≤255)=>show inOf (Tr.blr (q.z.map Zc.zn)) o=(Tr.at_ (q.z.map Zc.zn) o).isSome from Vw.blr_is hf ho
 have hN:=fun (hf:Vw.fmd q.vw=true) wx (hb:Below w.heap.size w wx)=>(by
  have hq:=sdget_any q.H q.ch q.h o wx (h.later hb).h
  unfold Sf.getR at hq
  rw[if_pos (show Sf.fmd q.h=true from(Vw.fmd_all hf).2.2.1)]at hq
  exact hq:Calls Tryz.prog 85 #[.slice q.H q.h.length q.ch,.int .i64 o] wx (Says (.tuple #[Nt.wrV (if (Nt.at_ q.h o).2=true then ((Nt.at_ q.h o).1,(0:Int)) else (Nt.zeroW,8)).1,.int .i64 (if (Nt.at_ q.h o).2=true then ((Nt.at_ q.h o).1,(0:Int)) else (Nt.zeroW,8)).2]) wx))
 have hG:=fun (hf:Vw.fmd q.vw=true) wx (hb:Below w.heap.size w wx)=>cdget_any q.B q.cb q.b o (Nt.at_ q.h o).1.1 (Nt.at_ q.h o).1.2.1 wx (h.later hb).b (fmd_fits (Vw.fmd_b hf))
 obtain⟨⟨rb,rw_,re⟩,hRR⟩:∃p,Vw.readR q.vw o=p:=⟨_,rfl⟩
 rw[hRR]
 rw[hRR]at hR
 clear hRR h
 obtain⟨⟨⟨a0,a1,a2,a3⟩,ok⟩,hp⟩:∃p,Nt.at_ q.h o=p:=⟨_,rfl⟩
 rw[hp]at hN hG hby hR
 obtain⟨fm,hfm⟩:∃f,Vw.fmd q.vw=f:=⟨_,rfl⟩
 rw[hfm]at hF hG hR hN hI
 obtain⟨ib,hib⟩:∃f,(Tr.at_ (q.z.map Zc.zn) o).isSome=f:=⟨_,rfl⟩
 rw[hib]at hI hR
 dsimp only at hN hG hby hR
 obtain⟨⟨gv,ge⟩,hgg⟩:∃p,Ca.getR (q.b.map Bc.b) o a0 a1=p:=⟨_,rfl⟩
 rw[hgg]at hG hby hR
 dsimp only at hG hby hR
 dsimp only
 have HBY:=Hd hby
 have HA:=Hd hR.symm
 obtain⟨K,ck,kn,Z,cz,zs,H,ch,hs,B,cb,bs,room⟩:=q
 unfold vwCells at hF ⊢
 dsimp only at hF hN hG hB hI ⊢
 have C1:=Hd hF
 have NA0:=Hd (fun (hk:ok=false) (hf:fm=true) wx hb=>show Calls Tryz.prog 85 #[.slice H hs.length ch,.int .i64 o] wx (Says (.tuple #[.agg #[.int .i64 0,.int .i64 0,.int .i64 0,.bool false],.int .i64 8]) wx) from by have hq:=hN hf wx hb;rw[if_neg (by rw[hk];exact Bool.false_ne_true)]at hq;exact hq)
 have NA1:=Hd (fun (hk:ok=true) (hf:fm=true) wx hb=>show Calls Tryz.prog 85 #[.slice H hs.length ch,.int .i64 o] wx (Says (.tuple #[.agg #[.int .i64 a0,.int .i64 a1,.int .i64 a2,.bool a3],.int .i64 0]) wx) from by have hq:=hN hf wx hb;rw[if_pos hk]at hq;exact hq)
 have NO:=Hd (fun wx=>vdisObject_says o wx)
 have NG:=Hd hG
 have NB:=Hd hB
 have HIB:=Hd hI
 clear hF hN hG hby hp hfm hgg hR hB hI hib
 have hb0:=below_new (below_new (Below.refl w.heap.size w) (.cells #[.slice K kn.length ck,.slice Z zs.length cz,.slice H hs.length ch,.slice B bs.length cb,.int .i64 room] 27)) (.cells #[.int .i64 0,.int .i64 0,.int .i64 0,.bool false] 52)
 have hV:=(Blk.new w 27 #[.slice K kn.length ck,.slice Z zs.length cz,.slice H hs.length ch,.slice B bs.length cb,.int .i64 room]).alloc (.cells #[.int .i64 0,.int .i64 0,.int .i64 0,.bool false] 52)
 have hR:=Blk.new (w.alloc (.cells #[.slice K kn.length ck,.slice Z zs.length cz,.slice H hs.length ch,.slice B bs.length cb,.int .i64 room] 27)) 52 #[.int .i64 0,.int .i64 0,.int .i64 0,.bool false]
 simp only[World.size_alloc]at hR
 obtain⟨W,hW⟩:∃W,(w.alloc (.cells #[.slice K kn.length ck,.slice Z zs.length cz,.slice H hs.length ch,.slice B bs.length cb,.int .i64 room] 27)).alloc (.cells #[.int .i64 0,.int .i64 0,.int .i64 0,.bool false] 52)=W:=⟨_,rfl⟩
 rw[hW]at hb0 hV hR
 have HW:=Hd hW
 obtain⟨g,hgg⟩:∃g,w.heap.size=g:=⟨_,rfl⟩
 rw[hgg]at hV hR
 have HV:=Hd (show Blk W (g) 27 #[.slice K kn.length ck,.slice Z zs.length cz,.slice H hs.length ch,.slice B bs.length cb,.int .i64 room] from hV)
 have HR:=Hd (show Blk W (g+1) 52 #[.int .i64 0,.int .i64 0,.int .i64 0,.bool false] from hR)
 have HB0:=Hd hb0
 clear hW hb0 hV hR
 go_enter Tryz.func27,Tryz.ntmps27
 go_upto_region 1 with (fail)
 rw[HW.out]
 clear HW
 have V_0:=HV.out.cell (i:=0) rfl
 have V_1:=HV.out.cell (i:=1) rfl
 have V_2:=HV.out.cell (i:=2) rfl
 have V_3:=HV.out.cell (i:=3) rfl
 have V_4:=HV.out.cell (i:=4) rfl
 go_wp2_with fail
 refine(C1.out W HB0.out).mono ?_
 rintro e w1 ⟨rfl,b1⟩
 clear V_0 V_1 V_2 V_3 V_4
 replace HV:=Hd (HV.out.later b1)
 replace HR:=Hd (HR.out.later b1)
 have HB1:=Hd (below_on HB0.out b1)
 clear HB0
 clear b1 C1
 cases fm with
 |false=>
  have hr:=HA.out
  simp[]at hr
  obtain⟨rfl,rfl,rfl⟩:=hr
  have R_0:=HR.out.cell (i:=0) rfl
  have R_1:=HR.out.cell (i:=1) rfl
  have R_2:=HR.out.cell (i:=2) rfl
  have R_3:=HR.out.cell (i:=3) rfl
  have R_f0:=HR.out.free 0
  have R_f1:=HR.out.free 1
  have R_f2:=HR.out.free 2
  have R_f3:=HR.out.free 3
  have hh:w.heap.size≤g+1:=by omega
  have HP:=Hd ((((HR.out.put 0 (.int .i64 0)).put 1 (.int .i64 0)).put 2 (.int .i64 0)).put 3 (.bool false))
  have HQ:=Hd ((((HB1.out.setCell (p:=⟨g+1,0,none⟩) hh (.int .i64 0)).setCell (p:=⟨g+1,1,none⟩) hh (.int .i64 0)).setCell (p:=⟨g+1,2,none⟩) hh (.int .i64 0)).setCell (p:=⟨g+1,3,none⟩) hh (.bool false))
  clear hh
  go_wp2
  exact bodyPost_ret (results_tmp_cell_tmp (t1:=4) (p:=5) (t2:=6) (ty:=52) rfl _ _ (g+1) 52 #[.int .i64 0,.int .i64 0,.int .i64 0,.bool false] _ rfl HP.out Tryz.underlying52 rfl infoWrz) rfl ⟨none,0,rfl,OneB.nil,HQ.out⟩
 |true=>
 go_wp2_with fail
 refine(NO.out _).mono ?_
 rintro e w2 ⟨rfl,b2⟩
 replace HV:=Hd (HV.out.later b2)
 replace HR:=Hd (HR.out.later b2)
 have HB2:=Hd (below_on HB1.out b2)
 clear HB1
 clear b2 NO
 by_cases hoo:0≤o∧o≤255
 rotate_left
 ·
  rw[decide_eq_false hoo]
  have hr:=HA.out
  simp[hoo]at hr
  obtain⟨rfl,rfl,rfl⟩:=hr
  have R_0:=HR.out.cell (i:=0) rfl
  have R_1:=HR.out.cell (i:=1) rfl
  have R_2:=HR.out.cell (i:=2) rfl
  have R_3:=HR.out.cell (i:=3) rfl
  have R_f0:=HR.out.free 0
  have R_f1:=HR.out.free 1
  have R_f2:=HR.out.free 2
  have R_f3:=HR.out.free 3
  have hh:w.heap.size≤g+1:=by omega
  have HP:=Hd ((((HR.out.put 0 (.int .i64 0)).put 1 (.int .i64 0)).put 2 (.int .i64 0)).put 3 (.bool false))
  have HQ:=Hd ((((HB2.out.setCell (p:=⟨g+1,0,none⟩) hh (.int .i64 0)).setCell (p:=⟨g+1,1,none⟩) hh (.int .i64 0)).setCell (p:=⟨g+1,2,none⟩) hh (.int .i64 0)).setCell (p:=⟨g+1,3,none⟩) hh (.bool false))
  clear hh
  go_wp2
  exact bodyPost_ret (results_tmp_cell_tmp (t1:=4) (p:=5) (t2:=6) (ty:=52) rfl _ _ (g+1) 52 #[.int .i64 0,.int .i64 0,.int .i64 0,.bool false] _ rfl HP.out Tryz.underlying52 rfl infoWrz) rfl ⟨none,0,rfl,OneB.nil,HQ.out⟩
 rw[decide_eq_true hoo]
 have V_1:=HV.out.cell (i:=1) rfl
 go_wp2_with fail
 refine(NB.out _ HB2.out).mono ?_
 rintro e w3 ⟨SA,sc,rfl,hS,b3⟩
 clear V_1
 replace HV:=Hd (HV.out.later b3)
 replace HR:=Hd (HR.out.later b3)
 have HB3:=Hd (below_on HB2.out b3)
 clear HB2
 clear b3 NB
 have NH:=Hd (show Calls Tryz.prog 83 #[.slice SA (Tr.blr (zs.map Zc.zn)).length sc,.int .i64 o] w3 (Says (.bool ib) w3) from by have:=sphas_any SA sc (Tr.blr (zs.map Zc.zn)) o w3 hS;rw[HIB.out (by first|rfl|trivial) hoo]at this;exact this)
 obtain⟨sl,hsl⟩:∃sl,(Tr.blr (zs.map Zc.zn)).length=sl:=⟨_,rfl⟩
 rw[hsl]at NH ⊢
 clear hS hsl HIB
 go_wp2_with fail
 refine(NH.out).mono ?_
 rintro e w4 ⟨rfl,b4⟩
 replace HV:=Hd (HV.out.later b4)
 replace HR:=Hd (HR.out.later b4)
 have HB4:=Hd (below_on HB3.out b4)
 clear HB3
 clear b4 NH
 cases ib with
 |true=>
  have hr:=HA.out
  simp[hoo]at hr
  obtain⟨rfl,rfl,rfl⟩:=hr
  have R_0:=HR.out.cell (i:=0) rfl
  have R_1:=HR.out.cell (i:=1) rfl
  have R_2:=HR.out.cell (i:=2) rfl
  have R_3:=HR.out.cell (i:=3) rfl
  have R_f0:=HR.out.free 0
  have R_f1:=HR.out.free 1
  have R_f2:=HR.out.free 2
  have R_f3:=HR.out.free 3
  have hh:w.heap.size≤g+1:=by omega
  have HP:=Hd ((((HR.out.put 0 (.int .i64 0)).put 1 (.int .i64 0)).put 2 (.int .i64 0)).put 3 (.bool false))
  have HQ:=Hd ((((HB4.out.setCell (p:=⟨g+1,0,none⟩) hh (.int .i64 0)).setCell (p:=⟨g+1,1,none⟩) hh (.int .i64 0)).setCell (p:=⟨g+1,2,none⟩) hh (.int .i64 0)).setCell (p:=⟨g+1,3,none⟩) hh (.bool false))
  clear hh
  go_wp2
  exact bodyPost_ret (results_tmp_cell_tmp (t1:=4) (p:=5) (t2:=6) (ty:=52) rfl _ _ (g+1) 52 #[.int .i64 0,.int .i64 0,.int .i64 0,.bool false] _ rfl HP.out Tryz.underlying52 rfl infoWrz) rfl ⟨none,0,rfl,OneB.nil,HQ.out⟩
 |false=>
 cases ok with
 |false=>
  have V_2:=HV.out.cell (i:=2) rfl
  go_wp2_with fail
  refine(NA0.out (by first|rfl|trivial) (by first|rfl|trivial) _ HB4.out).mono ?_
  rintro e w5 ⟨rfl,b5⟩
  clear V_2
  replace HV:=Hd (HV.out.later b5)
  replace HR:=Hd (HR.out.later b5)
  have HB5:=Hd (below_on HB4.out b5)
  clear HB4
  clear b5 NA0 NA1 NG
  obtain⟨gw,hggw⟩:∃gw,w5.heap.size=gw:=⟨_,rfl⟩
  have lt_V_gw:g<gw:=by have:=HV.out.lt;rw[hggw]at this;exact this
  have lt_R_gw:g+1<gw:=by have:=HR.out.lt;rw[hggw]at this;exact this
  have le_gw:w.heap.size≤gw:=by have:=HB5.out.size;rw[hggw]at this;exact this
  go_upto_region 6 with (fail)
  have b6:=below_new (Below.refl w5.heap.size w5) (.cells #[.int .i64 0,.int .i64 0,.int .i64 0,.bool false] 52)
  have hY:=Blk.new w5 52 #[.int .i64 0,.int .i64 0,.int .i64 0,.bool false]
  obtain⟨w6,hw6⟩:∃x,w5.alloc (.cells #[.int .i64 0,.int .i64 0,.int .i64 0,.bool false] 52)=x:=⟨_,rfl⟩
  rw[hw6]at b6 hY
  rw[hw6]
  replace HV:=Hd (HV.out.later b6)
  replace HR:=Hd (HR.out.later b6)
  have HB6:=Hd (below_on HB5.out b6)
  clear HB5
  rw[hggw]at hY
  have HY:=Hd hY
  clear b6 hw6 hY
  have Y_0:=HY.out.cell (i:=0) rfl
  have Y_1:=HY.out.cell (i:=1) rfl
  have Y_2:=HY.out.cell (i:=2) rfl
  have Y_3:=HY.out.cell (i:=3) rfl
  have hr:=HA.out
  simp[hoo]at hr
  obtain⟨rfl,rfl,rfl⟩:=hr
  have R_0:=HR.out.cell (i:=0) rfl
  have R_1:=HR.out.cell (i:=1) rfl
  have R_2:=HR.out.cell (i:=2) rfl
  have R_3:=HR.out.cell (i:=3) rfl
  have R_f0:=HR.out.free 0
  have R_f1:=HR.out.free 1
  have R_f2:=HR.out.free 2
  have R_f3:=HR.out.free 3
  have hh:w.heap.size≤g+1:=by omega
  have HP:=Hd (Blk.drew ((((HR.out.put 0 (.int .i64 0)).put 1 (.int .i64 0)).put 2 (.int .i64 0)).put 3 (.bool false)))
  have HQ:=Hd (Below.drew ((((HB6.out.setCell (p:=⟨g+1,0,none⟩) hh (.int .i64 0)).setCell (p:=⟨g+1,1,none⟩) hh (.int .i64 0)).setCell (p:=⟨g+1,2,none⟩) hh (.int .i64 0)).setCell (p:=⟨g+1,3,none⟩) hh (.bool false)))
  clear hh
  go_wp2_with fail
  go_region
  all_goals
    go_wp2
    exact bodyPost_ret (results_tmp_cell_tmp (t1:=4) (p:=5) (t2:=6) (ty:=52) rfl _ _ (g+1) 52 #[.int .i64 0,.int .i64 0,.int .i64 0,.bool false] _ rfl HP.out Tryz.underlying52 rfl infoWrz) rfl ⟨none,0,rfl,OneB.nil,HQ.out⟩
 |true=>
 have V_2:=HV.out.cell (i:=2) rfl
 go_wp2_with fail
 refine(NA1.out (by first|rfl|trivial) (by first|rfl|trivial) _ HB4.out).mono ?_
 rintro e w5 ⟨rfl,b5⟩
 clear V_2
 replace HV:=Hd (HV.out.later b5)
 replace HR:=Hd (HR.out.later b5)
 have HB5:=Hd (below_on HB4.out b5)
 clear HB4
 clear b5 NA0 NA1
 obtain⟨gw,hggw⟩:∃gw,w5.heap.size=gw:=⟨_,rfl⟩
 have lt_V_gw:g<gw:=by have:=HV.out.lt;rw[hggw]at this;exact this
 have lt_R_gw:g+1<gw:=by have:=HR.out.lt;rw[hggw]at this;exact this
 have le_gw:w.heap.size≤gw:=by have:=HB5.out.size;rw[hggw]at this;exact this
 go_upto_region 6 with (fail)
 have b6:=below_new (Below.refl w5.heap.size w5) (.cells #[.int .i64 a0,.int .i64 a1,.int .i64 a2,.bool a3] 52)
 have hY:=Blk.new w5 52 #[.int .i64 a0,.int .i64 a1,.int .i64 a2,.bool a3]
 obtain⟨w6,hw6⟩:∃x,w5.alloc (.cells #[.int .i64 a0,.int .i64 a1,.int .i64 a2,.bool a3] 52)=x:=⟨_,rfl⟩
 rw[hw6]at b6 hY
 rw[hw6]
 replace HV:=Hd (HV.out.later b6)
 replace HR:=Hd (HR.out.later b6)
 have HB6:=Hd (below_on HB5.out b6)
 clear HB5
 rw[hggw]at hY
 have HY:=Hd hY
 clear b6 hw6 hY
 have Y_0:=HY.out.cell (i:=0) rfl
 have Y_1:=HY.out.cell (i:=1) rfl
 have Y_2:=HY.out.cell (i:=2) rfl
 have Y_3:=HY.out.cell (i:=3) rfl
 cases a3 with
 |true=>
  clear NG
  have hr:=HA.out
  simp[hoo]at hr
  obtain⟨rfl,rfl,rfl⟩:=hr
  have R_0:=HR.out.cell (i:=0) rfl
  have R_1:=HR.out.cell (i:=1) rfl
  have R_2:=HR.out.cell (i:=2) rfl
  have R_3:=HR.out.cell (i:=3) rfl
  have R_f0:=HR.out.free 0
  have R_f1:=HR.out.free 1
  have R_f2:=HR.out.free 2
  have R_f3:=HR.out.free 3
  have hh:w.heap.size≤g+1:=by omega
  have HP:=Hd (Blk.drew ((((HR.out.put 0 (.int .i64 a0)).put 1 (.int .i64 a1)).put 2 (.int .i64 a2)).put 3 (.bool true)))
  have HQ:=Hd (Below.drew ((((HB6.out.setCell (p:=⟨g+1,0,none⟩) hh (.int .i64 a0)).setCell (p:=⟨g+1,1,none⟩) hh (.int .i64 a1)).setCell (p:=⟨g+1,2,none⟩) hh (.int .i64 a2)).setCell (p:=⟨g+1,3,none⟩) hh (.bool true)))
  clear hh
  go_wp2_with fail
  go_region
  all_goals
    go_wp2
    exact bodyPost_ret (results_tmp_cell_tmp (t1:=4) (p:=5) (t2:=6) (ty:=52) rfl _ _ (g+1) 52 #[.int .i64 a0,.int .i64 a1,.int .i64 a2,.bool true] _ rfl HP.out Tryz.underlying52 rfl infoWrz) rfl ⟨none,0,rfl,OneB.nil,HQ.out⟩
 |false=>
 have V_3:=HV.out.cell (i:=3) rfl
 go_wp2_with fail
 refine(NG.out (by first|rfl|trivial) _ HB6.out).mono ?_
 rintro e w7 ⟨v,rfl,ho,b7⟩
 clear Y_0 Y_1 Y_2 Y_3 V_3
 replace HV:=Hd (HV.out.later b7)
 replace HR:=Hd (HR.out.later b7)
 replace HY:=Hd (HY.out.later b7)
 have HB7:=Hd (below_on HB6.out b7)
 clear HB6
 clear b7 NG
 obtain⟨VA,vc,rfl,hB⟩:=OneB.of_own ho HBY.out
 have HG:=Hd hB
 clear ho hB
 have Y_0:=HY.out.cell (i:=0) rfl
 have Y_1:=HY.out.cell (i:=1) rfl
 have Y_2:=HY.out.cell (i:=2) rfl
 have Y_3:=HY.out.cell (i:=3) rfl
 have hr:=HA.out
 simp[hoo]at hr
 obtain⟨rfl,rfl,rfl⟩:=hr
 have R_0:=HR.out.cell (i:=0) rfl
 have R_1:=HR.out.cell (i:=1) rfl
 have R_2:=HR.out.cell (i:=2) rfl
 have R_3:=HR.out.cell (i:=3) rfl
 have R_f0:=HR.out.free 0
 have R_f1:=HR.out.free 1
 have R_f2:=HR.out.free 2
 have R_f3:=HR.out.free 3
 have hh:w.heap.size≤g+1:=by omega
 have HP:=Hd (Blk.drew ((((HR.out.put 0 (.int .i64 a0)).put 1 (.int .i64 a1)).put 2 (.int .i64 a2)).put 3 (.bool false)))
 have HQ:=Hd (Below.drew ((((HB7.out.setCell (p:=⟨g+1,0,none⟩) hh (.int .i64 a0)).setCell (p:=⟨g+1,1,none⟩) hh (.int .i64 a1)).setCell (p:=⟨g+1,2,none⟩) hh (.int .i64 a2)).setCell (p:=⟨g+1,3,none⟩) hh (.bool false)))
 have FHG:=Hd (((((HG.out.near (show Blk _ (g+1) 52 #[.int .i64 0,.int .i64 0,.int .i64 0,.bool false] from HR.out) rfl 0 (.int .i64 a0)).near (show Blk _ (g+1) 52 #[.int .i64 a0,.int .i64 0,.int .i64 0,.bool false] from(HR.out.put 0 (.int .i64 a0))) rfl 1 (.int .i64 a1)).near (show Blk _ (g+1) 52 #[.int .i64 a0,.int .i64 a1,.int .i64 0,.bool false] from((HR.out.put 0 (.int .i64 a0)).put 1 (.int .i64 a1))) rfl 2 (.int .i64 a2)).near (show Blk _ (g+1) 52 #[.int .i64 a0,.int .i64 a1,.int .i64 a2,.bool false] from(((HR.out.put 0 (.int .i64 a0)).put 1 (.int .i64 a1)).put 2 (.int .i64 a2))) rfl 3 (.bool false)).later (Below.drew (Below.refl _ _)))
 clear hh
 go_wp2_with fail
 go_region
 all_goals
  go_wp2
  exact bodyPost_ret (results_tmp_cell_tmp (t1:=4) (p:=5) (t2:=6) (ty:=52) rfl _ _ (g+1) 52 #[.int .i64 a0,.int .i64 a1,.int .i64 a2,.bool false] _ rfl HP.out Tryz.underlying52 rfl infoWrz) rfl ⟨VA,vc,rfl,FHG.out,HQ.out⟩
set_option maxRecDepth 100000 in
set_option maxHeartbeats 6400000 in
theorem dnofN_any(A:Option Addr)(c:Nat)(l:List (Int × Int))(y:Wr)(w:World)(hl16:l.length*16≤140737488355328)(h1:OneL w A c l) :
  Calls Tryz.prog 107 #[.slice A l.length c,.agg (Nt.wrArr y)] w (AnsNN (ofN l y).1 (ofN l y).2 w):=by
 obtain⟨W,hW⟩:∃W,(w.alloc (.cells (Nt.wrArr y) 52)).alloc (.cells #[.slice none 0 0,.slice none 0 0,.slice none 0 0,.slice none 0 0] 40)=W:=⟨_,rfl⟩
 have hb0:Below w.heap.size w W:=by rw[←hW];exact below_new (below_new (Below.refl _ _) _) _
 have hB0:Blk W w.heap.size 52 (Nt.wrArr y):=by rw[←hW];exact(Blk.new w _ _).alloc _
 have hB1:Blk W (w.heap.size+1) 40 #[.slice none 0 0,.slice none 0 0,.slice none 0 0,.slice none 0 0]:=by
  rw[←hW,show w.heap.size+1=(w.alloc (.cells (Nt.wrArr y) 52)).heap.size from by simp]
  exact Blk.new _ _ _
 obtain⟨⟨c0,c1,c2,c3⟩,-⟩:=wr_cells hB0
 have HB1:=Hd hB1
 have hL:=h1.later hb0
 have N0:=Hd (formed_any A c l W hL)
 have N1:=Hd (fun wx=>right_any y.1 y.2.1 wx)
 have N2:=Hd (fun wx (hb:Below W.heap.size W wx)=>has_any A c l y.1 y.2.1 wx (hL.later hb))
 have HL:=Hd hL
 have HT:=Hd (show ofN l y=if (Ve.fmd l=true∧St.rgt y.1 y.2.1=true)∧(0≤y.2.2.1∧y.2.2.1≤255)∧hasOf l y.1 y.2.1=false then (⟨l,Ve.joinL [l,[(y.1,y.2.1)]],[],[y]⟩,0) else (noNote,1) from rfl)
 obtain⟨x0,hx0⟩:∃x,Ve.fmd l=x:=⟨_,rfl⟩
 obtain⟨x1,hx1⟩:∃x,St.rgt y.1 y.2.1=x:=⟨_,rfl⟩
 obtain⟨x2,hx2⟩:∃x,hasOf l y.1 y.2.1=x:=⟨_,rfl⟩
 rw[hx0]at N0 HT
 rw[hx1]at N1 HT
 rw[hx2]at N2 HT
 have HW0:=Hd hW
 clear hW hB0 hB1 h1 hL hx0 hx1 hx2
 have fin:∀w1,Below W.heap.size W w1→ofN l y=(noNote,1)→AnsNN (ofN l y).1 (ofN l y).2 w (.returned (.tuple #[.agg (noteCells none none none none 0 0 0 0 noNote),.int .i64 1])) ((((w1.setCell ⟨w.heap.size+1,0,none⟩ (.slice none 0 0)).setCell ⟨w.heap.size+1,1,none⟩ (.slice none 0 0)).setCell ⟨w.heap.size+1,2,none⟩ (.slice none 0 0)).setCell ⟨w.heap.size+1,3,none⟩ (.slice none 0 0)):=fun w1 hb he=>by
  rw[he]
  exact⟨_,_,_,_,_,_,_,_,rfl,noNote_at _,Lo.none,below_puts (below_on hb0 hb) (by omega) _ _ _ _⟩
 have FIN:=Hd fin
 clear fin
 have NO:=Hd (fun wx=>nisObject_any y.2.2.1 wx)
 have HOB:=Hd (show(0≤y.2.2.1∧y.2.2.1≤255)↔decide (0≤y.2.2.1∧y.2.2.1≤255)=true from decide_eq_true_iff.symm)
 obtain⟨xo,hxo⟩:∃x,decide (0≤y.2.2.1∧y.2.2.1≤255)=x:=⟨_,rfl⟩
 rw[hxo]at NO HOB
 clear hxo
 have hcs:(x0=false)∨(x0=true∧x1=false)∨(x0=true∧x1=true∧xo=false)∨(x0=true∧x1=true∧xo=true∧x2=true)∨(x0=true∧x1=true∧xo=true∧x2=false):=by
  cases x0<;>cases x1<;>cases xo<;>cases x2<;>simp
 rcases hcs with rfl|⟨rfl,rfl⟩|⟨rfl,rfl,rfl⟩|⟨rfl,rfl,rfl,rfl⟩|⟨rfl,rfl,rfl,rfl⟩
 ·have HT2:=Hd (HT.out.trans (if_neg (fun h=>by cases h.1.1)))
  go_enter Tryz.func107,Tryz.ntmps107
  go_wp2_with fail
  rw[HW0.out]
  refine N0.out.mono ?_
  rintro e w1 ⟨rfl,b1⟩
  have hq:=HB1.out.later b1
  obtain⟨⟨z0,z1,z2,z3⟩,r0,r1,r2,r3⟩:=nt_cells hq
  have HQ:=Hd hq
  clear hq
  go_wp2
  exact bodyPost_ret (results_cell_tmp (p:=4) (t1:=5) (ty:=40) rfl _ _ (w.heap.size+1) 40 (noteCells none none none none 0 0 0 0 noNote) _ rfl (nt_puts HQ.out none none none none 0 0 0 0 noNote) Tryz.underlying40 rfl infoNt) rfl (FIN.out _ b1 HT2.out)
 ·have HT2:=Hd (HT.out.trans (if_neg (fun h=>by cases h.1.2)))
  go_enter Tryz.func107,Tryz.ntmps107
  go_wp2_with fail
  rw[HW0.out]
  refine N0.out.mono ?_
  rintro e w1 ⟨rfl,b1⟩
  have m0:=cell_later b1 c0
  have m1:=cell_later b1 c1
  go_wp2_with fail
  refine(N1.out _).mono ?_
  rintro e w2 ⟨rfl,b2⟩
  have bb2:=below_on b1 b2
  have hq:=HB1.out.later bb2
  obtain⟨⟨z0,z1,z2,z3⟩,r0,r1,r2,r3⟩:=nt_cells hq
  have HQ:=Hd hq
  clear hq
  go_wp2
  exact bodyPost_ret (results_cell_tmp (p:=4) (t1:=5) (ty:=40) rfl _ _ (w.heap.size+1) 40 (noteCells none none none none 0 0 0 0 noNote) _ rfl (nt_puts HQ.out none none none none 0 0 0 0 noNote) Tryz.underlying40 rfl infoNt) rfl (FIN.out _ bb2 HT2.out)
 ·have HT2:=Hd (HT.out.trans (if_neg (fun h=>by have:=HOB.out.1 h.2.1;cases this)))
  go_enter Tryz.func107,Tryz.ntmps107
  go_wp2_with fail
  rw[HW0.out]
  refine N0.out.mono ?_
  rintro e w1 ⟨rfl,b1⟩
  have m0:=cell_later b1 c0
  have m1:=cell_later b1 c1
  go_wp2_with fail
  refine(N1.out _).mono ?_
  rintro e w2 ⟨rfl,b2⟩
  have bb2:=below_on b1 b2
  have m2:=cell_later bb2 c2
  go_wp2_with fail
  refine(NO.out _).mono ?_
  rintro e w3 ⟨rfl,b3⟩
  have bb3:=below_on bb2 b3
  have hq:=HB1.out.later bb3
  obtain⟨⟨z0,z1,z2,z3⟩,r0,r1,r2,r3⟩:=nt_cells hq
  have HQ:=Hd hq
  clear hq
  go_wp2
  exact bodyPost_ret (results_cell_tmp (p:=4) (t1:=5) (ty:=40) rfl _ _ (w.heap.size+1) 40 (noteCells none none none none 0 0 0 0 noNote) _ rfl (nt_puts HQ.out none none none none 0 0 0 0 noNote) Tryz.underlying40 rfl infoNt) rfl (FIN.out _ bb3 HT2.out)
 ·have HT2:=Hd (HT.out.trans (if_neg (fun h=>by cases h.2.2)))
  go_enter Tryz.func107,Tryz.ntmps107
  go_wp2_with fail
  rw[HW0.out]
  refine N0.out.mono ?_
  rintro e w1 ⟨rfl,b1⟩
  have m0:=cell_later b1 c0
  have m1:=cell_later b1 c1
  go_wp2_with fail
  refine(N1.out _).mono ?_
  rintro e w2 ⟨rfl,b2⟩
  have bb2:=below_on b1 b2
  have m2:=cell_later bb2 c2
  go_wp2_with fail
  refine(NO.out _).mono ?_
  rintro e w3 ⟨rfl,b3⟩
  have bb3:=below_on bb2 b3
  have m00:=cell_later bb3 c0
  have m11:=cell_later bb3 c1
  go_wp2_with fail
  refine(N2.out _ bb3).mono ?_
  rintro e w4 ⟨rfl,b4⟩
  have bb4:=below_on bb3 b4
  have hq:=HB1.out.later bb4
  obtain⟨⟨z0,z1,z2,z3⟩,r0,r1,r2,r3⟩:=nt_cells hq
  have HQ:=Hd hq
  clear hq
  go_wp2
  exact bodyPost_ret (results_cell_tmp (p:=4) (t1:=5) (ty:=40) rfl _ _ (w.heap.size+1) 40 (noteCells none none none none 0 0 0 0 noNote) _ rfl (nt_puts HQ.out none none none none 0 0 0 0 noNote) Tryz.underlying40 rfl infoNt) rfl (FIN.out _ bb4 HT2.out)
 ·have HT2:=Hd (HT.out.trans (if_pos ⟨⟨rfl,rfl⟩,HOB.out.2 rfl,rfl⟩))
  go_enter Tryz.func107,Tryz.ntmps107
  go_wp2_with fail
  rw[HW0.out]
  refine N0.out.mono ?_
  rintro e w1 ⟨rfl,b1⟩
  have m0:=cell_later b1 c0
  have m1:=cell_later b1 c1
  go_wp2_with fail
  refine(N1.out _).mono ?_
  rintro e w2 ⟨rfl,b2⟩
  have bb2:=below_on b1 b2
  have m2:=cell_later bb2 c2
  go_wp2_with fail
  refine(NO.out _).mono ?_
  rintro e w3 ⟨rfl,b3⟩
  have bb3:=below_on bb2 b3
  have m00:=cell_later bb3 c0
  have m11:=cell_later bb3 c1
  go_wp2_with fail
  refine(N2.out _ bb3).mono ?_
  rintro e w4 ⟨rfl,b4⟩
  have bb4:=below_on bb3 b4
  go_wp2_with fail
  have p0:=cell_later bb4 c0
  have p1:=cell_later bb4 c1
  have p2:=cell_later bb4 c2
  have p3:=cell_later bb4 c3
  have hL3:=HL.out.later bb4
  have NC:=Hd (fun wx (hb:Below w4.heap.size w4 wx)=>(cloneS_any A c l wx hl16 (hL3.later hb)).mono fun _ _ hg=>hg.one)
  have NW:=Hd (fun wx (hb:Below w4.heap.size w4 wx)=>(with_any A c l y.1 y.2.1 wx (hL3.later hb)).mono fun _ _ hg=>hg.one)
  clear hL3
  refine wp_region_facts 8 (by kernel_rfl) (by kernel_rfl)
   (fun v=>{ tmps:=#[.slice A l.length c,.agg (Nt.wrArr y),undef,.pointer (some ⟨w.heap.size,0,none⟩),.pointer (some ⟨w.heap.size+1,0,none⟩),.int .i64 0,.slice A l.length c,.bool true,.bool false,.bool false,.pointer (some ⟨w.heap.size,0,none⟩),.agg #[.int .i64 y.1,.int .i64 y.2.1],.bool true,.bool false,.bool false,.bool false,.pointer (some ⟨w.heap.size,2,none⟩),.int .i64 y.2.2.1,.bool true,.bool false,.bool false,.bool false,.slice A l.length c,.pointer (some ⟨w.heap.size,0,none⟩),.agg #[.int .i64 y.1,.int .i64 y.2.1],.bool false,.bool false,undef,v 0,v 1,v 2,v 3,v 4,v 5,v 6,v 7,undef],defers:=[] }) (fun _=>undef)
   (fun i x wx=>match i with
    |0=>x = .slice A l.length c
    |1=>∃A' c',x = .slice A' l.length c'∧OneL wx A' c' l
    |2=>x = .slice A l.length c
    |3=>x = .pointer (some ⟨w.heap.size,0,none⟩)
    |4=>x = .agg #[.int .i64 y.1,.int .i64 y.2.1]
    |5=>∃A' c',x = .slice A' (Ve.joinL [l,[(y.1,y.2.1)]]).length c'∧OneL wx A' c' (Ve.joinL [l,[(y.1,y.2.1)]])
    |6=>x = .agg #[.int .i64 y.1,.int .i64 y.2.1,.int .i64 y.2.2.1,.bool y.2.2.2]
    |7=>∃A c,x = .slice A [y].length c∧OneW wx A c [y]∧Lo w.heap.size A
    |_=>True)
   (fun w1 w2=>Below w1.heap.size w1 w2) (fun h1 h2=>below_on h1 h2) (fun _=>Below.refl _ _) (Below.drew (Below.refl _ _)) ?stab ?step ?done
  case stab=>
   rintro i x w1 w2 h hb
   match i,h with
   |0,h=>exact h
   |1,h=>obtain⟨A,c,h1,h2⟩:=h;exact⟨A,c,h1,h2.later hb⟩
   |2,h=>exact h
   |3,h=>exact h
   |4,h=>exact h
   |5,h=>obtain⟨A,c,h1,h2⟩:=h;exact⟨A,c,h1,h2.later hb⟩
   |6,h=>exact h
   |7,h=>obtain⟨A,c,h1,h2,h3⟩:=h;exact⟨A,c,h1,h2.later hb,h3⟩
   |i+8,_=>trivial
  case step=>
   intro i hi v w' hb hd
   match i,hi with
   |0,_=>
    refine wpOp_one rfl ?_
    clear hd
    go_wp2
    first|exact⟨_,(by simp[upd];done),Below.refl _ _,rfl⟩|exact⟨(by simp[upd];done),Below.refl _ _⟩
   |1,_=>
    have h0:v 0=_:=hdx hd 0 (by kernel_rfl)
    refine wpOp_one rfl ?_
    clear hd
    rw[h0]
    go_wp2_with fail
    refine(NC.out _ hb).mono ?_
    rintro e w'' hg
    obtain⟨A,c,rfl,ho,b⟩:=hg
    go_wp2
    exact⟨_,(by simp[upd,h0];done),b,A,c,rfl,ho⟩
   |2,_=>
    refine wpOp_one rfl ?_
    clear hd
    go_wp2
    first|exact⟨_,(by simp[upd];done),Below.refl _ _,rfl⟩|exact⟨(by simp[upd];done),Below.refl _ _⟩
   |3,_=>
    refine wpOp_one rfl ?_
    clear hd
    go_wp2
    first|exact⟨_,(by simp[upd];done),Below.refl _ _,rfl⟩|exact⟨(by simp[upd];done),Below.refl _ _⟩
   |4,_=>
    have h3:v 3=_:=hdx hd 3 (by kernel_rfl)
    refine wpOp_one rfl ?_
    clear hd
    rw[h3]
    have q0:=cell_later hb p0
    have q1:=cell_later hb p1
    go_wp2
    first|exact⟨_,(by simp[upd,h3];done),Below.refl _ _,rfl⟩|exact⟨(by simp[upd,h3];done),Below.refl _ _⟩
   |5,_=>
    have h2:v 2=_:=hdx hd 2 (by kernel_rfl)
    have h4:v 4=_:=hdx hd 4 (by kernel_rfl)
    refine wpOp_one rfl ?_
    clear hd
    rw[h2,h4]
    go_wp2_with fail
    refine(NW.out _ hb).mono ?_
    rintro e w'' hg
    obtain⟨A,c,rfl,ho,b⟩:=hg
    go_wp2
    exact⟨_,(by simp[upd,h2,h4];done),b,A,c,rfl,ho⟩
   |6,_=>
    refine wpOp_one rfl ?_
    clear hd
    have q0:=cell_later hb p0
    have q1:=cell_later hb p1
    have q2:=cell_later hb p2
    have q3:=cell_later hb p3
    go_wp2
    first|exact⟨_,(by simp[upd];done),Below.refl _ _,rfl⟩|exact⟨(by simp[upd];done),Below.refl _ _⟩
   |7,_=>
    have h6:v 6=_:=hdx hd 6 (by kernel_rfl)
    refine wpOp_one rfl ?_
    clear hd
    rw[h6]
    have hz:=hb.size
    have hz9:=(below_on hb0 (below_on bb4 hb)).size
    go_wp2
    exact⟨_,(by simp[upd,h6];done),below_new (Below.refl _ _) _,some ⟨w'.heap.size,0,none⟩,1,rfl,one_write (Blk.new w' _ _),Lo.new hz9 0⟩
  case done=>
   intro v w' hb hf
   obtain⟨A2,k2,h2,o2⟩:=hf 1 (by omega)
   obtain⟨A5,k5,h5,o5⟩:=hf 5 (by omega)
   obtain⟨A7,k7,h7,o7,l7⟩:=hf 7 (by omega)
   have HO:=Hd (show NoteAt w' A2 A5 none A7 k2 k5 0 k7 ⟨l,Ve.joinL [l,[(y.1,y.2.1)]],[],[y]⟩ from NoteAt.mk o2 o5 OneL.nil o7)
   have hB:=HB1.out.later (below_on bb4 hb)
   have hbw:=below_on hb0 (below_on bb4 hb)
   clear o2 o5 o7 hf
   simp only[List.drop_succ_cons,List.drop_zero]
   rw[h2,h5,h7]
   obtain⟨⟨z0,z1,z2,z3⟩,r0,r1,r2,r3⟩:=nt_cells hB
   go_wp2
   have hN4:=HO.out.puts hB ⟨rfl,rfl,rfl,rfl⟩ (.slice A2 l.length k2) (.slice A5 (Ve.joinL [l,[(y.1,y.2.1)]]).length k5) (.slice none 0 0) (.slice A7 1 k7) ⟨rfl,rfl,rfl⟩
   refine bodyPost_ret (results_cell_tmp (p:=4) (t1:=5) (ty:=40) rfl _ _ (w.heap.size+1) 40 (noteCells A2 A5 none A7 k2 k5 0 k7 ⟨l,Ve.joinL [l,[(y.1,y.2.1)]],[],[y]⟩) _ rfl (nt_puts hB A2 A5 none A7 k2 k5 0 k7 ⟨l,Ve.joinL [l,[(y.1,y.2.1)]],[],[y]⟩) Tryz.underlying40 rfl infoNt) rfl ?_
   rw[HT2.out]
   exact⟨_,_,_,_,_,_,_,_,rfl,hN4,l7,below_puts hbw (by omega) _ _ _ _⟩
end Go.Proofs.YtjlfehpockfkdaaGreat
namespace Go.Proofs.YtjlfehpockfkdaaGreat
open Go.RowKit
def NextPost(c n k:Int)(w:World)(e:Ending)(w':World):Prop:=
 e = .returned (.tuple #[.agg #[.int .i64 (St.nextC c n k),.int .i64 (St.nextN c n k)],.int .i64 (St.nextE c n k)])∧Below w.heap.size w w'
theorem NextPost.mk'{c n k:Int}{w w':World}{c' n' e':Int}(h:St.nextC c n k=c'∧St.nextN c n k=n'∧St.nextE c n k=e')(hg:Below w.heap.size w w') :
  NextPost c n k w (.returned (.tuple #[.agg #[.int .i64 c',.int .i64 n'],.int .i64 e'])) w':=by
 obtain⟨rfl,rfl,rfl⟩:=h
 exact⟨rfl,hg⟩
theorem next_neg(c n k:Int)(w:World)(h:c<0):Calls Tryz.prog 105 #[.int .i64 c,.int .i64 n,.int .i64 k] w (NextPost c n k w):=by
 have h0:=St.next_bad (c:=c) (n:=n) (k:=k) (by intro hh;omega)
 have H0:=Hd h0;clear h0
 have hd:decide (c<0)=true:=decide_eq_true h
 go_enter Tryz.func105,Tryz.ntmps105
 go_wp2
 exact bodyPost_ret (v :=.tuple #[.agg #[.int .i64 0,.int .i64 0],.int .i64 1]) (by simp[results,Tryz.results105,go_sem]) rfl (NextPost.mk' H0.out (by repeat (first|exact Below.refl _ _|exact Nat.le_refl _|(apply Below.drew)|(refine Below.alloc ?_ ?_ _)|(refine Below.setCell ?_ ?_ _)|(simp;done)|(simp;omega))))
theorem next_node(c n k:Int)(w:World)(h:0≤c)(hn:St.rgtN n=false):Calls Tryz.prog 105 #[.int .i64 c,.int .i64 n,.int .i64 k] w (NextPost c n k w):=by
 have h0:=St.next_bad (c:=c) (n:=n) (k:=k) (by intro hh;rw[hn]at hh;exact absurd hh.1 (by decide))
 have H0:=Hd h0;clear h0
 have hd:decide (c<0)=false:=decide_eq_false (by omega)
 go_enter Tryz.func105,Tryz.ntmps105
 go_wp2_with (go_at_call 158;refine(rightNode_any _ _).mono ?_;rintro e w' ⟨rfl,rfl⟩)
 exact bodyPost_ret (v :=.tuple #[.agg #[.int .i64 0,.int .i64 0],.int .i64 1]) (by simp[results,Tryz.results105,go_sem]) rfl (NextPost.mk' H0.out (by repeat (first|exact Below.refl _ _|exact Nat.le_refl _|(apply Below.drew)|(refine Below.alloc ?_ ?_ _)|(refine Below.setCell ?_ ?_ _)|(simp;done)|(simp;omega))))
theorem next_skip(c n k:Int)(w:World)(h:0≤c)(hn:St.rgtN n=true)(hk:k<0):Calls Tryz.prog 105 #[.int .i64 c,.int .i64 n,.int .i64 k] w (NextPost c n k w):=by
 have h0:=St.next_bad (c:=c) (n:=n) (k:=k) (by intro hh;omega)
 have H0:=Hd h0;clear h0
 have hd:decide (c<0)=false:=decide_eq_false (by omega)
 have hd2:decide (k<0)=true:=decide_eq_true hk
 go_enter Tryz.func105,Tryz.ntmps105
 go_wp2_with (go_at_call 158;refine(rightNode_any _ _).mono ?_;rintro e w' ⟨rfl,rfl⟩)
 exact bodyPost_ret (v :=.tuple #[.agg #[.int .i64 0,.int .i64 0],.int .i64 1]) (by simp[results,Tryz.results105,go_sem]) rfl (NextPost.mk' H0.out (by repeat (first|exact Below.refl _ _|exact Nat.le_refl _|(apply Below.drew)|(refine Below.alloc ?_ ?_ _)|(refine Below.setCell ?_ ?_ _)|(simp;done)|(simp;omega))))
theorem next_over(c n k:Int)(w:World)(h:0≤c)(hn:St.rgtN n=true)(hk:0≤k)(hc:c≤9223372036854775807)(ho:¬c+k≤9223372036854775806):Calls Tryz.prog 105 #[.int .i64 c,.int .i64 n,.int .i64 k] w (NextPost c n k w):=by
 have h0:=St.next_over (c:=c) (n:=n) (k:=k) hn h hk ho
 have H0:=Hd h0;clear h0
 have hd:decide (c<0)=false:=decide_eq_false (by omega)
 have hd2:decide (k<0)=false:=decide_eq_false (by omega)
 go_enter Tryz.func105,Tryz.ntmps105
 go_wp2_with (go_at_call 158;refine(rightNode_any _ _).mono ?_;rintro e w' ⟨rfl,rfl⟩)
 exact bodyPost_ret (v :=.tuple #[.agg #[.int .i64 0,.int .i64 0],.int .i64 2]) (by simp[results,Tryz.results105,go_sem]) rfl (NextPost.mk' H0.out (by repeat (first|exact Below.refl _ _|exact Nat.le_refl _|(apply Below.drew)|(refine Below.alloc ?_ ?_ _)|(refine Below.setCell ?_ ?_ _)|(simp;done)|(simp;omega))))
theorem next_ok(c n k:Int)(w:World)(h:0≤c)(hn:St.rgtN n=true)(hk:0≤k)(ho:c+k≤9223372036854775806):Calls Tryz.prog 105 #[.int .i64 c,.int .i64 n,.int .i64 k] w (NextPost c n k w):=by
 have h0:=St.next_ok (c:=c) (n:=n) (k:=k) hn h hk ho
 have H0:=Hd h0;clear h0
 have hd:decide (c<0)=false:=decide_eq_false (by omega)
 have hd2:decide (k<0)=false:=decide_eq_false (by omega)
 go_enter Tryz.func105,Tryz.ntmps105
 go_wp2_with (go_at_call 158;refine(rightNode_any _ _).mono ?_;rintro e w' ⟨rfl,rfl⟩)
 exact bodyPost_ret (v :=.tuple #[.agg #[.int .i64 (c+1+k),.int .i64 n],.int .i64 0]) (by simp[results,Tryz.results105,go_sem]) rfl (NextPost.mk' H0.out (by repeat (first|exact Below.refl _ _|exact Nat.le_refl _|(apply Below.drew)|(refine Below.alloc ?_ ?_ _)|(refine Below.setCell ?_ ?_ _)|(simp;done)|(simp;omega))))
theorem next_any(c n k:Int)(w:World)(hc:c≤9223372036854775807):Calls Tryz.prog 105 #[.int .i64 c,.int .i64 n,.int .i64 k] w (NextPost c n k w):=by
 by_cases h:c<0
 ·exact next_neg c n k w h
 cases hn:St.rgtN n
 ·exact next_node c n k w (by omega) hn
 by_cases hk:k<0
 ·exact next_skip c n k w (by omega) hn hk
 by_cases ho:c+k≤9223372036854775806
 ·exact next_ok c n k w (by omega) hn (by omega) ho
 ·exact next_over c n k w (by omega) hn (by omega) hc ho
end Go.Proofs.YtjlfehpockfkdaaGreat
namespace Go.Proofs.YtjlfehpockfkdaaGreat
open Go.RowKit Fb
section
variable {P:Program}
theorem results_cell_cell_tmp{fn:Func}{p1 p2 t:Tmp}{ty1 ty2:TypeId}(h:fn.results=#[.cell p1 ty1,.cell p2 ty2,.tmp t])(tmps:Array Value)(w:World)(g1 g2:Nat)(t1 t2:TypeId)(cs1 cs2:Array Value)(d1 d2:TypeDesc)
  (hp1:tmps.getD p1 undef = .pointer (some ⟨g1,0,none⟩))(hp2:tmps.getD p2 undef = .pointer (some ⟨g2,0,none⟩))(hg1:Blk w g1 t1 cs1)(hg2:Blk w g2 t2 cs2)
  (hu1:P.underlying ty1=some d1)(hd1:(match d1 with | .struct _ | .array _ _=>true|_=>false)=true)(hi1:(P.info? ty1).map (·.size)=some cs1.size)
  (hu2:P.underlying ty2=some d2)(hd2:(match d2 with | .struct _ | .array _ _=>true|_=>false)=true)(hi2:(P.info? ty2).map (·.size)=some cs2.size) :
  (results fn tmps).run P w = .ok (.tuple #[.agg cs1,.agg cs2,tmps.getD t undef]) w:=by
 have hp1':tmps[p1]?.getD undef = .pointer (some ⟨g1,0,none⟩):=by simpa using hp1
 have hp2':tmps[p2]?.getD undef = .pointer (some ⟨g2,0,none⟩):=by simpa using hp2
 simp[results,h,hp1',hp2',asAddr,run_loadVar_row w g1 t1 ty1 cs1 (0,0) d1 hg1 hu1 hd1 hi1,run_loadVar_row w g2 t2 ty2 cs2 (0,0) d2 hg2 hu2 hd2 hi2]
end
theorem NoteAt.farQ{w:World}{S E B V:Option Addr}{cs ce cb cv:Nat}{n:Note}(h:NoteAt w S E B V cs ce cb cv n){g:Nat}{t:TypeId}{cs':Array Value}(hB:Blk w g t cs')(hd:dull cs'=true)(i:Nat)(v:Value):NoteAt (w.setCell ⟨g,i,none⟩ v) S E B V cs ce cb cv n:=NoteAt.mild h (Mild.put hB hd i v)
def Vd.Two(W0 w w':World)(r n:Nat)(cs ds:Array Value):Prop:=Blk w' r 27 cs∧Blk w' n 40 ds∧Below W0.heap.size W0 w'∧Mild w w'
theorem Vd.two{W0 w:World}{r n:Nat}{c0 c1 c2 c3 c4 e0 e1 e2 e3:Value}(v0 v1 v2 v3 v4 m0 m1 m2 m3:Value)(hr:Blk w r 27 #[c0,c1,c2,c3,c4])(hn:Blk w n 40 #[e0,e1,e2,e3])(hne:r≠n)(hb:Below W0.heap.size W0 w)(h1:W0.heap.size≤r)(h2:W0.heap.size≤n)
  (hd:dull #[c0,c1,c2,c3,c4]=true∧dull #[v0,c1,c2,c3,c4]=true∧dull #[v0,v1,c2,c3,c4]=true∧dull #[v0,v1,v2,c3,c4]=true∧dull #[v0,v1,v2,v3,c4]=true∧dull #[e0,e1,e2,e3]=true∧dull #[m0,e1,e2,e3]=true∧dull #[m0,m1,e2,e3]=true∧dull #[m0,m1,m2,e3]=true) :
  Vd.Two W0 w (((((((((w.setCell ⟨r,0,none⟩ v0).setCell ⟨r,1,none⟩ v1).setCell ⟨r,2,none⟩ v2).setCell ⟨r,3,none⟩ v3).setCell ⟨r,4,none⟩ v4).setCell ⟨n,0,none⟩ m0).setCell ⟨n,1,none⟩ m1).setCell ⟨n,2,none⟩ m2).setCell ⟨n,3,none⟩ m3) r n #[v0,v1,v2,v3,v4] #[m0,m1,m2,m3]:=by
 obtain⟨d0,d1,d2,d3,d4,d5,d6,d7,d8⟩:=hd
 have r1:Blk _ r 27 #[v0,c1,c2,c3,c4]:=hr.put 0 v0
 have r2:Blk _ r 27 #[v0,v1,c2,c3,c4]:=r1.put 1 v1
 have r3:Blk _ r 27 #[v0,v1,v2,c3,c4]:=r2.put 2 v2
 have r4:Blk _ r 27 #[v0,v1,v2,v3,c4]:=r3.put 3 v3
 have r5:Blk _ r 27 #[v0,v1,v2,v3,v4]:=r4.put 4 v4
 have n5:=((((hn.far (p:=⟨r,0,none⟩) hne.symm v0).far (p:=⟨r,1,none⟩) hne.symm v1).far (p:=⟨r,2,none⟩) hne.symm v2).far (p:=⟨r,3,none⟩) hne.symm v3).far (p:=⟨r,4,none⟩) hne.symm v4
 have n6:Blk _ n 40 #[m0,e1,e2,e3]:=n5.put 0 m0
 have n7:Blk _ n 40 #[m0,m1,e2,e3]:=n6.put 1 m1
 have n8:Blk _ n 40 #[m0,m1,m2,e3]:=n7.put 2 m2
 have n9:Blk _ n 40 #[m0,m1,m2,m3]:=n8.put 3 m3
 refine⟨(((r5.far (p:=⟨n,0,none⟩) hne m0).far (p:=⟨n,1,none⟩) hne m1).far (p:=⟨n,2,none⟩) hne m2).far (p:=⟨n,3,none⟩) hne m3,n9,?_,?_⟩
 ·exact((((((((hb.setCell (p:=⟨r,0,none⟩) h1 v0).setCell (p:=⟨r,1,none⟩) h1 v1).setCell (p:=⟨r,2,none⟩) h1 v2).setCell (p:=⟨r,3,none⟩) h1 v3).setCell (p:=⟨r,4,none⟩) h1 v4).setCell (p:=⟨n,0,none⟩) h2 m0).setCell (p:=⟨n,1,none⟩) h2 m1).setCell (p:=⟨n,2,none⟩) h2 m2).setCell (p:=⟨n,3,none⟩) h2 m3
 ·exact(Mild.put hr d0 0 v0).trans ((Mild.put r1 d1 1 v1).trans ((Mild.put r2 d2 2 v2).trans ((Mild.put r3 d3 3 v3).trans ((Mild.put r4 d4 4 v4).trans ((Mild.put n5 d5 0 m0).trans ((Mild.put n6 d6 1 m1).trans ((Mild.put n7 d7 2 m2).trans (Mild.put n8 d8 3 m3))))))))
theorem Vd.two_drew{W0 w w':World}{r n:Nat}{cs ds:Array Value}(h:Vd.Two W0 w w' r n cs ds):Vd.Two W0 w w'.drew r n cs ds:=
 ⟨Blk.drew h.1,Blk.drew h.2.1,Below.drew h.2.2.1,h.2.2.2.trans (Mild.below (Below.drew (Below.refl _ _)))⟩
namespace Vw
theorem write_parts{v:Vw}(hv:Ok v){me o skip:Int}{gone:Bool}(ho:0≤o∧o≤255)(c2:(nxt v me skip).2=0) :
  ofN v.k ((nxt v me skip).1.1,(nxt v me skip).1.2,o,gone)=(noteR v me o skip gone,0)∧(takeR v (noteR v me o skip gone)).2=0:=by
 have hst:St.rgtN me=true∧0≤Ve.top (Ve.cnt v.k)∧0≤skip:=by
  apply Classical.byContradiction
  intro hc
  have c2:St.nextE (Ve.top (Ve.cnt v.k)) me skip=0:=c2
  unfold St.nextE at c2
  rw[if_neg hc]at c2
  cases c2
 have hov:Ve.top (Ve.cnt v.k)+skip≤9223372036854775806:=by
  apply Classical.byContradiction
  intro hc
  have c2:St.nextE (Ve.top (Ve.cnt v.k)) me skip=0:=c2
  unfold St.nextE at c2
  rw[if_pos hst,if_neg hc]at c2
  cases c2
 have hn1:(nxt v me skip).1=(Ve.top (Ve.cnt v.k)+1+skip,me):=by
  have h1:=St.next_ok hst.1 hst.2.1 hst.2.2 hov
  show(St.nextC (Ve.top (Ve.cnt v.k)) me skip,St.nextN (Ve.top (Ve.cnt v.k)) me skip)=_
  rw[h1.1,h1.2.1]
 have hme:0≤me∧me≤63:=of_decide_eq_true hst.1
 obtain⟨c,hc⟩:∃c,Ve.top (Ve.cnt v.k)+1+skip=c:=⟨_,rfl⟩
 rw[hc]at hn1
 have hrg:St.rgt c me=true:=decide_eq_true ⟨by omega,hme⟩
 have hno:hasOf v.k c me=false:=by
  unfold hasOf
  have h1:=Ve.le_top (Ve.cnt v.k) 64 me.toNat (by omega)
  have h2:countOf v.k me=Ve.cnt v.k me.toNat:=by unfold countOf;rw[if_pos hme]
  rw[h2,hrg,Bool.true_and,decide_eq_false]
  have h3:Ve.top (Ve.cnt v.k)=Ve.topTo (Ve.cnt v.k) 64:=rfl
  omega
 have hnt:noteR v me o skip gone=⟨v.k,Ve.joinL [v.k,[(c,me)]],[],[(c,me,o,gone)]⟩:=by
  unfold noteR ofN
  rw[hn1]
  dsimp only
  rw[if_pos ⟨⟨hv.k,hrg⟩,⟨ho.1,ho.2⟩,hno⟩]
 have hfm:Nt.fmd (noteR v me o skip gone)=true:=by
  rw[hnt]
  have hcn:countOf (Ve.joinL [v.k,[(c,me)]]) me=c:=by
   have h1:=Ve.le_top (Ve.cnt v.k) 64 me.toNat (by omega)
   have h3:Ve.top (Ve.cnt v.k)=Ve.topTo (Ve.cnt v.k) 64:=rfl
   have h4:Ve.cnt [(c,me)] me.toNat=c:=by
    unfold Ve.cnt
    rw[if_pos ⟨hrg,by dsimp only;omega⟩]
   unfold countOf
   rw[if_pos hme,Ve.cnt_joinL _ _ (by omega),Ve.jn_two,h4]
   split<;>omega
  have hws:Nt.wsOk ⟨v.k,Ve.joinL [v.k,[(c,me)]],[],[(c,me,o,gone)]⟩=true:=by
   rw[Nt.wsOk_iff]
   intro j hj
   obtain rfl:j=0:=by simp at hj;exact hj
   refine⟨?_,⟨ho.1,ho.2⟩,?_,fun h=>by cases h⟩
   ·show hasOf (Ve.joinL [v.k,[(c,me)]]) c me=true
    unfold hasOf
    rw[hrg,hcn,Bool.true_and]
    exact decide_eq_true (Int.le_refl _)
   ·show inOf [] o=false
    unfold inOf
    rw[show Sp.inL [] o.toNat=false from rfl,Bool.and_false]
  unfold Nt.fmd
  rw[hws]
  dsimp only
  rw[hv.k,Ve.fmd_joinL,Ve.cov_join_left,show Sp.fmd []=true from by decide +kernel]
  rfl
 have hnf:(noteR v me o skip gone).ws=[(c,me,o,gone)]:=by rw[hnt]
 have hcv:Ve.cov (Ve.cnt v.k) (Ve.cnt (noteR v me o skip gone).s)=true:=by rw[hnt];exact Tr.cov_self _
 have htk:(takeR v (noteR v me o skip gone)).2=0:=by rw[take_is hv hfm hcv]
 refine⟨?_,htk⟩
 have h1:(ofN v.k ((nxt v me skip).1.1,(nxt v me skip).1.2,o,gone)).2=0:=by
  unfold ofN
  rw[hn1]
  dsimp only
  rw[if_pos ⟨⟨hv.k,hrg⟩,ho,hno⟩]
 unfold noteR
 rw[←h1]
end Vw
set_option maxRecDepth 100000 in
set_option maxHeartbeats 6400000 in
theorem vdwriteN_any(q:Vl)(me o skip:Int)(X:Option Addr)(d:Nat)(val:List Int)(gone:Bool)(w:World)(htop:Ve.top (Ve.cnt q.k)≤9223372036854775807)(h:VwAt w q)(hx:OneB w X d val) :
  Calls Tryz.prog 37 #[.agg (vwCells q),.int .i64 me,.int .i64 o,.int .i64 skip,.slice X val.length d,.bool gone] w (GivesVwNN (Vw.writeR q.vw me o skip val gone).1 (Vw.writeR q.vw me o skip val gone).2.1 (Vw.writeR q.vw me o skip val gone).2.2 w):=by
 have c1:=fun wx (hb:Below w.heap.size w wx)=>vdformed_any q wx (h.later hb)
 have co:=fun wx=>vdisObject_says o wx
 have hlv:=hx.len
 have bad:¬(Vw.fmd q.vw=true∧0≤o∧o≤255∧val.length≤256∧(gone=true→val=[]))→Vw.writeR q.vw me o skip val gone=(Vw.zero,noNote,1):=fun hn=>by unfold Vw.writeR;rw[if_neg hn]
 cases hf:Vw.fmd q.vw with
 |false=>
  rw[bad (fun h=>by rw[hf]at h;cases h.1)]
  rw[hf]at c1
  clear bad hf h hx htop co
  obtain⟨K,ck,kn,Z,cz,zs,H,ch,hs,B,cb,bs,room⟩:=q
  unfold vwCells at c1 ⊢
  try dsimp only at c1 ⊢
  have C1:=Hd c1
  clear c1
  have hb0:=below_new (below_new (below_new (Below.refl w.heap.size w) (.cells #[.slice K kn.length ck,.slice Z zs.length cz,.slice H hs.length ch,.slice B bs.length cb,.int .i64 room] 27)) (.cells #[.slice none 0 0,.slice none 0 0,.slice none 0 0,.slice none 0 0,.int .i64 0] 27)) (.cells #[.slice none 0 0,.slice none 0 0,.slice none 0 0,.slice none 0 0] 40)
  have hV:=((Blk.new w 27 #[.slice K kn.length ck,.slice Z zs.length cz,.slice H hs.length ch,.slice B bs.length cb,.int .i64 room]).alloc (.cells #[.slice none 0 0,.slice none 0 0,.slice none 0 0,.slice none 0 0,.int .i64 0] 27)).alloc (.cells #[.slice none 0 0,.slice none 0 0,.slice none 0 0,.slice none 0 0] 40)
  have hR:=(Blk.new (w.alloc (.cells #[.slice K kn.length ck,.slice Z zs.length cz,.slice H hs.length ch,.slice B bs.length cb,.int .i64 room] 27)) 27 #[.slice none 0 0,.slice none 0 0,.slice none 0 0,.slice none 0 0,.int .i64 0]).alloc (.cells #[.slice none 0 0,.slice none 0 0,.slice none 0 0,.slice none 0 0] 40)
  simp only[World.size_alloc]at hR
  have hNR:=Blk.new ((w.alloc (.cells #[.slice K kn.length ck,.slice Z zs.length cz,.slice H hs.length ch,.slice B bs.length cb,.int .i64 room] 27)).alloc (.cells #[.slice none 0 0,.slice none 0 0,.slice none 0 0,.slice none 0 0,.int .i64 0] 27)) 40 #[.slice none 0 0,.slice none 0 0,.slice none 0 0,.slice none 0 0]
  simp only[World.size_alloc]at hNR
  obtain⟨W,hW⟩:∃W,((w.alloc (.cells #[.slice K kn.length ck,.slice Z zs.length cz,.slice H hs.length ch,.slice B bs.length cb,.int .i64 room] 27)).alloc (.cells #[.slice none 0 0,.slice none 0 0,.slice none 0 0,.slice none 0 0,.int .i64 0] 27)).alloc (.cells #[.slice none 0 0,.slice none 0 0,.slice none 0 0,.slice none 0 0] 40)=W:=⟨_,rfl⟩
  rw[hW]at hb0 hV hR hNR
  have HW:=Hd hW
  obtain⟨g,hgg⟩:∃g,w.heap.size=g:=⟨_,rfl⟩
  rw[hgg]at hV hR hNR
  have HV:=Hd (show Blk W (g) 27 #[.slice K kn.length ck,.slice Z zs.length cz,.slice H hs.length ch,.slice B bs.length cb,.int .i64 room] from hV)
  have HR:=Hd (show Blk W (g+1) 27 #[.slice none 0 0,.slice none 0 0,.slice none 0 0,.slice none 0 0,.int .i64 0] from hR)
  have HNR:=Hd (show Blk W (g+2) 40 #[.slice none 0 0,.slice none 0 0,.slice none 0 0,.slice none 0 0] from hNR)
  have HB0:=Hd hb0
  clear hW hb0 hV hR hNR
  go_enter Tryz.func37,Tryz.ntmps37
  go_upto_region 1 with (fail)
  rw[HW.out]
  clear HW
  have V_0:=HV.out.cell (i:=0) rfl
  have V_1:=HV.out.cell (i:=1) rfl
  have V_2:=HV.out.cell (i:=2) rfl
  have V_3:=HV.out.cell (i:=3) rfl
  have V_4:=HV.out.cell (i:=4) rfl
  go_wp2_with fail
  refine(C1.out _ HB0.out).mono ?_
  rintro e w1 ⟨rfl,b1⟩
  clear V_0 V_1 V_2 V_3 V_4
  replace HV:=Hd (HV.out.later b1)
  replace HR:=Hd (HR.out.later b1)
  replace HNR:=Hd (HNR.out.later b1)
  have HB1:=Hd (below_on HB0.out b1)
  clear HB0
  clear b1 C1
  have hTW:=Vd.two (r:=g+1) (n:=g+2) (.slice none 0 0) (.slice none 0 0) (.slice none 0 0) (.slice none 0 0) (.int .i64 0) (.slice none 0 0) (.slice none 0 0) (.slice none 0 0) (.slice none 0 0) HR.out HNR.out (by omega) HB1.out (by omega) (by omega) (by refine⟨rfl,rfl,rfl,rfl,rfl,rfl,rfl,rfl,rfl⟩)
  have HTW:=Hd hTW
  clear hTW
  have R_0:=HR.out.cell (i:=0) rfl
  have R_1:=HR.out.cell (i:=1) rfl
  have R_2:=HR.out.cell (i:=2) rfl
  have R_3:=HR.out.cell (i:=3) rfl
  have R_4:=HR.out.cell (i:=4) rfl
  have NR_0:=HNR.out.cell (i:=0) rfl
  have NR_1:=HNR.out.cell (i:=1) rfl
  have NR_2:=HNR.out.cell (i:=2) rfl
  have NR_3:=HNR.out.cell (i:=3) rfl
  have R_f0:=HR.out.free 0
  have R_f1:=HR.out.free 1
  have R_f2:=HR.out.free 2
  have R_f3:=HR.out.free 3
  have R_f4:=HR.out.free 4
  have NR_f0:=HNR.out.free 0
  have NR_f1:=HNR.out.free 1
  have NR_f2:=HNR.out.free 2
  have NR_f3:=HNR.out.free 3
  go_wp2
  clear R_0 R_1 R_2 R_3 R_4 NR_0 NR_1 NR_2 NR_3 R_f0 R_f1 R_f2 R_f3 R_f4 NR_f0 NR_f1 NR_f2 NR_f3
  exact bodyPost_ret (results_cell_cell_tmp (p1:=12) (p2:=13) (t:=14) (ty1:=27) (ty2:=40) rfl _ _ (g+1) (g+2) 27 40 #[.slice none 0 0,.slice none 0 0,.slice none 0 0,.slice none 0 0,.int .i64 0] #[.slice none 0 0,.slice none 0 0,.slice none 0 0,.slice none 0 0] _ _ rfl rfl HTW.out.1 HTW.out.2.1 Tryz.underlying27 rfl infoVw Tryz.underlying40 rfl infoNt4) rfl ⟨Vl.none,none,none,none,none,0,0,0,0,rfl,rfl,VwAt.none _,⟨OneL.nil,OneL.nil,OneL.nil,OneW.nil⟩,VwLo.none,Lo.none,HTW.out.2.2.1⟩
 |true=>
 rw[hf]at c1
 by_cases ho:0≤o∧o≤255
 rotate_left
 ·rw[bad (fun h=>ho ⟨h.2.1,h.2.2.1⟩)]
  rw[decide_eq_false ho]at co
  clear bad hf h hx htop ho
  obtain⟨K,ck,kn,Z,cz,zs,H,ch,hs,B,cb,bs,room⟩:=q
  unfold vwCells at c1 ⊢
  try dsimp only at c1 ⊢
  have C1:=Hd c1
  have CO:=Hd co
  clear c1 co
  have hb0:=below_new (below_new (below_new (Below.refl w.heap.size w) (.cells #[.slice K kn.length ck,.slice Z zs.length cz,.slice H hs.length ch,.slice B bs.length cb,.int .i64 room] 27)) (.cells #[.slice none 0 0,.slice none 0 0,.slice none 0 0,.slice none 0 0,.int .i64 0] 27)) (.cells #[.slice none 0 0,.slice none 0 0,.slice none 0 0,.slice none 0 0] 40)
  have hV:=((Blk.new w 27 #[.slice K kn.length ck,.slice Z zs.length cz,.slice H hs.length ch,.slice B bs.length cb,.int .i64 room]).alloc (.cells #[.slice none 0 0,.slice none 0 0,.slice none 0 0,.slice none 0 0,.int .i64 0] 27)).alloc (.cells #[.slice none 0 0,.slice none 0 0,.slice none 0 0,.slice none 0 0] 40)
  have hR:=(Blk.new (w.alloc (.cells #[.slice K kn.length ck,.slice Z zs.length cz,.slice H hs.length ch,.slice B bs.length cb,.int .i64 room] 27)) 27 #[.slice none 0 0,.slice none 0 0,.slice none 0 0,.slice none 0 0,.int .i64 0]).alloc (.cells #[.slice none 0 0,.slice none 0 0,.slice none 0 0,.slice none 0 0] 40)
  simp only[World.size_alloc]at hR
  have hNR:=Blk.new ((w.alloc (.cells #[.slice K kn.length ck,.slice Z zs.length cz,.slice H hs.length ch,.slice B bs.length cb,.int .i64 room] 27)).alloc (.cells #[.slice none 0 0,.slice none 0 0,.slice none 0 0,.slice none 0 0,.int .i64 0] 27)) 40 #[.slice none 0 0,.slice none 0 0,.slice none 0 0,.slice none 0 0]
  simp only[World.size_alloc]at hNR
  obtain⟨W,hW⟩:∃W,((w.alloc (.cells #[.slice K kn.length ck,.slice Z zs.length cz,.slice H hs.length ch,.slice B bs.length cb,.int .i64 room] 27)).alloc (.cells #[.slice none 0 0,.slice none 0 0,.slice none 0 0,.slice none 0 0,.int .i64 0] 27)).alloc (.cells #[.slice none 0 0,.slice none 0 0,.slice none 0 0,.slice none 0 0] 40)=W:=⟨_,rfl⟩
  rw[hW]at hb0 hV hR hNR
  have HW:=Hd hW
  obtain⟨g,hgg⟩:∃g,w.heap.size=g:=⟨_,rfl⟩
  rw[hgg]at hV hR hNR
  have HV:=Hd (show Blk W (g) 27 #[.slice K kn.length ck,.slice Z zs.length cz,.slice H hs.length ch,.slice B bs.length cb,.int .i64 room] from hV)
  have HR:=Hd (show Blk W (g+1) 27 #[.slice none 0 0,.slice none 0 0,.slice none 0 0,.slice none 0 0,.int .i64 0] from hR)
  have HNR:=Hd (show Blk W (g+2) 40 #[.slice none 0 0,.slice none 0 0,.slice none 0 0,.slice none 0 0] from hNR)
  have HB0:=Hd hb0
  clear hW hb0 hV hR hNR
  go_enter Tryz.func37,Tryz.ntmps37
  go_upto_region 1 with (fail)
  rw[HW.out]
  clear HW
  have V_0:=HV.out.cell (i:=0) rfl
  have V_1:=HV.out.cell (i:=1) rfl
  have V_2:=HV.out.cell (i:=2) rfl
  have V_3:=HV.out.cell (i:=3) rfl
  have V_4:=HV.out.cell (i:=4) rfl
  go_wp2_with fail
  refine(C1.out _ HB0.out).mono ?_
  rintro e w1 ⟨rfl,b1⟩
  clear V_0 V_1 V_2 V_3 V_4
  replace HV:=Hd (HV.out.later b1)
  replace HR:=Hd (HR.out.later b1)
  replace HNR:=Hd (HNR.out.later b1)
  have HB1:=Hd (below_on HB0.out b1)
  clear HB0
  clear b1 C1
  go_wp2_with fail
  refine(CO.out _).mono ?_
  rintro e w2 ⟨rfl,b2⟩
  replace HV:=Hd (HV.out.later b2)
  replace HR:=Hd (HR.out.later b2)
  replace HNR:=Hd (HNR.out.later b2)
  have HB2:=Hd (below_on HB1.out b2)
  clear HB1
  clear b2 CO
  have hTW:=Vd.two (r:=g+1) (n:=g+2) (.slice none 0 0) (.slice none 0 0) (.slice none 0 0) (.slice none 0 0) (.int .i64 0) (.slice none 0 0) (.slice none 0 0) (.slice none 0 0) (.slice none 0 0) HR.out HNR.out (by omega) HB2.out (by omega) (by omega) (by refine⟨rfl,rfl,rfl,rfl,rfl,rfl,rfl,rfl,rfl⟩)
  have HTW:=Hd hTW
  clear hTW
  have R_0:=HR.out.cell (i:=0) rfl
  have R_1:=HR.out.cell (i:=1) rfl
  have R_2:=HR.out.cell (i:=2) rfl
  have R_3:=HR.out.cell (i:=3) rfl
  have R_4:=HR.out.cell (i:=4) rfl
  have NR_0:=HNR.out.cell (i:=0) rfl
  have NR_1:=HNR.out.cell (i:=1) rfl
  have NR_2:=HNR.out.cell (i:=2) rfl
  have NR_3:=HNR.out.cell (i:=3) rfl
  have R_f0:=HR.out.free 0
  have R_f1:=HR.out.free 1
  have R_f2:=HR.out.free 2
  have R_f3:=HR.out.free 3
  have R_f4:=HR.out.free 4
  have NR_f0:=HNR.out.free 0
  have NR_f1:=HNR.out.free 1
  have NR_f2:=HNR.out.free 2
  have NR_f3:=HNR.out.free 3
  go_wp2
  clear R_0 R_1 R_2 R_3 R_4 NR_0 NR_1 NR_2 NR_3 R_f0 R_f1 R_f2 R_f3 R_f4 NR_f0 NR_f1 NR_f2 NR_f3
  exact bodyPost_ret (results_cell_cell_tmp (p1:=12) (p2:=13) (t:=14) (ty1:=27) (ty2:=40) rfl _ _ (g+1) (g+2) 27 40 #[.slice none 0 0,.slice none 0 0,.slice none 0 0,.slice none 0 0,.int .i64 0] #[.slice none 0 0,.slice none 0 0,.slice none 0 0,.slice none 0 0] _ _ rfl rfl HTW.out.1 HTW.out.2.1 Tryz.underlying27 rfl infoVw Tryz.underlying40 rfl infoNt4) rfl ⟨Vl.none,none,none,none,none,0,0,0,0,rfl,rfl,VwAt.none _,⟨OneL.nil,OneL.nil,OneL.nil,OneW.nil⟩,VwLo.none,Lo.none,HTW.out.2.2.1⟩
 rw[decide_eq_true ho]at co
 by_cases hl:val.length≤256
 rotate_left
 ·rw[bad (fun h=>hl h.2.2.2.1)]
  have d0:decide (256<(val.length:Int))=true:=decide_eq_true (by omega)
  clear bad hf h hx htop ho hl
  obtain⟨K,ck,kn,Z,cz,zs,H,ch,hs,B,cb,bs,room⟩:=q
  unfold vwCells at c1 ⊢
  try dsimp only at c1 ⊢
  have C1:=Hd c1
  have CO:=Hd co
  clear c1 co
  have hb0:=below_new (below_new (below_new (Below.refl w.heap.size w) (.cells #[.slice K kn.length ck,.slice Z zs.length cz,.slice H hs.length ch,.slice B bs.length cb,.int .i64 room] 27)) (.cells #[.slice none 0 0,.slice none 0 0,.slice none 0 0,.slice none 0 0,.int .i64 0] 27)) (.cells #[.slice none 0 0,.slice none 0 0,.slice none 0 0,.slice none 0 0] 40)
  have hV:=((Blk.new w 27 #[.slice K kn.length ck,.slice Z zs.length cz,.slice H hs.length ch,.slice B bs.length cb,.int .i64 room]).alloc (.cells #[.slice none 0 0,.slice none 0 0,.slice none 0 0,.slice none 0 0,.int .i64 0] 27)).alloc (.cells #[.slice none 0 0,.slice none 0 0,.slice none 0 0,.slice none 0 0] 40)
  have hR:=(Blk.new (w.alloc (.cells #[.slice K kn.length ck,.slice Z zs.length cz,.slice H hs.length ch,.slice B bs.length cb,.int .i64 room] 27)) 27 #[.slice none 0 0,.slice none 0 0,.slice none 0 0,.slice none 0 0,.int .i64 0]).alloc (.cells #[.slice none 0 0,.slice none 0 0,.slice none 0 0,.slice none 0 0] 40)
  simp only[World.size_alloc]at hR
  have hNR:=Blk.new ((w.alloc (.cells #[.slice K kn.length ck,.slice Z zs.length cz,.slice H hs.length ch,.slice B bs.length cb,.int .i64 room] 27)).alloc (.cells #[.slice none 0 0,.slice none 0 0,.slice none 0 0,.slice none 0 0,.int .i64 0] 27)) 40 #[.slice none 0 0,.slice none 0 0,.slice none 0 0,.slice none 0 0]
  simp only[World.size_alloc]at hNR
  obtain⟨W,hW⟩:∃W,((w.alloc (.cells #[.slice K kn.length ck,.slice Z zs.length cz,.slice H hs.length ch,.slice B bs.length cb,.int .i64 room] 27)).alloc (.cells #[.slice none 0 0,.slice none 0 0,.slice none 0 0,.slice none 0 0,.int .i64 0] 27)).alloc (.cells #[.slice none 0 0,.slice none 0 0,.slice none 0 0,.slice none 0 0] 40)=W:=⟨_,rfl⟩
  rw[hW]at hb0 hV hR hNR
  have HW:=Hd hW
  obtain⟨g,hgg⟩:∃g,w.heap.size=g:=⟨_,rfl⟩
  rw[hgg]at hV hR hNR
  have HV:=Hd (show Blk W (g) 27 #[.slice K kn.length ck,.slice Z zs.length cz,.slice H hs.length ch,.slice B bs.length cb,.int .i64 room] from hV)
  have HR:=Hd (show Blk W (g+1) 27 #[.slice none 0 0,.slice none 0 0,.slice none 0 0,.slice none 0 0,.int .i64 0] from hR)
  have HNR:=Hd (show Blk W (g+2) 40 #[.slice none 0 0,.slice none 0 0,.slice none 0 0,.slice none 0 0] from hNR)
  have HB0:=Hd hb0
  clear hW hb0 hV hR hNR
  go_enter Tryz.func37,Tryz.ntmps37
  go_upto_region 1 with (fail)
  rw[HW.out]
  clear HW
  have V_0:=HV.out.cell (i:=0) rfl
  have V_1:=HV.out.cell (i:=1) rfl
  have V_2:=HV.out.cell (i:=2) rfl
  have V_3:=HV.out.cell (i:=3) rfl
  have V_4:=HV.out.cell (i:=4) rfl
  go_wp2_with fail
  refine(C1.out _ HB0.out).mono ?_
  rintro e w1 ⟨rfl,b1⟩
  clear V_0 V_1 V_2 V_3 V_4
  replace HV:=Hd (HV.out.later b1)
  replace HR:=Hd (HR.out.later b1)
  replace HNR:=Hd (HNR.out.later b1)
  have HB1:=Hd (below_on HB0.out b1)
  clear HB0
  clear b1 C1
  go_wp2_with fail
  refine(CO.out _).mono ?_
  rintro e w2 ⟨rfl,b2⟩
  replace HV:=Hd (HV.out.later b2)
  replace HR:=Hd (HR.out.later b2)
  replace HNR:=Hd (HNR.out.later b2)
  have HB2:=Hd (below_on HB1.out b2)
  clear HB1
  clear b2 CO
  have hTW:=Vd.two (r:=g+1) (n:=g+2) (.slice none 0 0) (.slice none 0 0) (.slice none 0 0) (.slice none 0 0) (.int .i64 0) (.slice none 0 0) (.slice none 0 0) (.slice none 0 0) (.slice none 0 0) HR.out HNR.out (by omega) HB2.out (by omega) (by omega) (by refine⟨rfl,rfl,rfl,rfl,rfl,rfl,rfl,rfl,rfl⟩)
  have HTW:=Hd hTW
  clear hTW
  have R_0:=HR.out.cell (i:=0) rfl
  have R_1:=HR.out.cell (i:=1) rfl
  have R_2:=HR.out.cell (i:=2) rfl
  have R_3:=HR.out.cell (i:=3) rfl
  have R_4:=HR.out.cell (i:=4) rfl
  have NR_0:=HNR.out.cell (i:=0) rfl
  have NR_1:=HNR.out.cell (i:=1) rfl
  have NR_2:=HNR.out.cell (i:=2) rfl
  have NR_3:=HNR.out.cell (i:=3) rfl
  have R_f0:=HR.out.free 0
  have R_f1:=HR.out.free 1
  have R_f2:=HR.out.free 2
  have R_f3:=HR.out.free 3
  have R_f4:=HR.out.free 4
  have NR_f0:=HNR.out.free 0
  have NR_f1:=HNR.out.free 1
  have NR_f2:=HNR.out.free 2
  have NR_f3:=HNR.out.free 3
  go_wp2
  clear R_0 R_1 R_2 R_3 R_4 NR_0 NR_1 NR_2 NR_3 R_f0 R_f1 R_f2 R_f3 R_f4 NR_f0 NR_f1 NR_f2 NR_f3
  exact bodyPost_ret (results_cell_cell_tmp (p1:=12) (p2:=13) (t:=14) (ty1:=27) (ty2:=40) rfl _ _ (g+1) (g+2) 27 40 #[.slice none 0 0,.slice none 0 0,.slice none 0 0,.slice none 0 0,.int .i64 0] #[.slice none 0 0,.slice none 0 0,.slice none 0 0,.slice none 0 0] _ _ rfl rfl HTW.out.1 HTW.out.2.1 Tryz.underlying27 rfl infoVw Tryz.underlying40 rfl infoNt4) rfl ⟨Vl.none,none,none,none,none,0,0,0,0,rfl,rfl,VwAt.none _,⟨OneL.nil,OneL.nil,OneL.nil,OneW.nil⟩,VwLo.none,Lo.none,HTW.out.2.2.1⟩
 have d0:decide (256<(val.length:Int))=false:=decide_eq_false (by omega)
 by_cases hgv:gone=true→val=[]
 rotate_left
 ·rw[bad (fun h=>hgv h.2.2.2.2)]
  obtain rfl:gone=true:=by cases gone with
    |true=>rfl
    |false=>exact absurd (fun h=>by cases h) hgv
  obtain⟨a,r,rfl⟩:∃a r,val=a::r:=by
    cases val with
    |nil=>exact absurd (fun _=>rfl) hgv
    |cons a r=>exact⟨a,r,rfl⟩
  rw[List.length_cons]at d0 ⊢
  obtain⟨rl,hrl⟩:∃rl,r.length+1=rl:=⟨_,rfl⟩
  rw[hrl]at d0 ⊢
  have d1:decide (0<(rl:Int))=true:=decide_eq_true (by omega)
  have d2:decide (0<rl)=true:=decide_eq_true (by omega)
  have d4:¬rl=0:=by omega
  have d5:0<rl:=by omega
  clear hlv hrl
  clear bad hf h hx htop ho hl hgv
  obtain⟨K,ck,kn,Z,cz,zs,H,ch,hs,B,cb,bs,room⟩:=q
  unfold vwCells at c1 ⊢
  try dsimp only at c1 ⊢
  have C1:=Hd c1
  have CO:=Hd co
  clear c1 co
  have hb0:=below_new (below_new (below_new (Below.refl w.heap.size w) (.cells #[.slice K kn.length ck,.slice Z zs.length cz,.slice H hs.length ch,.slice B bs.length cb,.int .i64 room] 27)) (.cells #[.slice none 0 0,.slice none 0 0,.slice none 0 0,.slice none 0 0,.int .i64 0] 27)) (.cells #[.slice none 0 0,.slice none 0 0,.slice none 0 0,.slice none 0 0] 40)
  have hV:=((Blk.new w 27 #[.slice K kn.length ck,.slice Z zs.length cz,.slice H hs.length ch,.slice B bs.length cb,.int .i64 room]).alloc (.cells #[.slice none 0 0,.slice none 0 0,.slice none 0 0,.slice none 0 0,.int .i64 0] 27)).alloc (.cells #[.slice none 0 0,.slice none 0 0,.slice none 0 0,.slice none 0 0] 40)
  have hR:=(Blk.new (w.alloc (.cells #[.slice K kn.length ck,.slice Z zs.length cz,.slice H hs.length ch,.slice B bs.length cb,.int .i64 room] 27)) 27 #[.slice none 0 0,.slice none 0 0,.slice none 0 0,.slice none 0 0,.int .i64 0]).alloc (.cells #[.slice none 0 0,.slice none 0 0,.slice none 0 0,.slice none 0 0] 40)
  simp only[World.size_alloc]at hR
  have hNR:=Blk.new ((w.alloc (.cells #[.slice K kn.length ck,.slice Z zs.length cz,.slice H hs.length ch,.slice B bs.length cb,.int .i64 room] 27)).alloc (.cells #[.slice none 0 0,.slice none 0 0,.slice none 0 0,.slice none 0 0,.int .i64 0] 27)) 40 #[.slice none 0 0,.slice none 0 0,.slice none 0 0,.slice none 0 0]
  simp only[World.size_alloc]at hNR
  obtain⟨W,hW⟩:∃W,((w.alloc (.cells #[.slice K kn.length ck,.slice Z zs.length cz,.slice H hs.length ch,.slice B bs.length cb,.int .i64 room] 27)).alloc (.cells #[.slice none 0 0,.slice none 0 0,.slice none 0 0,.slice none 0 0,.int .i64 0] 27)).alloc (.cells #[.slice none 0 0,.slice none 0 0,.slice none 0 0,.slice none 0 0] 40)=W:=⟨_,rfl⟩
  rw[hW]at hb0 hV hR hNR
  have HW:=Hd hW
  obtain⟨g,hgg⟩:∃g,w.heap.size=g:=⟨_,rfl⟩
  rw[hgg]at hV hR hNR
  have HV:=Hd (show Blk W (g) 27 #[.slice K kn.length ck,.slice Z zs.length cz,.slice H hs.length ch,.slice B bs.length cb,.int .i64 room] from hV)
  have HR:=Hd (show Blk W (g+1) 27 #[.slice none 0 0,.slice none 0 0,.slice none 0 0,.slice none 0 0,.int .i64 0] from hR)
  have HNR:=Hd (show Blk W (g+2) 40 #[.slice none 0 0,.slice none 0 0,.slice none 0 0,.slice none 0 0] from hNR)
  have HB0:=Hd hb0
  clear hW hb0 hV hR hNR
  go_enter Tryz.func37,Tryz.ntmps37
  go_upto_region 1 with (fail)
  rw[HW.out]
  clear HW
  have V_0:=HV.out.cell (i:=0) rfl
  have V_1:=HV.out.cell (i:=1) rfl
  have V_2:=HV.out.cell (i:=2) rfl
  have V_3:=HV.out.cell (i:=3) rfl
  have V_4:=HV.out.cell (i:=4) rfl
  go_wp2_with fail
  refine(C1.out _ HB0.out).mono ?_
  rintro e w1 ⟨rfl,b1⟩
  clear V_0 V_1 V_2 V_3 V_4
  replace HV:=Hd (HV.out.later b1)
  replace HR:=Hd (HR.out.later b1)
  replace HNR:=Hd (HNR.out.later b1)
  have HB1:=Hd (below_on HB0.out b1)
  clear HB0
  clear b1 C1
  go_wp2_with fail
  refine(CO.out _).mono ?_
  rintro e w2 ⟨rfl,b2⟩
  replace HV:=Hd (HV.out.later b2)
  replace HR:=Hd (HR.out.later b2)
  replace HNR:=Hd (HNR.out.later b2)
  have HB2:=Hd (below_on HB1.out b2)
  clear HB1
  clear b2 CO
  have hTW:=Vd.two (r:=g+1) (n:=g+2) (.slice none 0 0) (.slice none 0 0) (.slice none 0 0) (.slice none 0 0) (.int .i64 0) (.slice none 0 0) (.slice none 0 0) (.slice none 0 0) (.slice none 0 0) HR.out HNR.out (by omega) HB2.out (by omega) (by omega) (by refine⟨rfl,rfl,rfl,rfl,rfl,rfl,rfl,rfl,rfl⟩)
  have HTW:=Hd hTW
  clear hTW
  have R_0:=HR.out.cell (i:=0) rfl
  have R_1:=HR.out.cell (i:=1) rfl
  have R_2:=HR.out.cell (i:=2) rfl
  have R_3:=HR.out.cell (i:=3) rfl
  have R_4:=HR.out.cell (i:=4) rfl
  have NR_0:=HNR.out.cell (i:=0) rfl
  have NR_1:=HNR.out.cell (i:=1) rfl
  have NR_2:=HNR.out.cell (i:=2) rfl
  have NR_3:=HNR.out.cell (i:=3) rfl
  have R_f0:=HR.out.free 0
  have R_f1:=HR.out.free 1
  have R_f2:=HR.out.free 2
  have R_f3:=HR.out.free 3
  have R_f4:=HR.out.free 4
  have NR_f0:=HNR.out.free 0
  have NR_f1:=HNR.out.free 1
  have NR_f2:=HNR.out.free 2
  have NR_f3:=HNR.out.free 3
  go_wp2
  clear R_0 R_1 R_2 R_3 R_4 NR_0 NR_1 NR_2 NR_3 R_f0 R_f1 R_f2 R_f3 R_f4 NR_f0 NR_f1 NR_f2 NR_f3
  exact bodyPost_ret (results_cell_cell_tmp (p1:=12) (p2:=13) (t:=14) (ty1:=27) (ty2:=40) rfl _ _ (g+1) (g+2) 27 40 #[.slice none 0 0,.slice none 0 0,.slice none 0 0,.slice none 0 0,.int .i64 0] #[.slice none 0 0,.slice none 0 0,.slice none 0 0,.slice none 0 0] _ _ rfl rfl HTW.out.1 HTW.out.2.1 Tryz.underlying27 rfl infoVw Tryz.underlying40 rfl infoNt4) rfl ⟨Vl.none,none,none,none,none,0,0,0,0,rfl,rfl,VwAt.none _,⟨OneL.nil,OneL.nil,OneL.nil,OneW.nil⟩,VwLo.none,Lo.none,HTW.out.2.2.1⟩
 clear bad
 have hv:=(Vw.ok_iff q.vw).1 hf
 have hwr:Vw.writeR q.vw me o skip val gone=(if (Vw.nxt q.vw me skip).2=0 then
    (if gone=true then ((Vw.takeR q.vw (Vw.noteR q.vw me o skip gone)).1,Vw.noteR q.vw me o skip gone,0)
     else (if (Vw.bodyR (Vw.takeR q.vw (Vw.noteR q.vw me o skip gone)).1 ⟨o,(Vw.nxt q.vw me skip).1.1,(Vw.nxt q.vw me skip).1.2,val⟩).2=0 then
       ((Vw.bodyR (Vw.takeR q.vw (Vw.noteR q.vw me o skip gone)).1 ⟨o,(Vw.nxt q.vw me skip).1.1,(Vw.nxt q.vw me skip).1.2,val⟩).1,Vw.noteR q.vw me o skip gone,0)
      else (Vw.zero,noNote,(Vw.bodyR (Vw.takeR q.vw (Vw.noteR q.vw me o skip gone)).1 ⟨o,(Vw.nxt q.vw me skip).1.1,(Vw.nxt q.vw me skip).1.2,val⟩).2)))
   else (Vw.zero,noNote,(Vw.nxt q.vw me skip).2)):=by unfold Vw.writeR;rw[if_pos ⟨hf,ho.1,ho.2,hl,hgv⟩]
 rw[hwr]
 clear hwr
 have cg:=fun wx (hb:Below w.heap.size w wx)=>greatest_any q.K q.ck q.k wx (h.later hb).k
 have cn:=fun wx=>show Calls Tryz.prog 105 #[.int .i64 (Ve.top (Ve.cnt q.k)),.int .i64 me,.int .i64 skip] wx (Says (.tuple #[.agg #[.int .i64 (Vw.nxt q.vw me skip).1.1,.int .i64 (Vw.nxt q.vw me skip).1.2],.int .i64 (Vw.nxt q.vw me skip).2]) wx) from next_any _ me skip wx htop
 have ct:=fun S E P U cs ce cp cu wx (hb:Below w.heap.size w wx) (hn:NoteAt wx S E P U cs ce cp cu (Vw.noteR q.vw me o skip gone))=>vdtakeN_any q S E P U cs ce cp cu (Vw.noteR q.vw me o skip gone) wx (h.later hb) hn
 have cbd:=fun (q1:Vl) (hq:q1.vw=(Vw.takeR q.vw (Vw.noteR q.vw me o skip gone)).1) wx (hb:Below w.heap.size w wx) (hV:VwAt wx q1)=>vdbodyN_any q1 X d ⟨o,(Vw.nxt q.vw me skip).1.1,(Vw.nxt q.vw me skip).1.2,val⟩ wx hV (hx.later hb)
 have hkl:q.k.length≤64:=Vw.k_len (show Ve.fmd q.k=true from hv.k)
 have cf:=fun wx (hb:Below w.heap.size w wx)=>dnofN_any q.K q.ck q.k ((Vw.nxt q.vw me skip).1.1,(Vw.nxt q.vw me skip).1.2,o,gone) wx (by omega) (h.later hb).k
 by_cases hn:(Vw.nxt q.vw me skip).2=0
 rotate_left
 ·rw[if_neg hn]
  obtain⟨⟨⟨sc,sn⟩,ne⟩,hnn⟩:∃x,Vw.nxt q.vw me skip=x:=⟨_,rfl⟩
  rw[hnn]at cn hn ⊢
  dsimp only at cn hn ⊢
  have d2:(ne != 0)=true:=by rw[bne_iff_ne];exact hn
  have d3:=hgv
  clear ct cbd cf hnn hv hf h hx htop ho hl hgv hkl hn
  obtain⟨K,ck,kn,Z,cz,zs,H,ch,hs,B,cb,bs,room⟩:=q
  unfold vwCells at c1 ⊢
  dsimp only at c1 cg cn ⊢
  obtain⟨tp,htp⟩:∃tp,Ve.top (Ve.cnt kn)=tp:=⟨_,rfl⟩
  rw[htp]at cg cn
  have C1:=Hd c1
  have CO:=Hd co
  have CG:=Hd cg
  have CN:=Hd cn
  clear c1 co cg cn htp
  cases gone with
  |true=>
  obtain rfl:=d3 rfl
  clear d3
  rw[List.length_nil]at d0 ⊢
  have hb0:=below_new (below_new (below_new (Below.refl w.heap.size w) (.cells #[.slice K kn.length ck,.slice Z zs.length cz,.slice H hs.length ch,.slice B bs.length cb,.int .i64 room] 27)) (.cells #[.slice none 0 0,.slice none 0 0,.slice none 0 0,.slice none 0 0,.int .i64 0] 27)) (.cells #[.slice none 0 0,.slice none 0 0,.slice none 0 0,.slice none 0 0] 40)
  have hV:=((Blk.new w 27 #[.slice K kn.length ck,.slice Z zs.length cz,.slice H hs.length ch,.slice B bs.length cb,.int .i64 room]).alloc (.cells #[.slice none 0 0,.slice none 0 0,.slice none 0 0,.slice none 0 0,.int .i64 0] 27)).alloc (.cells #[.slice none 0 0,.slice none 0 0,.slice none 0 0,.slice none 0 0] 40)
  have hR:=(Blk.new (w.alloc (.cells #[.slice K kn.length ck,.slice Z zs.length cz,.slice H hs.length ch,.slice B bs.length cb,.int .i64 room] 27)) 27 #[.slice none 0 0,.slice none 0 0,.slice none 0 0,.slice none 0 0,.int .i64 0]).alloc (.cells #[.slice none 0 0,.slice none 0 0,.slice none 0 0,.slice none 0 0] 40)
  simp only[World.size_alloc]at hR
  have hNR:=Blk.new ((w.alloc (.cells #[.slice K kn.length ck,.slice Z zs.length cz,.slice H hs.length ch,.slice B bs.length cb,.int .i64 room] 27)).alloc (.cells #[.slice none 0 0,.slice none 0 0,.slice none 0 0,.slice none 0 0,.int .i64 0] 27)) 40 #[.slice none 0 0,.slice none 0 0,.slice none 0 0,.slice none 0 0]
  simp only[World.size_alloc]at hNR
  obtain⟨W,hW⟩:∃W,((w.alloc (.cells #[.slice K kn.length ck,.slice Z zs.length cz,.slice H hs.length ch,.slice B bs.length cb,.int .i64 room] 27)).alloc (.cells #[.slice none 0 0,.slice none 0 0,.slice none 0 0,.slice none 0 0,.int .i64 0] 27)).alloc (.cells #[.slice none 0 0,.slice none 0 0,.slice none 0 0,.slice none 0 0] 40)=W:=⟨_,rfl⟩
  rw[hW]at hb0 hV hR hNR
  have HW:=Hd hW
  obtain⟨g,hgg⟩:∃g,w.heap.size=g:=⟨_,rfl⟩
  rw[hgg]at hV hR hNR
  have HV:=Hd (show Blk W (g) 27 #[.slice K kn.length ck,.slice Z zs.length cz,.slice H hs.length ch,.slice B bs.length cb,.int .i64 room] from hV)
  have HR:=Hd (show Blk W (g+1) 27 #[.slice none 0 0,.slice none 0 0,.slice none 0 0,.slice none 0 0,.int .i64 0] from hR)
  have HNR:=Hd (show Blk W (g+2) 40 #[.slice none 0 0,.slice none 0 0,.slice none 0 0,.slice none 0 0] from hNR)
  have HB0:=Hd hb0
  clear hW hb0 hV hR hNR
  go_enter Tryz.func37,Tryz.ntmps37
  go_upto_region 1 with (fail)
  rw[HW.out]
  clear HW
  have V_0:=HV.out.cell (i:=0) rfl
  have V_1:=HV.out.cell (i:=1) rfl
  have V_2:=HV.out.cell (i:=2) rfl
  have V_3:=HV.out.cell (i:=3) rfl
  have V_4:=HV.out.cell (i:=4) rfl
  go_wp2_with fail
  refine(C1.out _ HB0.out).mono ?_
  rintro e w1 ⟨rfl,b1⟩
  clear V_0 V_1 V_2 V_3 V_4
  replace HV:=Hd (HV.out.later b1)
  replace HR:=Hd (HR.out.later b1)
  replace HNR:=Hd (HNR.out.later b1)
  have HB1:=Hd (below_on HB0.out b1)
  clear HB0
  clear b1 C1
  go_wp2_with fail
  refine(CO.out _).mono ?_
  rintro e w2 ⟨rfl,b2⟩
  replace HV:=Hd (HV.out.later b2)
  replace HR:=Hd (HR.out.later b2)
  replace HNR:=Hd (HNR.out.later b2)
  have HB2:=Hd (below_on HB1.out b2)
  clear HB1
  clear b2 CO
  have V_0:=HV.out.cell (i:=0) rfl
  go_wp2_with fail
  refine(CG.out _ HB2.out).mono ?_
  rintro e w3 ⟨rfl,b3⟩
  clear V_0
  replace HV:=Hd (HV.out.later b3)
  replace HR:=Hd (HR.out.later b3)
  replace HNR:=Hd (HNR.out.later b3)
  have HB3:=Hd (below_on HB2.out b3)
  clear HB2
  clear b3 CG
  go_wp2_with fail
  refine(CN.out _).mono ?_
  rintro e w4 ⟨rfl,b4⟩
  replace HV:=Hd (HV.out.later b4)
  replace HR:=Hd (HR.out.later b4)
  replace HNR:=Hd (HNR.out.later b4)
  have HB4:=Hd (below_on HB3.out b4)
  clear HB3
  clear b4 CN
  obtain⟨gs,hggs⟩:∃gs,w4.heap.size=gs:=⟨_,rfl⟩
  have lt_V_gs:g<gs:=by have:=HV.out.lt;rw[hggs]at this;exact this
  have lt_R_gs:g+1<gs:=by have:=HR.out.lt;rw[hggs]at this;exact this
  have lt_NR_gs:g+2<gs:=by have:=HNR.out.lt;rw[hggs]at this;exact this
  have le_gs:w.heap.size≤gs:=by have:=HB4.out.size;rw[hggs]at this;exact this
  go_upto_region 4 with (fail)
  have b5:=below_new (Below.refl w4.heap.size w4) (.cells #[.int .i64 sc,.int .i64 sn] 46)
  have hS:=Blk.new w4 46 #[.int .i64 sc,.int .i64 sn]
  obtain⟨w5,hw5⟩:∃x,w4.alloc (.cells #[.int .i64 sc,.int .i64 sn] 46)=x:=⟨_,rfl⟩
  rw[hw5]at b5 hS
  rw[hw5]
  replace HV:=Hd (HV.out.later b5)
  replace HR:=Hd (HR.out.later b5)
  replace HNR:=Hd (HNR.out.later b5)
  have HB5:=Hd (below_on HB4.out b5)
  clear HB4
  rw[hggs]at hS
  have HS:=Hd hS
  clear b5 hw5 hS
  have hTW:=Vd.two (r:=g+1) (n:=g+2) (.slice none 0 0) (.slice none 0 0) (.slice none 0 0) (.slice none 0 0) (.int .i64 0) (.slice none 0 0) (.slice none 0 0) (.slice none 0 0) (.slice none 0 0) HR.out HNR.out (by omega) HB5.out (by omega) (by omega) (by refine⟨rfl,rfl,rfl,rfl,rfl,rfl,rfl,rfl,rfl⟩)
  have HTW:=Hd hTW
  clear hTW
  have R_0:=HR.out.cell (i:=0) rfl
  have R_1:=HR.out.cell (i:=1) rfl
  have R_2:=HR.out.cell (i:=2) rfl
  have R_3:=HR.out.cell (i:=3) rfl
  have R_4:=HR.out.cell (i:=4) rfl
  have NR_0:=HNR.out.cell (i:=0) rfl
  have NR_1:=HNR.out.cell (i:=1) rfl
  have NR_2:=HNR.out.cell (i:=2) rfl
  have NR_3:=HNR.out.cell (i:=3) rfl
  have R_f0:=HR.out.free 0
  have R_f1:=HR.out.free 1
  have R_f2:=HR.out.free 2
  have R_f3:=HR.out.free 3
  have R_f4:=HR.out.free 4
  have NR_f0:=HNR.out.free 0
  have NR_f1:=HNR.out.free 1
  have NR_f2:=HNR.out.free 2
  have NR_f3:=HNR.out.free 3
  go_wp2
  clear R_0 R_1 R_2 R_3 R_4 NR_0 NR_1 NR_2 NR_3 R_f0 R_f1 R_f2 R_f3 R_f4 NR_f0 NR_f1 NR_f2 NR_f3
  exact bodyPost_ret (results_cell_cell_tmp (p1:=12) (p2:=13) (t:=14) (ty1:=27) (ty2:=40) rfl _ _ (g+1) (g+2) 27 40 #[.slice none 0 0,.slice none 0 0,.slice none 0 0,.slice none 0 0,.int .i64 0] #[.slice none 0 0,.slice none 0 0,.slice none 0 0,.slice none 0 0] _ _ rfl rfl HTW.out.1 HTW.out.2.1 Tryz.underlying27 rfl infoVw Tryz.underlying40 rfl infoNt4) rfl ⟨Vl.none,none,none,none,none,0,0,0,0,rfl,rfl,VwAt.none _,⟨OneL.nil,OneL.nil,OneL.nil,OneW.nil⟩,VwLo.none,Lo.none,HTW.out.2.2.1⟩
  |false=>
  clear d3
  have hb0:=below_new (below_new (below_new (Below.refl w.heap.size w) (.cells #[.slice K kn.length ck,.slice Z zs.length cz,.slice H hs.length ch,.slice B bs.length cb,.int .i64 room] 27)) (.cells #[.slice none 0 0,.slice none 0 0,.slice none 0 0,.slice none 0 0,.int .i64 0] 27)) (.cells #[.slice none 0 0,.slice none 0 0,.slice none 0 0,.slice none 0 0] 40)
  have hV:=((Blk.new w 27 #[.slice K kn.length ck,.slice Z zs.length cz,.slice H hs.length ch,.slice B bs.length cb,.int .i64 room]).alloc (.cells #[.slice none 0 0,.slice none 0 0,.slice none 0 0,.slice none 0 0,.int .i64 0] 27)).alloc (.cells #[.slice none 0 0,.slice none 0 0,.slice none 0 0,.slice none 0 0] 40)
  have hR:=(Blk.new (w.alloc (.cells #[.slice K kn.length ck,.slice Z zs.length cz,.slice H hs.length ch,.slice B bs.length cb,.int .i64 room] 27)) 27 #[.slice none 0 0,.slice none 0 0,.slice none 0 0,.slice none 0 0,.int .i64 0]).alloc (.cells #[.slice none 0 0,.slice none 0 0,.slice none 0 0,.slice none 0 0] 40)
  simp only[World.size_alloc]at hR
  have hNR:=Blk.new ((w.alloc (.cells #[.slice K kn.length ck,.slice Z zs.length cz,.slice H hs.length ch,.slice B bs.length cb,.int .i64 room] 27)).alloc (.cells #[.slice none 0 0,.slice none 0 0,.slice none 0 0,.slice none 0 0,.int .i64 0] 27)) 40 #[.slice none 0 0,.slice none 0 0,.slice none 0 0,.slice none 0 0]
  simp only[World.size_alloc]at hNR
  obtain⟨W,hW⟩:∃W,((w.alloc (.cells #[.slice K kn.length ck,.slice Z zs.length cz,.slice H hs.length ch,.slice B bs.length cb,.int .i64 room] 27)).alloc (.cells #[.slice none 0 0,.slice none 0 0,.slice none 0 0,.slice none 0 0,.int .i64 0] 27)).alloc (.cells #[.slice none 0 0,.slice none 0 0,.slice none 0 0,.slice none 0 0] 40)=W:=⟨_,rfl⟩
  rw[hW]at hb0 hV hR hNR
  have HW:=Hd hW
  obtain⟨g,hgg⟩:∃g,w.heap.size=g:=⟨_,rfl⟩
  rw[hgg]at hV hR hNR
  have HV:=Hd (show Blk W (g) 27 #[.slice K kn.length ck,.slice Z zs.length cz,.slice H hs.length ch,.slice B bs.length cb,.int .i64 room] from hV)
  have HR:=Hd (show Blk W (g+1) 27 #[.slice none 0 0,.slice none 0 0,.slice none 0 0,.slice none 0 0,.int .i64 0] from hR)
  have HNR:=Hd (show Blk W (g+2) 40 #[.slice none 0 0,.slice none 0 0,.slice none 0 0,.slice none 0 0] from hNR)
  have HB0:=Hd hb0
  clear hW hb0 hV hR hNR
  go_enter Tryz.func37,Tryz.ntmps37
  go_upto_region 1 with (fail)
  rw[HW.out]
  clear HW
  have V_0:=HV.out.cell (i:=0) rfl
  have V_1:=HV.out.cell (i:=1) rfl
  have V_2:=HV.out.cell (i:=2) rfl
  have V_3:=HV.out.cell (i:=3) rfl
  have V_4:=HV.out.cell (i:=4) rfl
  go_wp2_with fail
  refine(C1.out _ HB0.out).mono ?_
  rintro e w1 ⟨rfl,b1⟩
  clear V_0 V_1 V_2 V_3 V_4
  replace HV:=Hd (HV.out.later b1)
  replace HR:=Hd (HR.out.later b1)
  replace HNR:=Hd (HNR.out.later b1)
  have HB1:=Hd (below_on HB0.out b1)
  clear HB0
  clear b1 C1
  go_wp2_with fail
  refine(CO.out _).mono ?_
  rintro e w2 ⟨rfl,b2⟩
  replace HV:=Hd (HV.out.later b2)
  replace HR:=Hd (HR.out.later b2)
  replace HNR:=Hd (HNR.out.later b2)
  have HB2:=Hd (below_on HB1.out b2)
  clear HB1
  clear b2 CO
  have V_0:=HV.out.cell (i:=0) rfl
  go_wp2_with fail
  refine(CG.out _ HB2.out).mono ?_
  rintro e w3 ⟨rfl,b3⟩
  clear V_0
  replace HV:=Hd (HV.out.later b3)
  replace HR:=Hd (HR.out.later b3)
  replace HNR:=Hd (HNR.out.later b3)
  have HB3:=Hd (below_on HB2.out b3)
  clear HB2
  clear b3 CG
  go_wp2_with fail
  refine(CN.out _).mono ?_
  rintro e w4 ⟨rfl,b4⟩
  replace HV:=Hd (HV.out.later b4)
  replace HR:=Hd (HR.out.later b4)
  replace HNR:=Hd (HNR.out.later b4)
  have HB4:=Hd (below_on HB3.out b4)
  clear HB3
  clear b4 CN
  obtain⟨gs,hggs⟩:∃gs,w4.heap.size=gs:=⟨_,rfl⟩
  have lt_V_gs:g<gs:=by have:=HV.out.lt;rw[hggs]at this;exact this
  have lt_R_gs:g+1<gs:=by have:=HR.out.lt;rw[hggs]at this;exact this
  have lt_NR_gs:g+2<gs:=by have:=HNR.out.lt;rw[hggs]at this;exact this
  have le_gs:w.heap.size≤gs:=by have:=HB4.out.size;rw[hggs]at this;exact this
  go_upto_region 4 with (fail)
  have b5:=below_new (Below.refl w4.heap.size w4) (.cells #[.int .i64 sc,.int .i64 sn] 46)
  have hS:=Blk.new w4 46 #[.int .i64 sc,.int .i64 sn]
  obtain⟨w5,hw5⟩:∃x,w4.alloc (.cells #[.int .i64 sc,.int .i64 sn] 46)=x:=⟨_,rfl⟩
  rw[hw5]at b5 hS
  rw[hw5]
  replace HV:=Hd (HV.out.later b5)
  replace HR:=Hd (HR.out.later b5)
  replace HNR:=Hd (HNR.out.later b5)
  have HB5:=Hd (below_on HB4.out b5)
  clear HB4
  rw[hggs]at hS
  have HS:=Hd hS
  clear b5 hw5 hS
  have hTW:=Vd.two (r:=g+1) (n:=g+2) (.slice none 0 0) (.slice none 0 0) (.slice none 0 0) (.slice none 0 0) (.int .i64 0) (.slice none 0 0) (.slice none 0 0) (.slice none 0 0) (.slice none 0 0) HR.out HNR.out (by omega) HB5.out (by omega) (by omega) (by refine⟨rfl,rfl,rfl,rfl,rfl,rfl,rfl,rfl,rfl⟩)
  have HTW:=Hd hTW
  clear hTW
  have R_0:=HR.out.cell (i:=0) rfl
  have R_1:=HR.out.cell (i:=1) rfl
  have R_2:=HR.out.cell (i:=2) rfl
  have R_3:=HR.out.cell (i:=3) rfl
  have R_4:=HR.out.cell (i:=4) rfl
  have NR_0:=HNR.out.cell (i:=0) rfl
  have NR_1:=HNR.out.cell (i:=1) rfl
  have NR_2:=HNR.out.cell (i:=2) rfl
  have NR_3:=HNR.out.cell (i:=3) rfl
  have R_f0:=HR.out.free 0
  have R_f1:=HR.out.free 1
  have R_f2:=HR.out.free 2
  have R_f3:=HR.out.free 3
  have R_f4:=HR.out.free 4
  have NR_f0:=HNR.out.free 0
  have NR_f1:=HNR.out.free 1
  have NR_f2:=HNR.out.free 2
  have NR_f3:=HNR.out.free 3
  go_wp2
  clear R_0 R_1 R_2 R_3 R_4 NR_0 NR_1 NR_2 NR_3 R_f0 R_f1 R_f2 R_f3 R_f4 NR_f0 NR_f1 NR_f2 NR_f3
  exact bodyPost_ret (results_cell_cell_tmp (p1:=12) (p2:=13) (t:=14) (ty1:=27) (ty2:=40) rfl _ _ (g+1) (g+2) 27 40 #[.slice none 0 0,.slice none 0 0,.slice none 0 0,.slice none 0 0,.int .i64 0] #[.slice none 0 0,.slice none 0 0,.slice none 0 0,.slice none 0 0] _ _ rfl rfl HTW.out.1 HTW.out.2.1 Tryz.underlying27 rfl infoVw Tryz.underlying40 rfl infoNt4) rfl ⟨Vl.none,none,none,none,none,0,0,0,0,rfl,rfl,VwAt.none _,⟨OneL.nil,OneL.nil,OneL.nil,OneW.nil⟩,VwLo.none,Lo.none,HTW.out.2.2.1⟩
 rw[if_pos hn]
 obtain⟨hof,htk⟩:=Vw.write_parts hv (me:=me) (gone:=gone) ho hn
 rw[show q.vw.k=q.k from rfl]at hof
 rw[hof]at cf
 rw[htk]at ct
 obtain⟨nt,hnt⟩:∃nt,Vw.noteR q.vw me o skip gone=nt:=⟨_,rfl⟩
 rw[hnt]at cf ct cbd ⊢
 obtain⟨v1,hv1⟩:∃v1,(Vw.takeR q.vw nt).1=v1:=⟨_,rfl⟩
 rw[hv1]at ct cbd ⊢
 obtain⟨⟨⟨sc,sn⟩,ne⟩,hnn⟩:∃x,Vw.nxt q.vw me skip=x:=⟨_,rfl⟩
 rw[hnn]at cn cf cbd hn ⊢
 dsimp only at cn cf cbd hn ⊢
 subst hn
 have cbd:=fun (q1:Vl) (hq:q1.vw=v1) wx (hb:Below w.heap.size w wx) (hV:VwAt wx q1)=>(by
  have hh:=cbd q1 hq wx hb hV
  rw[hq]at hh
  exact hh:Calls Tryz.prog 25 #[.agg (vwCells q1),.agg (bdCells X d ⟨o,sc,sn,val⟩)] wx (GivesVwN (Vw.bodyR v1 ⟨o,sc,sn,val⟩).1 (Vw.bodyR v1 ⟨o,sc,sn,val⟩).2 wx))
 obtain⟨⟨v2,be⟩,hbb⟩:∃x,Vw.bodyR v1 ⟨o,sc,sn,val⟩=x:=⟨_,rfl⟩
 rw[hbb]at cbd ⊢
 dsimp only at cbd ⊢
 have d3:=hgv
 clear hbb hnn hv1 hnt hof htk hv hf h hx htop ho hl hgv hkl
 obtain⟨K,ck,kn,Z,cz,zs,H,ch,hs,B,cb,bs,room⟩:=q
 unfold vwCells bdCells at cbd
 unfold vwCells at c1 ct ⊢
 unfold noteCells at ct
 unfold Nt.wrArr at cf
 dsimp only at c1 cg cn ct cbd cf ⊢
 obtain⟨tp,htp⟩:∃tp,Ve.top (Ve.cnt kn)=tp:=⟨_,rfl⟩
 rw[htp]at cg cn
 have C1:=Hd c1
 have CO:=Hd co
 have CG:=Hd cg
 have CN:=Hd cn
 have CF:=Hd cf
 have CT:=Hd ct
 have CB:=Hd cbd
 clear c1 co cg cn cf ct cbd htp
 cases gone with
 |true=>
  rw[if_pos rfl]
  obtain rfl:=d3 rfl
  clear d3 CB
  rw[List.length_nil]at d0 ⊢
  have hb0:=below_new (below_new (below_new (Below.refl w.heap.size w) (.cells #[.slice K kn.length ck,.slice Z zs.length cz,.slice H hs.length ch,.slice B bs.length cb,.int .i64 room] 27)) (.cells #[.slice none 0 0,.slice none 0 0,.slice none 0 0,.slice none 0 0,.int .i64 0] 27)) (.cells #[.slice none 0 0,.slice none 0 0,.slice none 0 0,.slice none 0 0] 40)
  have hV:=((Blk.new w 27 #[.slice K kn.length ck,.slice Z zs.length cz,.slice H hs.length ch,.slice B bs.length cb,.int .i64 room]).alloc (.cells #[.slice none 0 0,.slice none 0 0,.slice none 0 0,.slice none 0 0,.int .i64 0] 27)).alloc (.cells #[.slice none 0 0,.slice none 0 0,.slice none 0 0,.slice none 0 0] 40)
  have hR:=(Blk.new (w.alloc (.cells #[.slice K kn.length ck,.slice Z zs.length cz,.slice H hs.length ch,.slice B bs.length cb,.int .i64 room] 27)) 27 #[.slice none 0 0,.slice none 0 0,.slice none 0 0,.slice none 0 0,.int .i64 0]).alloc (.cells #[.slice none 0 0,.slice none 0 0,.slice none 0 0,.slice none 0 0] 40)
  simp only[World.size_alloc]at hR
  have hNR:=Blk.new ((w.alloc (.cells #[.slice K kn.length ck,.slice Z zs.length cz,.slice H hs.length ch,.slice B bs.length cb,.int .i64 room] 27)).alloc (.cells #[.slice none 0 0,.slice none 0 0,.slice none 0 0,.slice none 0 0,.int .i64 0] 27)) 40 #[.slice none 0 0,.slice none 0 0,.slice none 0 0,.slice none 0 0]
  simp only[World.size_alloc]at hNR
  obtain⟨W,hW⟩:∃W,((w.alloc (.cells #[.slice K kn.length ck,.slice Z zs.length cz,.slice H hs.length ch,.slice B bs.length cb,.int .i64 room] 27)).alloc (.cells #[.slice none 0 0,.slice none 0 0,.slice none 0 0,.slice none 0 0,.int .i64 0] 27)).alloc (.cells #[.slice none 0 0,.slice none 0 0,.slice none 0 0,.slice none 0 0] 40)=W:=⟨_,rfl⟩
  rw[hW]at hb0 hV hR hNR
  have HW:=Hd hW
  obtain⟨g,hgg⟩:∃g,w.heap.size=g:=⟨_,rfl⟩
  rw[hgg]at hV hR hNR
  have HV:=Hd (show Blk W (g) 27 #[.slice K kn.length ck,.slice Z zs.length cz,.slice H hs.length ch,.slice B bs.length cb,.int .i64 room] from hV)
  have HR:=Hd (show Blk W (g+1) 27 #[.slice none 0 0,.slice none 0 0,.slice none 0 0,.slice none 0 0,.int .i64 0] from hR)
  have HNR:=Hd (show Blk W (g+2) 40 #[.slice none 0 0,.slice none 0 0,.slice none 0 0,.slice none 0 0] from hNR)
  have HB0:=Hd hb0
  clear hW hb0 hV hR hNR
  go_enter Tryz.func37,Tryz.ntmps37
  go_upto_region 1 with (fail)
  rw[HW.out]
  clear HW
  have V_0:=HV.out.cell (i:=0) rfl
  have V_1:=HV.out.cell (i:=1) rfl
  have V_2:=HV.out.cell (i:=2) rfl
  have V_3:=HV.out.cell (i:=3) rfl
  have V_4:=HV.out.cell (i:=4) rfl
  go_wp2_with fail
  refine(C1.out _ HB0.out).mono ?_
  rintro e w1 ⟨rfl,b1⟩
  clear V_0 V_1 V_2 V_3 V_4
  replace HV:=Hd (HV.out.later b1)
  replace HR:=Hd (HR.out.later b1)
  replace HNR:=Hd (HNR.out.later b1)
  have HB1:=Hd (below_on HB0.out b1)
  clear HB0
  clear b1 C1
  go_wp2_with fail
  refine(CO.out _).mono ?_
  rintro e w2 ⟨rfl,b2⟩
  replace HV:=Hd (HV.out.later b2)
  replace HR:=Hd (HR.out.later b2)
  replace HNR:=Hd (HNR.out.later b2)
  have HB2:=Hd (below_on HB1.out b2)
  clear HB1
  clear b2 CO
  have V_0:=HV.out.cell (i:=0) rfl
  go_wp2_with fail
  refine(CG.out _ HB2.out).mono ?_
  rintro e w3 ⟨rfl,b3⟩
  clear V_0
  replace HV:=Hd (HV.out.later b3)
  replace HR:=Hd (HR.out.later b3)
  replace HNR:=Hd (HNR.out.later b3)
  have HB3:=Hd (below_on HB2.out b3)
  clear HB2
  clear b3 CG
  go_wp2_with fail
  refine(CN.out _).mono ?_
  rintro e w4 ⟨rfl,b4⟩
  replace HV:=Hd (HV.out.later b4)
  replace HR:=Hd (HR.out.later b4)
  replace HNR:=Hd (HNR.out.later b4)
  have HB4:=Hd (below_on HB3.out b4)
  clear HB3
  clear b4 CN
  obtain⟨gs,hggs⟩:∃gs,w4.heap.size=gs:=⟨_,rfl⟩
  have lt_V_gs:g<gs:=by have:=HV.out.lt;rw[hggs]at this;exact this
  have lt_R_gs:g+1<gs:=by have:=HR.out.lt;rw[hggs]at this;exact this
  have lt_NR_gs:g+2<gs:=by have:=HNR.out.lt;rw[hggs]at this;exact this
  have le_gs:w.heap.size≤gs:=by have:=HB4.out.size;rw[hggs]at this;exact this
  go_upto_region 4 with (fail)
  have b5:=below_new (Below.refl w4.heap.size w4) (.cells #[.int .i64 sc,.int .i64 sn] 46)
  have hS:=Blk.new w4 46 #[.int .i64 sc,.int .i64 sn]
  obtain⟨w5,hw5⟩:∃x,w4.alloc (.cells #[.int .i64 sc,.int .i64 sn] 46)=x:=⟨_,rfl⟩
  rw[hw5]at b5 hS
  rw[hw5]
  replace HV:=Hd (HV.out.later b5)
  replace HR:=Hd (HR.out.later b5)
  replace HNR:=Hd (HNR.out.later b5)
  have HB5:=Hd (below_on HB4.out b5)
  clear HB4
  rw[hggs]at hS
  have HS:=Hd hS
  clear b5 hw5 hS
  have V_0:=HV.out.cell (i:=0) rfl
  have S_0:=HS.out.cell (i:=0) rfl
  have S_1:=HS.out.cell (i:=1) rfl
  have HLE:=Hd HB5.out.size
  go_wp2_with fail
  refine(CF.out _ HB5.out).mono ?_
  rintro e w6 ⟨NS,NE,NB,NV,ns,ne,nb,nv,rfl,hN,hlv,b6⟩
  clear V_0 S_0 S_1
  replace HV:=Hd (HV.out.later b6)
  replace HR:=Hd (HR.out.later b6)
  replace HNR:=Hd (HNR.out.later b6)
  replace HS:=Hd (HS.out.later b6)
  have HB6:=Hd (below_on HB5.out b6)
  clear HB5
  clear b6 CF
  have HLV:=Hd (hlv.lower HLE.out)
  clear hlv HLE
  unfold noteCells
  dsimp only
  have XN:=Hd hN
  clear hN
  obtain⟨gn,hggn⟩:∃gn,w6.heap.size=gn:=⟨_,rfl⟩
  have lt_V_gn:g<gn:=by have:=HV.out.lt;rw[hggn]at this;exact this
  have lt_R_gn:g+1<gn:=by have:=HR.out.lt;rw[hggn]at this;exact this
  have lt_NR_gn:g+2<gn:=by have:=HNR.out.lt;rw[hggn]at this;exact this
  have lt_S_gn:gs<gn:=by have:=HS.out.lt;rw[hggn]at this;exact this
  have le_gn:w.heap.size≤gn:=by have:=HB6.out.size;rw[hggn]at this;exact this
  go_upto_region 7 with (fail)
  have b7:=below_new (Below.refl w6.heap.size w6) (.cells #[.slice NS nt.s.length ns,.slice NE nt.e.length ne,.slice NB nt.b.length nb,.slice NV nt.ws.length nv] 40)
  have hN:=Blk.new w6 40 #[.slice NS nt.s.length ns,.slice NE nt.e.length ne,.slice NB nt.b.length nb,.slice NV nt.ws.length nv]
  obtain⟨w7,hw7⟩:∃x,w6.alloc (.cells #[.slice NS nt.s.length ns,.slice NE nt.e.length ne,.slice NB nt.b.length nb,.slice NV nt.ws.length nv] 40)=x:=⟨_,rfl⟩
  rw[hw7]at b7 hN
  rw[hw7]
  replace HV:=Hd (HV.out.later b7)
  replace HR:=Hd (HR.out.later b7)
  replace HNR:=Hd (HNR.out.later b7)
  replace HS:=Hd (HS.out.later b7)
  have HB7:=Hd (below_on HB6.out b7)
  clear HB6
  replace XN:=Hd (XN.out.later b7)
  rw[hggn]at hN
  have HN:=Hd hN
  clear b7 hw7 hN
  have V_0:=HV.out.cell (i:=0) rfl
  have V_1:=HV.out.cell (i:=1) rfl
  have V_2:=HV.out.cell (i:=2) rfl
  have V_3:=HV.out.cell (i:=3) rfl
  have V_4:=HV.out.cell (i:=4) rfl
  have N_0:=HN.out.cell (i:=0) rfl
  have N_1:=HN.out.cell (i:=1) rfl
  have N_2:=HN.out.cell (i:=2) rfl
  have N_3:=HN.out.cell (i:=3) rfl
  have HLE:=Hd HB7.out.size
  go_wp2_with fail
  refine(CT.out NS NE NB NV ns ne nb nv _ HB7.out XN.out).mono ?_
  rintro e w8 ⟨q1,rfl,hq1,hV1,hl1,b8⟩
  clear V_0 V_1 V_2 V_3 V_4 N_0 N_1 N_2 N_3
  replace HV:=Hd (HV.out.later b8)
  replace HR:=Hd (HR.out.later b8)
  replace HNR:=Hd (HNR.out.later b8)
  replace HS:=Hd (HS.out.later b8)
  replace HN:=Hd (HN.out.later b8)
  have HB8:=Hd (below_on HB7.out b8)
  clear HB7
  replace XN:=Hd (XN.out.later b8)
  clear b8 CT
  have HL1:=Hd (hl1.lower HLE.out)
  clear hl1 HLE
  obtain⟨K1,ck1,k1,Z1,cz1,z1,H1,ch1,h1,B1,cb1,b1,r1⟩:=q1
  have HQ1:=Hd hq1
  have XV1:=Hd hV1
  clear hq1 hV1
  unfold vwCells
  dsimp only
  obtain⟨gq,hggq⟩:∃gq,w8.heap.size=gq:=⟨_,rfl⟩
  have lt_V_gq:g<gq:=by have:=HV.out.lt;rw[hggq]at this;exact this
  have lt_R_gq:g+1<gq:=by have:=HR.out.lt;rw[hggq]at this;exact this
  have lt_NR_gq:g+2<gq:=by have:=HNR.out.lt;rw[hggq]at this;exact this
  have lt_S_gq:gs<gq:=by have:=HS.out.lt;rw[hggq]at this;exact this
  have lt_N_gq:gn<gq:=by have:=HN.out.lt;rw[hggq]at this;exact this
  have le_gq:w.heap.size≤gq:=by have:=HB8.out.size;rw[hggq]at this;exact this
  go_upto_region 10 with (fail)
  have b9:=below_new (Below.refl w8.heap.size w8) (.cells #[.slice K1 k1.length ck1,.slice Z1 z1.length cz1,.slice H1 h1.length ch1,.slice B1 b1.length cb1,.int .i64 r1] 27)
  have hQ:=Blk.new w8 27 #[.slice K1 k1.length ck1,.slice Z1 z1.length cz1,.slice H1 h1.length ch1,.slice B1 b1.length cb1,.int .i64 r1]
  obtain⟨w9,hw9⟩:∃x,w8.alloc (.cells #[.slice K1 k1.length ck1,.slice Z1 z1.length cz1,.slice H1 h1.length ch1,.slice B1 b1.length cb1,.int .i64 r1] 27)=x:=⟨_,rfl⟩
  rw[hw9]at b9 hQ
  rw[hw9]
  replace HV:=Hd (HV.out.later b9)
  replace HR:=Hd (HR.out.later b9)
  replace HNR:=Hd (HNR.out.later b9)
  replace HS:=Hd (HS.out.later b9)
  replace HN:=Hd (HN.out.later b9)
  have HB9:=Hd (below_on HB8.out b9)
  clear HB8
  replace XN:=Hd (XN.out.later b9)
  replace XV1:=Hd (XV1.out.later b9)
  rw[hggq]at hQ
  have HQ:=Hd hQ
  clear b9 hw9 hQ
  have Q_0:=HQ.out.cell (i:=0) rfl
  have Q_1:=HQ.out.cell (i:=1) rfl
  have Q_2:=HQ.out.cell (i:=2) rfl
  have Q_3:=HQ.out.cell (i:=3) rfl
  have Q_4:=HQ.out.cell (i:=4) rfl
  have N_0:=HN.out.cell (i:=0) rfl
  have N_1:=HN.out.cell (i:=1) rfl
  have N_2:=HN.out.cell (i:=2) rfl
  have N_3:=HN.out.cell (i:=3) rfl
  have hTW:=Vd.two (r:=g+1) (n:=g+2) (.slice K1 k1.length ck1) (.slice Z1 z1.length cz1) (.slice H1 h1.length ch1) (.slice B1 b1.length cb1) (.int .i64 r1) (.slice NS nt.s.length ns) (.slice NE nt.e.length ne) (.slice NB nt.b.length nb) (.slice NV nt.ws.length nv) HR.out HNR.out (by omega) HB9.out (by omega) (by omega) (by refine⟨rfl,rfl,rfl,rfl,rfl,rfl,rfl,rfl,rfl⟩)
  replace hTW:=Vd.two_drew hTW
  have HTW:=Hd hTW
  clear hTW
  have R_0:=HR.out.cell (i:=0) rfl
  have R_1:=HR.out.cell (i:=1) rfl
  have R_2:=HR.out.cell (i:=2) rfl
  have R_3:=HR.out.cell (i:=3) rfl
  have R_4:=HR.out.cell (i:=4) rfl
  have NR_0:=HNR.out.cell (i:=0) rfl
  have NR_1:=HNR.out.cell (i:=1) rfl
  have NR_2:=HNR.out.cell (i:=2) rfl
  have NR_3:=HNR.out.cell (i:=3) rfl
  have R_f0:=HR.out.free 0
  have R_f1:=HR.out.free 1
  have R_f2:=HR.out.free 2
  have R_f3:=HR.out.free 3
  have R_f4:=HR.out.free 4
  have NR_f0:=HNR.out.free 0
  have NR_f1:=HNR.out.free 1
  have NR_f2:=HNR.out.free 2
  have NR_f3:=HNR.out.free 3
  go_wp2_with fail
  go_region
  all_goals
    go_wp2
    clear Q_0 Q_1 Q_2 Q_3 Q_4 N_0 N_1 N_2 N_3 R_0 R_1 R_2 R_3 R_4 NR_0 NR_1 NR_2 NR_3 R_f0 R_f1 R_f2 R_f3 R_f4 NR_f0 NR_f1 NR_f2 NR_f3
    exact bodyPost_ret (results_cell_cell_tmp (p1:=12) (p2:=13) (t:=14) (ty1:=27) (ty2:=40) rfl _ _ (g+1) (g+2) 27 40 #[.slice K1 k1.length ck1,.slice Z1 z1.length cz1,.slice H1 h1.length ch1,.slice B1 b1.length cb1,.int .i64 r1] #[.slice NS nt.s.length ns,.slice NE nt.e.length ne,.slice NB nt.b.length nb,.slice NV nt.ws.length nv] _ _ rfl rfl HTW.out.1 HTW.out.2.1 Tryz.underlying27 rfl infoVw Tryz.underlying40 rfl infoNt4) rfl ⟨⟨K1,ck1,k1,Z1,cz1,z1,H1,ch1,h1,B1,cb1,b1,r1⟩,NS,NE,NB,NV,ns,ne,nb,nv,rfl,HQ1.out,XV1.out.mild HTW.out.2.2.2,NoteAt.mild XN.out HTW.out.2.2.2,HL1.out,HLV.out,HTW.out.2.2.1⟩
 |false=>
 rw[if_neg Bool.false_ne_true]
 clear d3
 by_cases hbe:be=0
 ·rw[if_pos hbe]
  subst hbe
  have hb0:=below_new (below_new (below_new (Below.refl w.heap.size w) (.cells #[.slice K kn.length ck,.slice Z zs.length cz,.slice H hs.length ch,.slice B bs.length cb,.int .i64 room] 27)) (.cells #[.slice none 0 0,.slice none 0 0,.slice none 0 0,.slice none 0 0,.int .i64 0] 27)) (.cells #[.slice none 0 0,.slice none 0 0,.slice none 0 0,.slice none 0 0] 40)
  have hV:=((Blk.new w 27 #[.slice K kn.length ck,.slice Z zs.length cz,.slice H hs.length ch,.slice B bs.length cb,.int .i64 room]).alloc (.cells #[.slice none 0 0,.slice none 0 0,.slice none 0 0,.slice none 0 0,.int .i64 0] 27)).alloc (.cells #[.slice none 0 0,.slice none 0 0,.slice none 0 0,.slice none 0 0] 40)
  have hR:=(Blk.new (w.alloc (.cells #[.slice K kn.length ck,.slice Z zs.length cz,.slice H hs.length ch,.slice B bs.length cb,.int .i64 room] 27)) 27 #[.slice none 0 0,.slice none 0 0,.slice none 0 0,.slice none 0 0,.int .i64 0]).alloc (.cells #[.slice none 0 0,.slice none 0 0,.slice none 0 0,.slice none 0 0] 40)
  simp only[World.size_alloc]at hR
  have hNR:=Blk.new ((w.alloc (.cells #[.slice K kn.length ck,.slice Z zs.length cz,.slice H hs.length ch,.slice B bs.length cb,.int .i64 room] 27)).alloc (.cells #[.slice none 0 0,.slice none 0 0,.slice none 0 0,.slice none 0 0,.int .i64 0] 27)) 40 #[.slice none 0 0,.slice none 0 0,.slice none 0 0,.slice none 0 0]
  simp only[World.size_alloc]at hNR
  obtain⟨W,hW⟩:∃W,((w.alloc (.cells #[.slice K kn.length ck,.slice Z zs.length cz,.slice H hs.length ch,.slice B bs.length cb,.int .i64 room] 27)).alloc (.cells #[.slice none 0 0,.slice none 0 0,.slice none 0 0,.slice none 0 0,.int .i64 0] 27)).alloc (.cells #[.slice none 0 0,.slice none 0 0,.slice none 0 0,.slice none 0 0] 40)=W:=⟨_,rfl⟩
  rw[hW]at hb0 hV hR hNR
  have HW:=Hd hW
  obtain⟨g,hgg⟩:∃g,w.heap.size=g:=⟨_,rfl⟩
  rw[hgg]at hV hR hNR
  have HV:=Hd (show Blk W (g) 27 #[.slice K kn.length ck,.slice Z zs.length cz,.slice H hs.length ch,.slice B bs.length cb,.int .i64 room] from hV)
  have HR:=Hd (show Blk W (g+1) 27 #[.slice none 0 0,.slice none 0 0,.slice none 0 0,.slice none 0 0,.int .i64 0] from hR)
  have HNR:=Hd (show Blk W (g+2) 40 #[.slice none 0 0,.slice none 0 0,.slice none 0 0,.slice none 0 0] from hNR)
  have HB0:=Hd hb0
  clear hW hb0 hV hR hNR
  go_enter Tryz.func37,Tryz.ntmps37
  go_upto_region 1 with (fail)
  rw[HW.out]
  clear HW
  have V_0:=HV.out.cell (i:=0) rfl
  have V_1:=HV.out.cell (i:=1) rfl
  have V_2:=HV.out.cell (i:=2) rfl
  have V_3:=HV.out.cell (i:=3) rfl
  have V_4:=HV.out.cell (i:=4) rfl
  go_wp2_with fail
  refine(C1.out _ HB0.out).mono ?_
  rintro e w1 ⟨rfl,b1⟩
  clear V_0 V_1 V_2 V_3 V_4
  replace HV:=Hd (HV.out.later b1)
  replace HR:=Hd (HR.out.later b1)
  replace HNR:=Hd (HNR.out.later b1)
  have HB1:=Hd (below_on HB0.out b1)
  clear HB0
  clear b1 C1
  go_wp2_with fail
  refine(CO.out _).mono ?_
  rintro e w2 ⟨rfl,b2⟩
  replace HV:=Hd (HV.out.later b2)
  replace HR:=Hd (HR.out.later b2)
  replace HNR:=Hd (HNR.out.later b2)
  have HB2:=Hd (below_on HB1.out b2)
  clear HB1
  clear b2 CO
  have V_0:=HV.out.cell (i:=0) rfl
  go_wp2_with fail
  refine(CG.out _ HB2.out).mono ?_
  rintro e w3 ⟨rfl,b3⟩
  clear V_0
  replace HV:=Hd (HV.out.later b3)
  replace HR:=Hd (HR.out.later b3)
  replace HNR:=Hd (HNR.out.later b3)
  have HB3:=Hd (below_on HB2.out b3)
  clear HB2
  clear b3 CG
  go_wp2_with fail
  refine(CN.out _).mono ?_
  rintro e w4 ⟨rfl,b4⟩
  replace HV:=Hd (HV.out.later b4)
  replace HR:=Hd (HR.out.later b4)
  replace HNR:=Hd (HNR.out.later b4)
  have HB4:=Hd (below_on HB3.out b4)
  clear HB3
  clear b4 CN
  obtain⟨gs,hggs⟩:∃gs,w4.heap.size=gs:=⟨_,rfl⟩
  have lt_V_gs:g<gs:=by have:=HV.out.lt;rw[hggs]at this;exact this
  have lt_R_gs:g+1<gs:=by have:=HR.out.lt;rw[hggs]at this;exact this
  have lt_NR_gs:g+2<gs:=by have:=HNR.out.lt;rw[hggs]at this;exact this
  have le_gs:w.heap.size≤gs:=by have:=HB4.out.size;rw[hggs]at this;exact this
  go_upto_region 4 with (fail)
  have b5:=below_new (Below.refl w4.heap.size w4) (.cells #[.int .i64 sc,.int .i64 sn] 46)
  have hS:=Blk.new w4 46 #[.int .i64 sc,.int .i64 sn]
  obtain⟨w5,hw5⟩:∃x,w4.alloc (.cells #[.int .i64 sc,.int .i64 sn] 46)=x:=⟨_,rfl⟩
  rw[hw5]at b5 hS
  rw[hw5]
  replace HV:=Hd (HV.out.later b5)
  replace HR:=Hd (HR.out.later b5)
  replace HNR:=Hd (HNR.out.later b5)
  have HB5:=Hd (below_on HB4.out b5)
  clear HB4
  rw[hggs]at hS
  have HS:=Hd hS
  clear b5 hw5 hS
  have V_0:=HV.out.cell (i:=0) rfl
  have S_0:=HS.out.cell (i:=0) rfl
  have S_1:=HS.out.cell (i:=1) rfl
  have HLE:=Hd HB5.out.size
  go_wp2_with fail
  refine(CF.out _ HB5.out).mono ?_
  rintro e w6 ⟨NS,NE,NB,NV,ns,ne,nb,nv,rfl,hN,hlv,b6⟩
  clear V_0 S_0 S_1
  replace HV:=Hd (HV.out.later b6)
  replace HR:=Hd (HR.out.later b6)
  replace HNR:=Hd (HNR.out.later b6)
  replace HS:=Hd (HS.out.later b6)
  have HB6:=Hd (below_on HB5.out b6)
  clear HB5
  clear b6 CF
  have HLV:=Hd (hlv.lower HLE.out)
  clear hlv HLE
  unfold noteCells
  dsimp only
  have XN:=Hd hN
  clear hN
  obtain⟨gn,hggn⟩:∃gn,w6.heap.size=gn:=⟨_,rfl⟩
  have lt_V_gn:g<gn:=by have:=HV.out.lt;rw[hggn]at this;exact this
  have lt_R_gn:g+1<gn:=by have:=HR.out.lt;rw[hggn]at this;exact this
  have lt_NR_gn:g+2<gn:=by have:=HNR.out.lt;rw[hggn]at this;exact this
  have lt_S_gn:gs<gn:=by have:=HS.out.lt;rw[hggn]at this;exact this
  have le_gn:w.heap.size≤gn:=by have:=HB6.out.size;rw[hggn]at this;exact this
  go_upto_region 7 with (fail)
  have b7:=below_new (Below.refl w6.heap.size w6) (.cells #[.slice NS nt.s.length ns,.slice NE nt.e.length ne,.slice NB nt.b.length nb,.slice NV nt.ws.length nv] 40)
  have hN:=Blk.new w6 40 #[.slice NS nt.s.length ns,.slice NE nt.e.length ne,.slice NB nt.b.length nb,.slice NV nt.ws.length nv]
  obtain⟨w7,hw7⟩:∃x,w6.alloc (.cells #[.slice NS nt.s.length ns,.slice NE nt.e.length ne,.slice NB nt.b.length nb,.slice NV nt.ws.length nv] 40)=x:=⟨_,rfl⟩
  rw[hw7]at b7 hN
  rw[hw7]
  replace HV:=Hd (HV.out.later b7)
  replace HR:=Hd (HR.out.later b7)
  replace HNR:=Hd (HNR.out.later b7)
  replace HS:=Hd (HS.out.later b7)
  have HB7:=Hd (below_on HB6.out b7)
  clear HB6
  replace XN:=Hd (XN.out.later b7)
  rw[hggn]at hN
  have HN:=Hd hN
  clear b7 hw7 hN
  have V_0:=HV.out.cell (i:=0) rfl
  have V_1:=HV.out.cell (i:=1) rfl
  have V_2:=HV.out.cell (i:=2) rfl
  have V_3:=HV.out.cell (i:=3) rfl
  have V_4:=HV.out.cell (i:=4) rfl
  have N_0:=HN.out.cell (i:=0) rfl
  have N_1:=HN.out.cell (i:=1) rfl
  have N_2:=HN.out.cell (i:=2) rfl
  have N_3:=HN.out.cell (i:=3) rfl
  have HLE:=Hd HB7.out.size
  go_wp2_with fail
  refine(CT.out NS NE NB NV ns ne nb nv _ HB7.out XN.out).mono ?_
  rintro e w8 ⟨q1,rfl,hq1,hV1,hl1,b8⟩
  clear V_0 V_1 V_2 V_3 V_4 N_0 N_1 N_2 N_3
  replace HV:=Hd (HV.out.later b8)
  replace HR:=Hd (HR.out.later b8)
  replace HNR:=Hd (HNR.out.later b8)
  replace HS:=Hd (HS.out.later b8)
  replace HN:=Hd (HN.out.later b8)
  have HB8:=Hd (below_on HB7.out b8)
  clear HB7
  replace XN:=Hd (XN.out.later b8)
  clear b8 CT
  have HL1:=Hd (hl1.lower HLE.out)
  clear hl1 HLE
  obtain⟨K1,ck1,k1,Z1,cz1,z1,H1,ch1,h1,B1,cb1,b1,r1⟩:=q1
  have HQ1:=Hd hq1
  have XV1:=Hd hV1
  clear hq1 hV1
  unfold vwCells
  dsimp only
  obtain⟨gq,hggq⟩:∃gq,w8.heap.size=gq:=⟨_,rfl⟩
  have lt_V_gq:g<gq:=by have:=HV.out.lt;rw[hggq]at this;exact this
  have lt_R_gq:g+1<gq:=by have:=HR.out.lt;rw[hggq]at this;exact this
  have lt_NR_gq:g+2<gq:=by have:=HNR.out.lt;rw[hggq]at this;exact this
  have lt_S_gq:gs<gq:=by have:=HS.out.lt;rw[hggq]at this;exact this
  have lt_N_gq:gn<gq:=by have:=HN.out.lt;rw[hggq]at this;exact this
  have le_gq:w.heap.size≤gq:=by have:=HB8.out.size;rw[hggq]at this;exact this
  go_upto_region 10 with (fail)
  have b9:=below_new (Below.refl w8.heap.size w8) (.cells #[.slice K1 k1.length ck1,.slice Z1 z1.length cz1,.slice H1 h1.length ch1,.slice B1 b1.length cb1,.int .i64 r1] 27)
  have hQ:=Blk.new w8 27 #[.slice K1 k1.length ck1,.slice Z1 z1.length cz1,.slice H1 h1.length ch1,.slice B1 b1.length cb1,.int .i64 r1]
  obtain⟨w9,hw9⟩:∃x,w8.alloc (.cells #[.slice K1 k1.length ck1,.slice Z1 z1.length cz1,.slice H1 h1.length ch1,.slice B1 b1.length cb1,.int .i64 r1] 27)=x:=⟨_,rfl⟩
  rw[hw9]at b9 hQ
  rw[hw9]
  replace HV:=Hd (HV.out.later b9)
  replace HR:=Hd (HR.out.later b9)
  replace HNR:=Hd (HNR.out.later b9)
  replace HS:=Hd (HS.out.later b9)
  replace HN:=Hd (HN.out.later b9)
  have HB9:=Hd (below_on HB8.out b9)
  clear HB8
  replace XN:=Hd (XN.out.later b9)
  replace XV1:=Hd (XV1.out.later b9)
  rw[hggq]at hQ
  have HQ:=Hd hQ
  clear b9 hw9 hQ
  have Q_0:=HQ.out.cell (i:=0) rfl
  have Q_1:=HQ.out.cell (i:=1) rfl
  have Q_2:=HQ.out.cell (i:=2) rfl
  have Q_3:=HQ.out.cell (i:=3) rfl
  have Q_4:=HQ.out.cell (i:=4) rfl
  have S_0:=HS.out.cell (i:=0) rfl
  have S_1:=HS.out.cell (i:=1) rfl
  have HLE:=Hd HB9.out.size
  go_wp2_with fail
  refine(CB.out ⟨K1,ck1,k1,Z1,cz1,z1,H1,ch1,h1,B1,cb1,b1,r1⟩ HQ1.out _ HB9.out XV1.out).mono ?_
  rintro e w10 ⟨q2,rfl,hq2,hV2,hl2,b10⟩
  clear Q_0 Q_1 Q_2 Q_3 Q_4 S_0 S_1
  replace HV:=Hd (HV.out.later b10)
  replace HR:=Hd (HR.out.later b10)
  replace HNR:=Hd (HNR.out.later b10)
  replace HS:=Hd (HS.out.later b10)
  replace HN:=Hd (HN.out.later b10)
  replace HQ:=Hd (HQ.out.later b10)
  have HB10:=Hd (below_on HB9.out b10)
  clear HB9
  replace XN:=Hd (XN.out.later b10)
  replace XV1:=Hd (XV1.out.later b10)
  clear b10 CB
  have HL2:=Hd (hl2.lower HLE.out)
  clear hl2 HLE HL1
  obtain⟨K2,ck2,k2,Z2,cz2,z2,H2,ch2,h2,B2,cb2,b2,r2⟩:=q2
  have HQ2:=Hd hq2
  have XV2:=Hd hV2
  clear hq2 hV2 XV1
  unfold vwCells
  dsimp only
  have Q_0:=HQ.out.cell (i:=0) rfl
  have Q_1:=HQ.out.cell (i:=1) rfl
  have Q_2:=HQ.out.cell (i:=2) rfl
  have Q_3:=HQ.out.cell (i:=3) rfl
  have Q_4:=HQ.out.cell (i:=4) rfl
  have Q_f0:=HQ.out.free 0
  have Q_f1:=HQ.out.free 1
  have Q_f2:=HQ.out.free 2
  have Q_f3:=HQ.out.free 3
  have Q_f4:=HQ.out.free 4
  go_upto_region 12 with (fail)
  clear Q_0 Q_1 Q_2 Q_3 Q_4 Q_f0 Q_f1 Q_f2 Q_f3 Q_f4
  obtain⟨w11,hw11⟩:∃x,w10.setCell ⟨gq,0,none⟩ (.slice K2 k2.length ck2)=x:=⟨_,rfl⟩
  have t_XN:=XN.out.farQ HQ.out rfl 0 (.slice K2 k2.length ck2)
  have t_XV2:=XV2.out.far HQ.out rfl 0 (.slice K2 k2.length ck2)
  have t_HV:=HV.out.far (p:=⟨gq,0,none⟩) (by show g≠gq;omega) (.slice K2 k2.length ck2)
  have t_HR:=HR.out.far (p:=⟨gq,0,none⟩) (by show g+1≠gq;omega) (.slice K2 k2.length ck2)
  have t_HNR:=HNR.out.far (p:=⟨gq,0,none⟩) (by show g+2≠gq;omega) (.slice K2 k2.length ck2)
  have t_HS:=HS.out.far (p:=⟨gq,0,none⟩) (by show gs≠gq;omega) (.slice K2 k2.length ck2)
  have t_HN:=HN.out.far (p:=⟨gq,0,none⟩) (by show gn≠gq;omega) (.slice K2 k2.length ck2)
  have t_HQ:Blk (w10.setCell ⟨gq,0,none⟩ (.slice K2 k2.length ck2)) (gq) 27 #[.slice K2 k2.length ck2,.slice Z1 z1.length cz1,.slice H1 h1.length ch1,.slice B1 b1.length cb1,.int .i64 r1]:=HQ.out.put 0 (.slice K2 k2.length ck2)
  have t_HB11:=HB10.out.setCell (p:=⟨gq,0,none⟩) (by show w.heap.size≤gq;omega) (.slice K2 k2.length ck2)
  rw[hw11]at t_XN t_XV2 t_HV t_HR t_HNR t_HS t_HN t_HQ t_HB11
  rw[hw11]
  replace XN:=Hd t_XN
  replace XV2:=Hd t_XV2
  replace HV:=Hd t_HV
  replace HR:=Hd t_HR
  replace HNR:=Hd t_HNR
  replace HS:=Hd t_HS
  replace HN:=Hd t_HN
  replace HQ:=Hd t_HQ
  have HB11:=Hd t_HB11
  clear t_XN t_XV2 t_HV t_HR t_HNR t_HS t_HN t_HQ t_HB11 hw11 HB10
  obtain⟨w12,hw12⟩:∃x,w11.setCell ⟨gq,1,none⟩ (.slice Z2 z2.length cz2)=x:=⟨_,rfl⟩
  have t_XN:=XN.out.farQ HQ.out rfl 1 (.slice Z2 z2.length cz2)
  have t_XV2:=XV2.out.far HQ.out rfl 1 (.slice Z2 z2.length cz2)
  have t_HV:=HV.out.far (p:=⟨gq,1,none⟩) (by show g≠gq;omega) (.slice Z2 z2.length cz2)
  have t_HR:=HR.out.far (p:=⟨gq,1,none⟩) (by show g+1≠gq;omega) (.slice Z2 z2.length cz2)
  have t_HNR:=HNR.out.far (p:=⟨gq,1,none⟩) (by show g+2≠gq;omega) (.slice Z2 z2.length cz2)
  have t_HS:=HS.out.far (p:=⟨gq,1,none⟩) (by show gs≠gq;omega) (.slice Z2 z2.length cz2)
  have t_HN:=HN.out.far (p:=⟨gq,1,none⟩) (by show gn≠gq;omega) (.slice Z2 z2.length cz2)
  have t_HQ:Blk (w11.setCell ⟨gq,1,none⟩ (.slice Z2 z2.length cz2)) (gq) 27 #[.slice K2 k2.length ck2,.slice Z2 z2.length cz2,.slice H1 h1.length ch1,.slice B1 b1.length cb1,.int .i64 r1]:=HQ.out.put 1 (.slice Z2 z2.length cz2)
  have t_HB12:=HB11.out.setCell (p:=⟨gq,1,none⟩) (by show w.heap.size≤gq;omega) (.slice Z2 z2.length cz2)
  rw[hw12]at t_XN t_XV2 t_HV t_HR t_HNR t_HS t_HN t_HQ t_HB12
  rw[hw12]
  replace XN:=Hd t_XN
  replace XV2:=Hd t_XV2
  replace HV:=Hd t_HV
  replace HR:=Hd t_HR
  replace HNR:=Hd t_HNR
  replace HS:=Hd t_HS
  replace HN:=Hd t_HN
  replace HQ:=Hd t_HQ
  have HB12:=Hd t_HB12
  clear t_XN t_XV2 t_HV t_HR t_HNR t_HS t_HN t_HQ t_HB12 hw12 HB11
  obtain⟨w13,hw13⟩:∃x,w12.setCell ⟨gq,2,none⟩ (.slice H2 h2.length ch2)=x:=⟨_,rfl⟩
  have t_XN:=XN.out.farQ HQ.out rfl 2 (.slice H2 h2.length ch2)
  have t_XV2:=XV2.out.far HQ.out rfl 2 (.slice H2 h2.length ch2)
  have t_HV:=HV.out.far (p:=⟨gq,2,none⟩) (by show g≠gq;omega) (.slice H2 h2.length ch2)
  have t_HR:=HR.out.far (p:=⟨gq,2,none⟩) (by show g+1≠gq;omega) (.slice H2 h2.length ch2)
  have t_HNR:=HNR.out.far (p:=⟨gq,2,none⟩) (by show g+2≠gq;omega) (.slice H2 h2.length ch2)
  have t_HS:=HS.out.far (p:=⟨gq,2,none⟩) (by show gs≠gq;omega) (.slice H2 h2.length ch2)
  have t_HN:=HN.out.far (p:=⟨gq,2,none⟩) (by show gn≠gq;omega) (.slice H2 h2.length ch2)
  have t_HQ:Blk (w12.setCell ⟨gq,2,none⟩ (.slice H2 h2.length ch2)) (gq) 27 #[.slice K2 k2.length ck2,.slice Z2 z2.length cz2,.slice H2 h2.length ch2,.slice B1 b1.length cb1,.int .i64 r1]:=HQ.out.put 2 (.slice H2 h2.length ch2)
  have t_HB13:=HB12.out.setCell (p:=⟨gq,2,none⟩) (by show w.heap.size≤gq;omega) (.slice H2 h2.length ch2)
  rw[hw13]at t_XN t_XV2 t_HV t_HR t_HNR t_HS t_HN t_HQ t_HB13
  rw[hw13]
  replace XN:=Hd t_XN
  replace XV2:=Hd t_XV2
  replace HV:=Hd t_HV
  replace HR:=Hd t_HR
  replace HNR:=Hd t_HNR
  replace HS:=Hd t_HS
  replace HN:=Hd t_HN
  replace HQ:=Hd t_HQ
  have HB13:=Hd t_HB13
  clear t_XN t_XV2 t_HV t_HR t_HNR t_HS t_HN t_HQ t_HB13 hw13 HB12
  obtain⟨w14,hw14⟩:∃x,w13.setCell ⟨gq,3,none⟩ (.slice B2 b2.length cb2)=x:=⟨_,rfl⟩
  have t_XN:=XN.out.farQ HQ.out rfl 3 (.slice B2 b2.length cb2)
  have t_XV2:=XV2.out.far HQ.out rfl 3 (.slice B2 b2.length cb2)
  have t_HV:=HV.out.far (p:=⟨gq,3,none⟩) (by show g≠gq;omega) (.slice B2 b2.length cb2)
  have t_HR:=HR.out.far (p:=⟨gq,3,none⟩) (by show g+1≠gq;omega) (.slice B2 b2.length cb2)
  have t_HNR:=HNR.out.far (p:=⟨gq,3,none⟩) (by show g+2≠gq;omega) (.slice B2 b2.length cb2)
  have t_HS:=HS.out.far (p:=⟨gq,3,none⟩) (by show gs≠gq;omega) (.slice B2 b2.length cb2)
  have t_HN:=HN.out.far (p:=⟨gq,3,none⟩) (by show gn≠gq;omega) (.slice B2 b2.length cb2)
  have t_HQ:Blk (w13.setCell ⟨gq,3,none⟩ (.slice B2 b2.length cb2)) (gq) 27 #[.slice K2 k2.length ck2,.slice Z2 z2.length cz2,.slice H2 h2.length ch2,.slice B2 b2.length cb2,.int .i64 r1]:=HQ.out.put 3 (.slice B2 b2.length cb2)
  have t_HB14:=HB13.out.setCell (p:=⟨gq,3,none⟩) (by show w.heap.size≤gq;omega) (.slice B2 b2.length cb2)
  rw[hw14]at t_XN t_XV2 t_HV t_HR t_HNR t_HS t_HN t_HQ t_HB14
  rw[hw14]
  replace XN:=Hd t_XN
  replace XV2:=Hd t_XV2
  replace HV:=Hd t_HV
  replace HR:=Hd t_HR
  replace HNR:=Hd t_HNR
  replace HS:=Hd t_HS
  replace HN:=Hd t_HN
  replace HQ:=Hd t_HQ
  have HB14:=Hd t_HB14
  clear t_XN t_XV2 t_HV t_HR t_HNR t_HS t_HN t_HQ t_HB14 hw14 HB13
  obtain⟨w15,hw15⟩:∃x,w14.setCell ⟨gq,4,none⟩ (.int .i64 r2)=x:=⟨_,rfl⟩
  have t_XN:=XN.out.farQ HQ.out rfl 4 (.int .i64 r2)
  have t_XV2:=XV2.out.far HQ.out rfl 4 (.int .i64 r2)
  have t_HV:=HV.out.far (p:=⟨gq,4,none⟩) (by show g≠gq;omega) (.int .i64 r2)
  have t_HR:=HR.out.far (p:=⟨gq,4,none⟩) (by show g+1≠gq;omega) (.int .i64 r2)
  have t_HNR:=HNR.out.far (p:=⟨gq,4,none⟩) (by show g+2≠gq;omega) (.int .i64 r2)
  have t_HS:=HS.out.far (p:=⟨gq,4,none⟩) (by show gs≠gq;omega) (.int .i64 r2)
  have t_HN:=HN.out.far (p:=⟨gq,4,none⟩) (by show gn≠gq;omega) (.int .i64 r2)
  have t_HQ:Blk (w14.setCell ⟨gq,4,none⟩ (.int .i64 r2)) (gq) 27 #[.slice K2 k2.length ck2,.slice Z2 z2.length cz2,.slice H2 h2.length ch2,.slice B2 b2.length cb2,.int .i64 r2]:=HQ.out.put 4 (.int .i64 r2)
  have t_HB15:=HB14.out.setCell (p:=⟨gq,4,none⟩) (by show w.heap.size≤gq;omega) (.int .i64 r2)
  rw[hw15]at t_XN t_XV2 t_HV t_HR t_HNR t_HS t_HN t_HQ t_HB15
  rw[hw15]
  replace XN:=Hd t_XN
  replace XV2:=Hd t_XV2
  replace HV:=Hd t_HV
  replace HR:=Hd t_HR
  replace HNR:=Hd t_HNR
  replace HS:=Hd t_HS
  replace HN:=Hd t_HN
  replace HQ:=Hd t_HQ
  have HB15:=Hd t_HB15
  clear t_XN t_XV2 t_HV t_HR t_HNR t_HS t_HN t_HQ t_HB15 hw15 HB14
  have Q_0:=HQ.out.cell (i:=0) rfl
  have Q_1:=HQ.out.cell (i:=1) rfl
  have Q_2:=HQ.out.cell (i:=2) rfl
  have Q_3:=HQ.out.cell (i:=3) rfl
  have Q_4:=HQ.out.cell (i:=4) rfl
  have N_0:=HN.out.cell (i:=0) rfl
  have N_1:=HN.out.cell (i:=1) rfl
  have N_2:=HN.out.cell (i:=2) rfl
  have N_3:=HN.out.cell (i:=3) rfl
  have hTW:=Vd.two (r:=g+1) (n:=g+2) (.slice K2 k2.length ck2) (.slice Z2 z2.length cz2) (.slice H2 h2.length ch2) (.slice B2 b2.length cb2) (.int .i64 r2) (.slice NS nt.s.length ns) (.slice NE nt.e.length ne) (.slice NB nt.b.length nb) (.slice NV nt.ws.length nv) HR.out HNR.out (by omega) HB15.out (by omega) (by omega) (by refine⟨rfl,rfl,rfl,rfl,rfl,rfl,rfl,rfl,rfl⟩)
  replace hTW:=Vd.two_drew hTW
  have HTW:=Hd hTW
  clear hTW
  have R_0:=HR.out.cell (i:=0) rfl
  have R_1:=HR.out.cell (i:=1) rfl
  have R_2:=HR.out.cell (i:=2) rfl
  have R_3:=HR.out.cell (i:=3) rfl
  have R_4:=HR.out.cell (i:=4) rfl
  have NR_0:=HNR.out.cell (i:=0) rfl
  have NR_1:=HNR.out.cell (i:=1) rfl
  have NR_2:=HNR.out.cell (i:=2) rfl
  have NR_3:=HNR.out.cell (i:=3) rfl
  have R_f0:=HR.out.free 0
  have R_f1:=HR.out.free 1
  have R_f2:=HR.out.free 2
  have R_f3:=HR.out.free 3
  have R_f4:=HR.out.free 4
  have NR_f0:=HNR.out.free 0
  have NR_f1:=HNR.out.free 1
  have NR_f2:=HNR.out.free 2
  have NR_f3:=HNR.out.free 3
  go_wp2_with fail
  go_region
  all_goals
    go_wp2
    clear Q_0 Q_1 Q_2 Q_3 Q_4 N_0 N_1 N_2 N_3 R_0 R_1 R_2 R_3 R_4 NR_0 NR_1 NR_2 NR_3 R_f0 R_f1 R_f2 R_f3 R_f4 NR_f0 NR_f1 NR_f2 NR_f3
    exact bodyPost_ret (results_cell_cell_tmp (p1:=12) (p2:=13) (t:=14) (ty1:=27) (ty2:=40) rfl _ _ (g+1) (g+2) 27 40 #[.slice K2 k2.length ck2,.slice Z2 z2.length cz2,.slice H2 h2.length ch2,.slice B2 b2.length cb2,.int .i64 r2] #[.slice NS nt.s.length ns,.slice NE nt.e.length ne,.slice NB nt.b.length nb,.slice NV nt.ws.length nv] _ _ rfl rfl HTW.out.1 HTW.out.2.1 Tryz.underlying27 rfl infoVw Tryz.underlying40 rfl infoNt4) rfl ⟨⟨K2,ck2,k2,Z2,cz2,z2,H2,ch2,h2,B2,cb2,b2,r2⟩,NS,NE,NB,NV,ns,ne,nb,nv,rfl,HQ2.out,XV2.out.mild HTW.out.2.2.2,NoteAt.mild XN.out HTW.out.2.2.2,HL2.out,HLV.out,HTW.out.2.2.1⟩
 ·rw[if_neg hbe]
  have d5:(be != 0)=true:=by rw[bne_iff_ne];exact hbe
  clear hbe
  have hb0:=below_new (below_new (below_new (Below.refl w.heap.size w) (.cells #[.slice K kn.length ck,.slice Z zs.length cz,.slice H hs.length ch,.slice B bs.length cb,.int .i64 room] 27)) (.cells #[.slice none 0 0,.slice none 0 0,.slice none 0 0,.slice none 0 0,.int .i64 0] 27)) (.cells #[.slice none 0 0,.slice none 0 0,.slice none 0 0,.slice none 0 0] 40)
  have hV:=((Blk.new w 27 #[.slice K kn.length ck,.slice Z zs.length cz,.slice H hs.length ch,.slice B bs.length cb,.int .i64 room]).alloc (.cells #[.slice none 0 0,.slice none 0 0,.slice none 0 0,.slice none 0 0,.int .i64 0] 27)).alloc (.cells #[.slice none 0 0,.slice none 0 0,.slice none 0 0,.slice none 0 0] 40)
  have hR:=(Blk.new (w.alloc (.cells #[.slice K kn.length ck,.slice Z zs.length cz,.slice H hs.length ch,.slice B bs.length cb,.int .i64 room] 27)) 27 #[.slice none 0 0,.slice none 0 0,.slice none 0 0,.slice none 0 0,.int .i64 0]).alloc (.cells #[.slice none 0 0,.slice none 0 0,.slice none 0 0,.slice none 0 0] 40)
  simp only[World.size_alloc]at hR
  have hNR:=Blk.new ((w.alloc (.cells #[.slice K kn.length ck,.slice Z zs.length cz,.slice H hs.length ch,.slice B bs.length cb,.int .i64 room] 27)).alloc (.cells #[.slice none 0 0,.slice none 0 0,.slice none 0 0,.slice none 0 0,.int .i64 0] 27)) 40 #[.slice none 0 0,.slice none 0 0,.slice none 0 0,.slice none 0 0]
  simp only[World.size_alloc]at hNR
  obtain⟨W,hW⟩:∃W,((w.alloc (.cells #[.slice K kn.length ck,.slice Z zs.length cz,.slice H hs.length ch,.slice B bs.length cb,.int .i64 room] 27)).alloc (.cells #[.slice none 0 0,.slice none 0 0,.slice none 0 0,.slice none 0 0,.int .i64 0] 27)).alloc (.cells #[.slice none 0 0,.slice none 0 0,.slice none 0 0,.slice none 0 0] 40)=W:=⟨_,rfl⟩
  rw[hW]at hb0 hV hR hNR
  have HW:=Hd hW
  obtain⟨g,hgg⟩:∃g,w.heap.size=g:=⟨_,rfl⟩
  rw[hgg]at hV hR hNR
  have HV:=Hd (show Blk W (g) 27 #[.slice K kn.length ck,.slice Z zs.length cz,.slice H hs.length ch,.slice B bs.length cb,.int .i64 room] from hV)
  have HR:=Hd (show Blk W (g+1) 27 #[.slice none 0 0,.slice none 0 0,.slice none 0 0,.slice none 0 0,.int .i64 0] from hR)
  have HNR:=Hd (show Blk W (g+2) 40 #[.slice none 0 0,.slice none 0 0,.slice none 0 0,.slice none 0 0] from hNR)
  have HB0:=Hd hb0
  clear hW hb0 hV hR hNR
  go_enter Tryz.func37,Tryz.ntmps37
  go_upto_region 1 with (fail)
  rw[HW.out]
  clear HW
  have V_0:=HV.out.cell (i:=0) rfl
  have V_1:=HV.out.cell (i:=1) rfl
  have V_2:=HV.out.cell (i:=2) rfl
  have V_3:=HV.out.cell (i:=3) rfl
  have V_4:=HV.out.cell (i:=4) rfl
  go_wp2_with fail
  refine(C1.out _ HB0.out).mono ?_
  rintro e w1 ⟨rfl,b1⟩
  clear V_0 V_1 V_2 V_3 V_4
  replace HV:=Hd (HV.out.later b1)
  replace HR:=Hd (HR.out.later b1)
  replace HNR:=Hd (HNR.out.later b1)
  have HB1:=Hd (below_on HB0.out b1)
  clear HB0
  clear b1 C1
  go_wp2_with fail
  refine(CO.out _).mono ?_
  rintro e w2 ⟨rfl,b2⟩
  replace HV:=Hd (HV.out.later b2)
  replace HR:=Hd (HR.out.later b2)
  replace HNR:=Hd (HNR.out.later b2)
  have HB2:=Hd (below_on HB1.out b2)
  clear HB1
  clear b2 CO
  have V_0:=HV.out.cell (i:=0) rfl
  go_wp2_with fail
  refine(CG.out _ HB2.out).mono ?_
  rintro e w3 ⟨rfl,b3⟩
  clear V_0
  replace HV:=Hd (HV.out.later b3)
  replace HR:=Hd (HR.out.later b3)
  replace HNR:=Hd (HNR.out.later b3)
  have HB3:=Hd (below_on HB2.out b3)
  clear HB2
  clear b3 CG
  go_wp2_with fail
  refine(CN.out _).mono ?_
  rintro e w4 ⟨rfl,b4⟩
  replace HV:=Hd (HV.out.later b4)
  replace HR:=Hd (HR.out.later b4)
  replace HNR:=Hd (HNR.out.later b4)
  have HB4:=Hd (below_on HB3.out b4)
  clear HB3
  clear b4 CN
  obtain⟨gs,hggs⟩:∃gs,w4.heap.size=gs:=⟨_,rfl⟩
  have lt_V_gs:g<gs:=by have:=HV.out.lt;rw[hggs]at this;exact this
  have lt_R_gs:g+1<gs:=by have:=HR.out.lt;rw[hggs]at this;exact this
  have lt_NR_gs:g+2<gs:=by have:=HNR.out.lt;rw[hggs]at this;exact this
  have le_gs:w.heap.size≤gs:=by have:=HB4.out.size;rw[hggs]at this;exact this
  go_upto_region 4 with (fail)
  have b5:=below_new (Below.refl w4.heap.size w4) (.cells #[.int .i64 sc,.int .i64 sn] 46)
  have hS:=Blk.new w4 46 #[.int .i64 sc,.int .i64 sn]
  obtain⟨w5,hw5⟩:∃x,w4.alloc (.cells #[.int .i64 sc,.int .i64 sn] 46)=x:=⟨_,rfl⟩
  rw[hw5]at b5 hS
  rw[hw5]
  replace HV:=Hd (HV.out.later b5)
  replace HR:=Hd (HR.out.later b5)
  replace HNR:=Hd (HNR.out.later b5)
  have HB5:=Hd (below_on HB4.out b5)
  clear HB4
  rw[hggs]at hS
  have HS:=Hd hS
  clear b5 hw5 hS
  have V_0:=HV.out.cell (i:=0) rfl
  have S_0:=HS.out.cell (i:=0) rfl
  have S_1:=HS.out.cell (i:=1) rfl
  have HLE:=Hd HB5.out.size
  go_wp2_with fail
  refine(CF.out _ HB5.out).mono ?_
  rintro e w6 ⟨NS,NE,NB,NV,ns,ne,nb,nv,rfl,hN,hlv,b6⟩
  clear V_0 S_0 S_1
  replace HV:=Hd (HV.out.later b6)
  replace HR:=Hd (HR.out.later b6)
  replace HNR:=Hd (HNR.out.later b6)
  replace HS:=Hd (HS.out.later b6)
  have HB6:=Hd (below_on HB5.out b6)
  clear HB5
  clear b6 CF
  have HLV:=Hd (hlv.lower HLE.out)
  clear hlv HLE
  unfold noteCells
  dsimp only
  have XN:=Hd hN
  clear hN
  obtain⟨gn,hggn⟩:∃gn,w6.heap.size=gn:=⟨_,rfl⟩
  have lt_V_gn:g<gn:=by have:=HV.out.lt;rw[hggn]at this;exact this
  have lt_R_gn:g+1<gn:=by have:=HR.out.lt;rw[hggn]at this;exact this
  have lt_NR_gn:g+2<gn:=by have:=HNR.out.lt;rw[hggn]at this;exact this
  have lt_S_gn:gs<gn:=by have:=HS.out.lt;rw[hggn]at this;exact this
  have le_gn:w.heap.size≤gn:=by have:=HB6.out.size;rw[hggn]at this;exact this
  go_upto_region 7 with (fail)
  have b7:=below_new (Below.refl w6.heap.size w6) (.cells #[.slice NS nt.s.length ns,.slice NE nt.e.length ne,.slice NB nt.b.length nb,.slice NV nt.ws.length nv] 40)
  have hN:=Blk.new w6 40 #[.slice NS nt.s.length ns,.slice NE nt.e.length ne,.slice NB nt.b.length nb,.slice NV nt.ws.length nv]
  obtain⟨w7,hw7⟩:∃x,w6.alloc (.cells #[.slice NS nt.s.length ns,.slice NE nt.e.length ne,.slice NB nt.b.length nb,.slice NV nt.ws.length nv] 40)=x:=⟨_,rfl⟩
  rw[hw7]at b7 hN
  rw[hw7]
  replace HV:=Hd (HV.out.later b7)
  replace HR:=Hd (HR.out.later b7)
  replace HNR:=Hd (HNR.out.later b7)
  replace HS:=Hd (HS.out.later b7)
  have HB7:=Hd (below_on HB6.out b7)
  clear HB6
  replace XN:=Hd (XN.out.later b7)
  rw[hggn]at hN
  have HN:=Hd hN
  clear b7 hw7 hN
  have V_0:=HV.out.cell (i:=0) rfl
  have V_1:=HV.out.cell (i:=1) rfl
  have V_2:=HV.out.cell (i:=2) rfl
  have V_3:=HV.out.cell (i:=3) rfl
  have V_4:=HV.out.cell (i:=4) rfl
  have N_0:=HN.out.cell (i:=0) rfl
  have N_1:=HN.out.cell (i:=1) rfl
  have N_2:=HN.out.cell (i:=2) rfl
  have N_3:=HN.out.cell (i:=3) rfl
  have HLE:=Hd HB7.out.size
  go_wp2_with fail
  refine(CT.out NS NE NB NV ns ne nb nv _ HB7.out XN.out).mono ?_
  rintro e w8 ⟨q1,rfl,hq1,hV1,hl1,b8⟩
  clear V_0 V_1 V_2 V_3 V_4 N_0 N_1 N_2 N_3
  replace HV:=Hd (HV.out.later b8)
  replace HR:=Hd (HR.out.later b8)
  replace HNR:=Hd (HNR.out.later b8)
  replace HS:=Hd (HS.out.later b8)
  replace HN:=Hd (HN.out.later b8)
  have HB8:=Hd (below_on HB7.out b8)
  clear HB7
  replace XN:=Hd (XN.out.later b8)
  clear b8 CT
  have HL1:=Hd (hl1.lower HLE.out)
  clear hl1 HLE
  obtain⟨K1,ck1,k1,Z1,cz1,z1,H1,ch1,h1,B1,cb1,b1,r1⟩:=q1
  have HQ1:=Hd hq1
  have XV1:=Hd hV1
  clear hq1 hV1
  unfold vwCells
  dsimp only
  obtain⟨gq,hggq⟩:∃gq,w8.heap.size=gq:=⟨_,rfl⟩
  have lt_V_gq:g<gq:=by have:=HV.out.lt;rw[hggq]at this;exact this
  have lt_R_gq:g+1<gq:=by have:=HR.out.lt;rw[hggq]at this;exact this
  have lt_NR_gq:g+2<gq:=by have:=HNR.out.lt;rw[hggq]at this;exact this
  have lt_S_gq:gs<gq:=by have:=HS.out.lt;rw[hggq]at this;exact this
  have lt_N_gq:gn<gq:=by have:=HN.out.lt;rw[hggq]at this;exact this
  have le_gq:w.heap.size≤gq:=by have:=HB8.out.size;rw[hggq]at this;exact this
  go_upto_region 10 with (fail)
  have b9:=below_new (Below.refl w8.heap.size w8) (.cells #[.slice K1 k1.length ck1,.slice Z1 z1.length cz1,.slice H1 h1.length ch1,.slice B1 b1.length cb1,.int .i64 r1] 27)
  have hQ:=Blk.new w8 27 #[.slice K1 k1.length ck1,.slice Z1 z1.length cz1,.slice H1 h1.length ch1,.slice B1 b1.length cb1,.int .i64 r1]
  obtain⟨w9,hw9⟩:∃x,w8.alloc (.cells #[.slice K1 k1.length ck1,.slice Z1 z1.length cz1,.slice H1 h1.length ch1,.slice B1 b1.length cb1,.int .i64 r1] 27)=x:=⟨_,rfl⟩
  rw[hw9]at b9 hQ
  rw[hw9]
  replace HV:=Hd (HV.out.later b9)
  replace HR:=Hd (HR.out.later b9)
  replace HNR:=Hd (HNR.out.later b9)
  replace HS:=Hd (HS.out.later b9)
  replace HN:=Hd (HN.out.later b9)
  have HB9:=Hd (below_on HB8.out b9)
  clear HB8
  replace XN:=Hd (XN.out.later b9)
  replace XV1:=Hd (XV1.out.later b9)
  rw[hggq]at hQ
  have HQ:=Hd hQ
  clear b9 hw9 hQ
  have Q_0:=HQ.out.cell (i:=0) rfl
  have Q_1:=HQ.out.cell (i:=1) rfl
  have Q_2:=HQ.out.cell (i:=2) rfl
  have Q_3:=HQ.out.cell (i:=3) rfl
  have Q_4:=HQ.out.cell (i:=4) rfl
  have S_0:=HS.out.cell (i:=0) rfl
  have S_1:=HS.out.cell (i:=1) rfl
  have HLE:=Hd HB9.out.size
  go_wp2_with fail
  refine(CB.out ⟨K1,ck1,k1,Z1,cz1,z1,H1,ch1,h1,B1,cb1,b1,r1⟩ HQ1.out _ HB9.out XV1.out).mono ?_
  rintro e w10 ⟨q2,rfl,hq2,hV2,hl2,b10⟩
  clear Q_0 Q_1 Q_2 Q_3 Q_4 S_0 S_1
  replace HV:=Hd (HV.out.later b10)
  replace HR:=Hd (HR.out.later b10)
  replace HNR:=Hd (HNR.out.later b10)
  replace HS:=Hd (HS.out.later b10)
  replace HN:=Hd (HN.out.later b10)
  replace HQ:=Hd (HQ.out.later b10)
  have HB10:=Hd (below_on HB9.out b10)
  clear HB9
  replace XN:=Hd (XN.out.later b10)
  replace XV1:=Hd (XV1.out.later b10)
  clear b10 CB
  have HL2:=Hd (hl2.lower HLE.out)
  clear hl2 HLE HL1
  obtain⟨K2,ck2,k2,Z2,cz2,z2,H2,ch2,h2,B2,cb2,b2,r2⟩:=q2
  have HQ2:=Hd hq2
  have XV2:=Hd hV2
  clear hq2 hV2 XV1
  unfold vwCells
  dsimp only
  have Q_0:=HQ.out.cell (i:=0) rfl
  have Q_1:=HQ.out.cell (i:=1) rfl
  have Q_2:=HQ.out.cell (i:=2) rfl
  have Q_3:=HQ.out.cell (i:=3) rfl
  have Q_4:=HQ.out.cell (i:=4) rfl
  have Q_f0:=HQ.out.free 0
  have Q_f1:=HQ.out.free 1
  have Q_f2:=HQ.out.free 2
  have Q_f3:=HQ.out.free 3
  have Q_f4:=HQ.out.free 4
  go_upto_region 12 with (fail)
  clear Q_0 Q_1 Q_2 Q_3 Q_4 Q_f0 Q_f1 Q_f2 Q_f3 Q_f4
  obtain⟨w11,hw11⟩:∃x,w10.setCell ⟨gq,0,none⟩ (.slice K2 k2.length ck2)=x:=⟨_,rfl⟩
  have t_XN:=XN.out.farQ HQ.out rfl 0 (.slice K2 k2.length ck2)
  have t_XV2:=XV2.out.far HQ.out rfl 0 (.slice K2 k2.length ck2)
  have t_HV:=HV.out.far (p:=⟨gq,0,none⟩) (by show g≠gq;omega) (.slice K2 k2.length ck2)
  have t_HR:=HR.out.far (p:=⟨gq,0,none⟩) (by show g+1≠gq;omega) (.slice K2 k2.length ck2)
  have t_HNR:=HNR.out.far (p:=⟨gq,0,none⟩) (by show g+2≠gq;omega) (.slice K2 k2.length ck2)
  have t_HS:=HS.out.far (p:=⟨gq,0,none⟩) (by show gs≠gq;omega) (.slice K2 k2.length ck2)
  have t_HN:=HN.out.far (p:=⟨gq,0,none⟩) (by show gn≠gq;omega) (.slice K2 k2.length ck2)
  have t_HQ:Blk (w10.setCell ⟨gq,0,none⟩ (.slice K2 k2.length ck2)) (gq) 27 #[.slice K2 k2.length ck2,.slice Z1 z1.length cz1,.slice H1 h1.length ch1,.slice B1 b1.length cb1,.int .i64 r1]:=HQ.out.put 0 (.slice K2 k2.length ck2)
  have t_HB11:=HB10.out.setCell (p:=⟨gq,0,none⟩) (by show w.heap.size≤gq;omega) (.slice K2 k2.length ck2)
  rw[hw11]at t_XN t_XV2 t_HV t_HR t_HNR t_HS t_HN t_HQ t_HB11
  rw[hw11]
  replace XN:=Hd t_XN
  replace XV2:=Hd t_XV2
  replace HV:=Hd t_HV
  replace HR:=Hd t_HR
  replace HNR:=Hd t_HNR
  replace HS:=Hd t_HS
  replace HN:=Hd t_HN
  replace HQ:=Hd t_HQ
  have HB11:=Hd t_HB11
  clear t_XN t_XV2 t_HV t_HR t_HNR t_HS t_HN t_HQ t_HB11 hw11 HB10
  obtain⟨w12,hw12⟩:∃x,w11.setCell ⟨gq,1,none⟩ (.slice Z2 z2.length cz2)=x:=⟨_,rfl⟩
  have t_XN:=XN.out.farQ HQ.out rfl 1 (.slice Z2 z2.length cz2)
  have t_XV2:=XV2.out.far HQ.out rfl 1 (.slice Z2 z2.length cz2)
  have t_HV:=HV.out.far (p:=⟨gq,1,none⟩) (by show g≠gq;omega) (.slice Z2 z2.length cz2)
  have t_HR:=HR.out.far (p:=⟨gq,1,none⟩) (by show g+1≠gq;omega) (.slice Z2 z2.length cz2)
  have t_HNR:=HNR.out.far (p:=⟨gq,1,none⟩) (by show g+2≠gq;omega) (.slice Z2 z2.length cz2)
  have t_HS:=HS.out.far (p:=⟨gq,1,none⟩) (by show gs≠gq;omega) (.slice Z2 z2.length cz2)
  have t_HN:=HN.out.far (p:=⟨gq,1,none⟩) (by show gn≠gq;omega) (.slice Z2 z2.length cz2)
  have t_HQ:Blk (w11.setCell ⟨gq,1,none⟩ (.slice Z2 z2.length cz2)) (gq) 27 #[.slice K2 k2.length ck2,.slice Z2 z2.length cz2,.slice H1 h1.length ch1,.slice B1 b1.length cb1,.int .i64 r1]:=HQ.out.put 1 (.slice Z2 z2.length cz2)
  have t_HB12:=HB11.out.setCell (p:=⟨gq,1,none⟩) (by show w.heap.size≤gq;omega) (.slice Z2 z2.length cz2)
  rw[hw12]at t_XN t_XV2 t_HV t_HR t_HNR t_HS t_HN t_HQ t_HB12
  rw[hw12]
  replace XN:=Hd t_XN
  replace XV2:=Hd t_XV2
  replace HV:=Hd t_HV
  replace HR:=Hd t_HR
  replace HNR:=Hd t_HNR
  replace HS:=Hd t_HS
  replace HN:=Hd t_HN
  replace HQ:=Hd t_HQ
  have HB12:=Hd t_HB12
  clear t_XN t_XV2 t_HV t_HR t_HNR t_HS t_HN t_HQ t_HB12 hw12 HB11
  obtain⟨w13,hw13⟩:∃x,w12.setCell ⟨gq,2,none⟩ (.slice H2 h2.length ch2)=x:=⟨_,rfl⟩
  have t_XN:=XN.out.farQ HQ.out rfl 2 (.slice H2 h2.length ch2)
  have t_XV2:=XV2.out.far HQ.out rfl 2 (.slice H2 h2.length ch2)
  have t_HV:=HV.out.far (p:=⟨gq,2,none⟩) (by show g≠gq;omega) (.slice H2 h2.length ch2)
  have t_HR:=HR.out.far (p:=⟨gq,2,none⟩) (by show g+1≠gq;omega) (.slice H2 h2.length ch2)
  have t_HNR:=HNR.out.far (p:=⟨gq,2,none⟩) (by show g+2≠gq;omega) (.slice H2 h2.length ch2)
  have t_HS:=HS.out.far (p:=⟨gq,2,none⟩) (by show gs≠gq;omega) (.slice H2 h2.length ch2)
  have t_HN:=HN.out.far (p:=⟨gq,2,none⟩) (by show gn≠gq;omega) (.slice H2 h2.length ch2)
  have t_HQ:Blk (w12.setCell ⟨gq,2,none⟩ (.slice H2 h2.length ch2)) (gq) 27 #[.slice K2 k2.length ck2,.slice Z2 z2.length cz2,.slice H2 h2.length ch2,.slice B1 b1.length cb1,.int .i64 r1]:=HQ.out.put 2 (.slice H2 h2.length ch2)
  have t_HB13:=HB12.out.setCell (p:=⟨gq,2,none⟩) (by show w.heap.size≤gq;omega) (.slice H2 h2.length ch2)
  rw[hw13]at t_XN t_XV2 t_HV t_HR t_HNR t_HS t_HN t_HQ t_HB13
  rw[hw13]
  replace XN:=Hd t_XN
  replace XV2:=Hd t_XV2
  replace HV:=Hd t_HV
  replace HR:=Hd t_HR
  replace HNR:=Hd t_HNR
  replace HS:=Hd t_HS
  replace HN:=Hd t_HN
  replace HQ:=Hd t_HQ
  have HB13:=Hd t_HB13
  clear t_XN t_XV2 t_HV t_HR t_HNR t_HS t_HN t_HQ t_HB13 hw13 HB12
  obtain⟨w14,hw14⟩:∃x,w13.setCell ⟨gq,3,none⟩ (.slice B2 b2.length cb2)=x:=⟨_,rfl⟩
  have t_XN:=XN.out.farQ HQ.out rfl 3 (.slice B2 b2.length cb2)
  have t_XV2:=XV2.out.far HQ.out rfl 3 (.slice B2 b2.length cb2)
  have t_HV:=HV.out.far (p:=⟨gq,3,none⟩) (by show g≠gq;omega) (.slice B2 b2.length cb2)
  have t_HR:=HR.out.far (p:=⟨gq,3,none⟩) (by show g+1≠gq;omega) (.slice B2 b2.length cb2)
  have t_HNR:=HNR.out.far (p:=⟨gq,3,none⟩) (by show g+2≠gq;omega) (.slice B2 b2.length cb2)
  have t_HS:=HS.out.far (p:=⟨gq,3,none⟩) (by show gs≠gq;omega) (.slice B2 b2.length cb2)
  have t_HN:=HN.out.far (p:=⟨gq,3,none⟩) (by show gn≠gq;omega) (.slice B2 b2.length cb2)
  have t_HQ:Blk (w13.setCell ⟨gq,3,none⟩ (.slice B2 b2.length cb2)) (gq) 27 #[.slice K2 k2.length ck2,.slice Z2 z2.length cz2,.slice H2 h2.length ch2,.slice B2 b2.length cb2,.int .i64 r1]:=HQ.out.put 3 (.slice B2 b2.length cb2)
  have t_HB14:=HB13.out.setCell (p:=⟨gq,3,none⟩) (by show w.heap.size≤gq;omega) (.slice B2 b2.length cb2)
  rw[hw14]at t_XN t_XV2 t_HV t_HR t_HNR t_HS t_HN t_HQ t_HB14
  rw[hw14]
  replace XN:=Hd t_XN
  replace XV2:=Hd t_XV2
  replace HV:=Hd t_HV
  replace HR:=Hd t_HR
  replace HNR:=Hd t_HNR
  replace HS:=Hd t_HS
  replace HN:=Hd t_HN
  replace HQ:=Hd t_HQ
  have HB14:=Hd t_HB14
  clear t_XN t_XV2 t_HV t_HR t_HNR t_HS t_HN t_HQ t_HB14 hw14 HB13
  obtain⟨w15,hw15⟩:∃x,w14.setCell ⟨gq,4,none⟩ (.int .i64 r2)=x:=⟨_,rfl⟩
  have t_XN:=XN.out.farQ HQ.out rfl 4 (.int .i64 r2)
  have t_XV2:=XV2.out.far HQ.out rfl 4 (.int .i64 r2)
  have t_HV:=HV.out.far (p:=⟨gq,4,none⟩) (by show g≠gq;omega) (.int .i64 r2)
  have t_HR:=HR.out.far (p:=⟨gq,4,none⟩) (by show g+1≠gq;omega) (.int .i64 r2)
  have t_HNR:=HNR.out.far (p:=⟨gq,4,none⟩) (by show g+2≠gq;omega) (.int .i64 r2)
  have t_HS:=HS.out.far (p:=⟨gq,4,none⟩) (by show gs≠gq;omega) (.int .i64 r2)
  have t_HN:=HN.out.far (p:=⟨gq,4,none⟩) (by show gn≠gq;omega) (.int .i64 r2)
  have t_HQ:Blk (w14.setCell ⟨gq,4,none⟩ (.int .i64 r2)) (gq) 27 #[.slice K2 k2.length ck2,.slice Z2 z2.length cz2,.slice H2 h2.length ch2,.slice B2 b2.length cb2,.int .i64 r2]:=HQ.out.put 4 (.int .i64 r2)
  have t_HB15:=HB14.out.setCell (p:=⟨gq,4,none⟩) (by show w.heap.size≤gq;omega) (.int .i64 r2)
  rw[hw15]at t_XN t_XV2 t_HV t_HR t_HNR t_HS t_HN t_HQ t_HB15
  rw[hw15]
  replace XN:=Hd t_XN
  replace XV2:=Hd t_XV2
  replace HV:=Hd t_HV
  replace HR:=Hd t_HR
  replace HNR:=Hd t_HNR
  replace HS:=Hd t_HS
  replace HN:=Hd t_HN
  replace HQ:=Hd t_HQ
  have HB15:=Hd t_HB15
  clear t_XN t_XV2 t_HV t_HR t_HNR t_HS t_HN t_HQ t_HB15 hw15 HB14
  have hTW:=Vd.two (r:=g+1) (n:=g+2) (.slice none 0 0) (.slice none 0 0) (.slice none 0 0) (.slice none 0 0) (.int .i64 0) (.slice none 0 0) (.slice none 0 0) (.slice none 0 0) (.slice none 0 0) HR.out HNR.out (by omega) HB15.out (by omega) (by omega) (by refine⟨rfl,rfl,rfl,rfl,rfl,rfl,rfl,rfl,rfl⟩)
  have HTW:=Hd hTW
  clear hTW
  have R_0:=HR.out.cell (i:=0) rfl
  have R_1:=HR.out.cell (i:=1) rfl
  have R_2:=HR.out.cell (i:=2) rfl
  have R_3:=HR.out.cell (i:=3) rfl
  have R_4:=HR.out.cell (i:=4) rfl
  have NR_0:=HNR.out.cell (i:=0) rfl
  have NR_1:=HNR.out.cell (i:=1) rfl
  have NR_2:=HNR.out.cell (i:=2) rfl
  have NR_3:=HNR.out.cell (i:=3) rfl
  have R_f0:=HR.out.free 0
  have R_f1:=HR.out.free 1
  have R_f2:=HR.out.free 2
  have R_f3:=HR.out.free 3
  have R_f4:=HR.out.free 4
  have NR_f0:=HNR.out.free 0
  have NR_f1:=HNR.out.free 1
  have NR_f2:=HNR.out.free 2
  have NR_f3:=HNR.out.free 3
  go_wp2
  clear R_0 R_1 R_2 R_3 R_4 NR_0 NR_1 NR_2 NR_3 R_f0 R_f1 R_f2 R_f3 R_f4 NR_f0 NR_f1 NR_f2 NR_f3
  exact bodyPost_ret (results_cell_cell_tmp (p1:=12) (p2:=13) (t:=14) (ty1:=27) (ty2:=40) rfl _ _ (g+1) (g+2) 27 40 #[.slice none 0 0,.slice none 0 0,.slice none 0 0,.slice none 0 0,.int .i64 0] #[.slice none 0 0,.slice none 0 0,.slice none 0 0,.slice none 0 0] _ _ rfl rfl HTW.out.1 HTW.out.2.1 Tryz.underlying27 rfl infoVw Tryz.underlying40 rfl infoNt4) rfl ⟨Vl.none,none,none,none,none,0,0,0,0,rfl,rfl,VwAt.none _,⟨OneL.nil,OneL.nil,OneL.nil,OneW.nil⟩,VwLo.none,Lo.none,HTW.out.2.2.1⟩
theorem vdwrite_any(q:Vl)(me o skip:Int)(X:Option Addr)(d:Nat)(val:List Int)(gone:Bool)(w:World)(htop:Ve.top (Ve.cnt q.k)≤9223372036854775807)(h:VwAt w q)(hx:OneB w X d val) :
  Calls Tryz.prog 37 #[.agg (vwCells q),.int .i64 me,.int .i64 o,.int .i64 skip,.slice X val.length d,.bool gone] w (GivesVwNE (Vw.writeR q.vw me o skip val gone).1 (Vw.writeR q.vw me o skip val gone).2.1 (Vw.writeR q.vw me o skip val gone).2.2 w):=
 (vdwriteN_any q me o skip X d val gone w htop h hx).mono fun _ _ ⟨q',S,E,B,V,cs,ce,cb,cv,h1,h2,h3,h4,_,_,h5⟩=>⟨q',S,E,B,V,cs,ce,cb,cv,h1,h2,h3,h4,h5⟩
end Go.Proofs.YtjlfehpockfkdaaGreat
namespace Go.Proofs.YtjlfehpockfkdaaGreat
open Go.RowKit
theorem viewSpec:ViewSpec where
 new:=vdnew_any
 formed:=vdformed_any
 take:=vdtake_any
 write:=vdwrite_any
 body:=vdbody_any
 read:=vdread_any
end Go.Proofs.YtjlfehpockfkdaaGreat
