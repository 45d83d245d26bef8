/-
  What the rows of this claim stand on: SdShelf, LayBase, Lay, NtDevFormed, NtDevOutside, SpDevAll, SpDevTwo, CdA, MapSet, CdC, VdF, VdH, VdJ, RegionA, VdC, VdD, TpKeep.
-/
import Derived.Test.YtjlfehpockfkdaaGreatB01
import Derived.Laws.OwnMore
import Derived.Laws.IdiomCopy
import Derived.Lib.SliceRun
import Derived.Lib.Walk
import Derived.Maps.OwnSet
import Derived.Carry
import Derived.Test.YtjlfehpockfkdaaGreatB03
import Derived.Test.YtjlfehpockfkdaaGreatB02
import Derived.Shelf.Abstract
import Derived.RangeFuncFrom
import Derived.RangeFuncNested
import Derived.RangeFuncBound
import Derived.RangeFuncCalls
import Derived.RangeFuncLeaves
import Derived.Shelf.RegionOpen
import Derived.OwnWalkIn
import Derived.TacticsInMore
import Derived.LoopNIn
import Derived.LoopIn
import Derived.Deep.RegionWith
import Derived.Lib.SlBytesConst
import Derived.Deep.AppendLies
import Derived.Deep.RegionLaw
namespace Go.Proofs.YtjlfehpockfkdaaGreat
open Go.RowKit Go.Shelf
attribute [local go_sem] Oper.semAt_some
namespace Sf
def lst(f:Nat→Wr):List Wr:=(List.range 256).map f
def flt(l:List Wr):List Wr:=l.filter fun x=>St.rgt x.1 x.2.1
theorem lst_len(f:Nat→Wr):(lst f).length=256:=by unfold lst;simp
theorem lst_at(f:Nat→Wr)(k:Nat)(hk:k<256):(lst f).getD k Nt.zeroW=f k:=by
 unfold lst
 rw[List.getD_eq_getElem?_getD,List.getElem?_map,List.getElem?_range hk]
 rfl
theorem flt_snoc(l:List Wr)(x:Wr):flt (l++[x])=flt l++(if St.rgt x.1 x.2.1=true then [x] else []):=by
 unfold flt
 rw[List.filter_append,List.filter_cons]
 split<;>rfl
theorem flt_len(l:List Wr):(flt l).length≤l.length:=List.length_filter_le _ _
end Sf
theorem OneW.of_arr{w:World}{p:Nat}{t:TypeId}{f:Nat→Wr}(h:Blk w p t (Sf.arr f)):OneW w (some ⟨p,0,none⟩) 256 (Sf.lst f):=
 ⟨Nat.le_of_eq (Sf.lst_len f),by unfold maxLen;omega,(fun h=>by cases h),fun _=>⟨p,0,rfl,fun j u hu=>by
  have hj:j<1024:=by
   have:=(List.getElem?_eq_some_iff.1 hu).1
   rw[Nt.wrCells_length,Sf.lst_len]at this
   omega
  rw[Nat.zero_add]
  have hk:j / 4<256:=by omega
  obtain⟨q0,q1,q2,q3⟩:=Nt.wrCells_get (Sf.lst f) (j / 4) (by rw[Sf.lst_len];exact hk)
  obtain⟨r0,r1,r2,r3⟩:=h.wrs_cells (j / 4) hk
  rw[Sf.lst_at f _ hk]at q0 q1 q2 q3
  have:j=j / 4*4∨j=j / 4*4+1∨j=j / 4*4+2∨j=j / 4*4+3:=by omega
  rcases this with e|e|e|e
  ·rw[←e]at q0 r0;rw[hu]at q0;injection q0 with q0;rw[q0];exact r0
  ·rw[←e]at q1 r1;rw[hu]at q1;injection q1 with q1;rw[q1];exact r1
  ·rw[←e]at q2 r2;rw[hu]at q2;injection q2 with q2;rw[q2];exact r2
  ·rw[←e]at q3 r3;rw[hu]at q3;injection q3 with q3;rw[q3];exact r3⟩⟩
set_option maxRecDepth 100000 in
set_option maxHeartbeats 6400000 in
theorem sdshelf_any(p:Nat)(f:Nat→Wr)(w:World)(hP:Blk w p 169 (Sf.arr f)) :
  Calls Tryz.prog 132 #[.pointer (some ⟨p,0,none⟩)] w fun e w'=>∃v,e = .returned v∧w'.ownsRow w.heap.size 52 4 v (Sf.flt (Sf.lst f)).length (Nt.wrCells (Sf.flt (Sf.lst f)))∧Below w.heap.size w w':=by
 obtain⟨i0,hI,hZ0,hZ1,hZ2⟩:=info_parts infoWr
 have hL:=OneW.of_arr hP
 have hll:=Sf.lst_len f
 obtain⟨l,hl⟩:∃l,Sf.lst f=l:=⟨_,rfl⟩
 rw[hl]at hL hll ⊢
 have HL:=Hd hL
 have HLL:=Hd hll
 have b0:=below_new (Below.refl w.heap.size w) (.cells #[.slice none 0 0] 24)
 have G0:=Blk.new w 24 #[.slice none 0 0]
 have P0:=hP.alloc (.cells #[.slice none 0 0] 24)
 obtain⟨W,hW⟩:∃W,w.alloc (.cells #[.slice none 0 0] 24)=W:=⟨_,rfl⟩
 rw[hW]at b0 G0 P0
 have HW:=Hd hW
 have NE:=Hd (show Calls Tryz.prog 147 #[.slice (some ⟨p,0,none⟩) 256 256] W (WalkerW (some ⟨p,0,none⟩) 256 l W) from by have:=each_any (some ⟨p,0,none⟩) 256 l W;rwa [hll]at this)
 clear hW hL hP hll hl
 refine(callsIn_wide (n:=3)).1 ?_
 refine callsIn_of_wp_marks Tryz.func132 rfl trivial ?_ rfl
 simp only[Tryz.ntmps132,List.size_toArray,List.length_cons,List.length_nil,Nat.reduceAdd,Nat.reduceSub,Array.replicate_succ,Array.replicate_zero,List.push_toArray,List.append_toArray,List.nil_append,List.cons_append]
 gi_wp2_with fail
 rw[HW.out]
 refine⟨trivial,(callsIn_wide.2 NE.out).mono ?_⟩
 rintro e w1 ⟨bl,rfl,hbl,b1⟩
 have bb1:=below_on b0 b1
 have G1:=G0.later b1
 have hlt1:=G1.lt
 have hz1:=bb1.size
 have SEQ:=eachW_stops id l l (List.map_id l) 2 (by omega) bl 256 (some ⟨p,0,none⟩) w1 (HL.out.later bb1) hbl
 clear b0 G0 P0 b1 HW hbl NE
 gi_wp2_with fail
 refine wpIn_rangeFunc_ownH rfl (by omega) (gf:=171) (lb:=#[.pointer (some ⟨bl,0,none⟩)]) rfl trivial enters_eachW SEQ KeepL.trans (fun W l' o o' _ h1 h2 _=>KeepL.put W l' o o' h1 h2) (Below.refl _ _) (fun _=>rfl)
  (fun pre W=>(∃v,Boxed W w.heap.size 24 v∧W.ownsRow w.heap.size 52 4 v (Sf.flt pre).length (Nt.wrCells (Sf.flt pre))∧True)∧Below w.heap.size w W)
  (fun _ _ _=>False)
  ?hI (fun _ _ _ _ _ h _ _=>h) ⟨⟨.slice none 0 0,G1,⟨rfl,.inl ⟨rfl,rfl⟩⟩,trivial⟩,bb1⟩
  (fun x a' W=>∃Bx,w.heap.size<Bx∧Blk W Bx 52 (Nt.wrArr x)∧a'={ tmps:=#[.pointer (some ⟨p,0,none⟩),undef,.slice none 0 0,.pointer (some ⟨w.heap.size,0,none⟩),undef,.pointer (some ⟨Bx,0,none⟩),.pointer (some ⟨p,0,none⟩),.pointer (some ⟨p,0,none⟩),.slice (some ⟨p,0,none⟩) 256 256,.func (.func 171) #[] #[.pointer (some ⟨bl,0,none⟩)],.int .i64 x.2.2.1,Nt.wrV x,undef,undef,undef,undef,undef,undef,undef,undef],defers:=[] })
  ?hAx ?assign ?body ?done (fun _ _ _ _ _ _ h _=>h.elim)
 case hI=>exact OwnFrom.and (Own.from (holdsRow_own w.heap.size w.heap.size 24 52 4 (fun pre=>(Sf.flt pre).length) (fun pre=>Nt.wrCells (Sf.flt pre)) (fun _ _=>True)) _) (ownFrom_below (Nat.le_refl _) hz1)
 case hAx=>exact fun x a' _ X Y row ⟨Bx,h0,h1,h2⟩ hg hr=>⟨Bx,h0,blk_own _ _ (fun (_:Unit)=>Nt.wrArr x) () X Y row h1 hg (fun r e=>(hr r e).2),h2⟩
 case assign=>
  rintro l' pre x W K ⟨⟨v,i0,i1,-⟩,i2⟩ hK
  obtain⟨x0,x1,x2,x3⟩:=x
  unfold toldW Nt.wrV
  unfold Nt.wrV Nt.wrArr at hK
  dsimp only[id]at hK ⊢
  have bN:=below_new (Below.refl W.heap.size W) (.cells #[.int .i64 x0,.int .i64 x1,.int .i64 x2,.bool x3] 52)
  have HK:=Hd hK
  have F1:=Hd (own_later i1 bN)
  have F2:=Hd (below_on i2 bN)
  have F3:=Hd (Blk.new W 52 #[.int .i64 x0,.int .i64 x1,.int .i64 x2,.bool x3])
  have F4:=Hd (i0.alloc (.cells #[.int .i64 x0,.int .i64 x1,.int .i64 x2,.bool x3] 52))
  have F5:=Hd bN
  have F6:=Hd i0.lt
  clear hK i0 i1 i2 bN SEQ G1
  gi_wp2
  exact HK.out _ _ (keepsF_below F5.out) (fun h=>h.later F5.out) ⟨⟨_,F4.out,F1.out,trivial⟩,F2.out⟩ ⟨_,F6.out,F3.out,rfl⟩
 case body=>
  rintro l' pre x a' W hl _ ⟨⟨v8,hv,hrow,-⟩,i2⟩ ⟨Bx,hBx,hX,rfl⟩ hlt
  have hsn:=Sf.flt_snoc pre x
  have hfl:=Sf.flt_len pre
  have hlt2:(Sf.flt pre).length≤256:=by have:=HLL.out;omega
  obtain⟨M,hM⟩:∃M,Sf.flt pre=M:=⟨_,rfl⟩
  rw[hM]at hsn hrow hlt2
  obtain⟨VA,vc,hvv,-,-,-,-⟩:=own_form hrow
  subst hvv
  obtain⟨x0,x1,x2,x3⟩:=x
  unfold Nt.wrV
  unfold Nt.wrArr at hX
  dsimp only at hX hsn ⊢
  have N1:=Hd (right_any x0 x1 W)
  have g0:=hX.cell (i:=0) rfl
  have g1:=hX.cell (i:=1) rfl
  have HX:=Hd hX
  have HV:=Hd hv
  have HROW:=Hd hrow
  have I2:=Hd i2
  cases hq:St.rgt x0 x1 with
  |false=>
   rw[hq,if_neg Bool.false_ne_true,List.append_nil]at hsn
   rw[hq]at N1
   have HSN:=Hd hsn
   clear hX hv hrow i2 hsn hq SEQ G1 hl hM hfl
   gi_wp2_with fail
   refine⟨trivial,(CallsIn.inRound l' (callsIn_wide.2 N1.out)).mono ?_⟩
   rintro e w2 ⟨rfl,b2⟩
   have FIN:=Hd (show KeepsFrom w1.heap.size W w2∧KeepL (some ⟨p,0,none⟩) 256 l W w2∧(∃v,Boxed w2 w.heap.size 24 v∧w2.ownsRow w.heap.size 52 4 v (Sf.flt (pre++[(x0,x1,x2,x3)])).length (Nt.wrCells (Sf.flt (pre++[(x0,x1,x2,x3)])))∧True)∧Below w.heap.size w w2 from
    ⟨keepsF_below b2,fun h=>h.later b2,⟨_,Blk.later HV.out b2,by rw[HSN.out];exact own_later HROW.out b2,trivial⟩,below_on I2.out b2⟩)
   clear b2 g0 g1 HV HROW HX
   gi_wp2
   exact FIN.out
  |true=>
   rw[hq,if_pos rfl]at hsn
   rw[hq]at N1
   have HSN:=Hd hsn
   clear hX hv hrow i2 hsn hq SEQ G1 hl hM hfl
   gi_wp2_with fail
   refine⟨trivial,(CallsIn.inRound l' (callsIn_wide.2 N1.out)).mono ?_⟩
   rintro e w2 ⟨rfl,b2⟩
   have X2:=HX.out.later b2
   have hv6:Boxed w2 w.heap.size 24 (.slice VA M.length vc):=Blk.later HV.out b2
   have hc6:=hv6.cell
   have hrow6:=own_later HROW.out b2
   have hlt6:=hv6.lt
   have hbw6:=below_on I2.out b2
   have hsz6:=hbw6.size
   have k0:=X2.cell (i:=0) rfl
   have k1:=X2.cell (i:=1) rfl
   have k2:=X2.cell (i:=2) rfl
   have k3:=X2.cell (i:=3) rfl
   have HBW6:=Hd hbw6
   have B2:=Hd b2
   clear b2 g0 g1 hbw6 X2 N1
   gi_wp2_with (gi_at_builtin;refine Go.Proofs.YtjlfehpockfkdaaGreat.wpListIn_append_lies _ rfl _ _ 24 rfl w.heap.size 52 i0 (.agg #[.int .i64 0,.int .i64 0,.int .i64 0,.bool false]) 4 32 Tryz.underlying24 hI hZ0 hZ1 hZ2 rfl (by decide) _ M.length (Nt.wrCells M) rfl (hrow6.alloc _) (some ⟨w2.heap.size,0,none⟩) 1 1 (fun h=>by cases h) (Nt.wrCells [(x0,x1,x2,x3)]) rfl rfl ?c1 (Nt.wrCells_one _) ?c3 ?c4 ?c5 ?_)
   case c1=>
    intro _
    refine⟨w2.heap.size,0,rfl,fun j u hu =>?_⟩
    rw[Nat.zero_add]
    exact(Blk.new w2 52 #[.int .i64 x0,.int .i64 x1,.int .i64 x2,.bool x3]).cell (by simpa[Nt.wrCells,Nt.wrCell] using hu)
   case c3=>unfold maxLen;omega
   case c4=>omega
   case c5=>simp;omega
   intro v' w7 hown1 hg1 hm1
   obtain⟨g',cap',rfl⟩:=ownsRow_succ hown1
   obtain⟨hv1,hv2,hr2,hk2,hb2⟩:=hv6.appended (by decide) hrow6 hsz6 (by omega) hown1 hg1
   have hc1:=hv1.cell
   have hf1:=hv1.frozen
   have HV2:=Hd hv2
   have HR2:=Hd hr2
   have KF:=Hd (KeepsFrom.trans (keepsF_below (n0:=w1.heap.size) B2.out) (hk2.from _))
   have FB:=Hd (HBW6.out.trans hb2)
   clear hv2 hr2 hown1 hg1 hrow6 hv6 hv1 hk2 hb2 hc6
   gi_wp2
   exact⟨KF.out,fun _=>HL.out.later FB.out,⟨_,HV2.out,by rw[HSN.out,Nt.wrCells_append,List.length_append];exact HR2.out,trivial⟩,FB.out⟩
 case done=>
  rintro DD ys W hDD hys ⟨⟨v,hv,hrow,-⟩,i2⟩ hK
  subst hys
  obtain⟨VA,vc,hvv,-,-,-,-⟩:=own_form hrow
  subst hvv
  have hc:=hv.cell
  have HROW:=Hd hrow
  have I2:=Hd i2
  clear SEQ hv hrow i2 G1
  gi_wp2
  refine⟨by simp,.inl ⟨_,_,rfl,run_takeDeferred hK,?_⟩⟩
  have QR:=own_row w.heap.size 52 4 (Sf.flt ys).length (.slice VA (Sf.flt ys).length vc) (Nt.wrCells (Sf.flt ys)) () _ _ (some DD) HROW.out (grownBy_putObj' _ DD (.deferred none)) (fun r e=>by cases e;exact⟨_,hK,rfl⟩)
  exact⟨.slice VA (Sf.flt ys).length vc,by simp[results,Tryz.f132,go_sem],_,rfl,QR,I2.out.trans (belowK_b (w:=w) (Nat.le_refl _) _ DD _ _ (by omega) hK rfl rfl)⟩
end Go.Proofs.YtjlfehpockfkdaaGreat
namespace Go.Proofs.YtjlfehpockfkdaaGreat
open Go.RowKit
def Lay(w:World)(b off:Nat)(xs:List Value):Prop:=∀(j:Nat) (u:Value),xs[j]?=some u→w.cell? ⟨b,off+j,none⟩=some u∧w.frozen? ⟨b,off+j,none⟩=false
section
variable {w w':World} {b off:Nat} {xs ys:List Value}
theorem Lay.later(h:Lay w b off xs)(hlt:b<w.heap.size)(hb:Below w.heap.size w w'):Lay w' b off xs:=fun j u hu=>
 ⟨(hb.cell (p:=⟨b,off+j,none⟩) hlt).trans (h j u hu).1,(hb.frozen (p:=⟨b,off+j,none⟩) hlt).trans (h j u hu).2⟩
theorem Lay.put(h:Lay w b off xs)(i:Nat)(u:Value):Lay (w.setCell ⟨b,off+i,none⟩ u) b off (xs.set i u):=by
 intro j v hv
 have hj:j<xs.length:=by
  have:=(List.getElem?_eq_some_iff.1 hv).1
  simpa using this
 have h0:=h j xs[j] (List.getElem?_eq_getElem hj)
 refine⟨?_,by rw[World.frozen?_setCell];exact h0.2⟩
 by_cases e:i=j
 ·subst e
  rw[List.getElem?_set_self hj]at hv
  injection hv with hv
  subst hv
  exact World.cell?_setCell_same' _ _ _ (by rw[h0.1];rfl)
 ·rw[List.getElem?_set_ne e]at hv
  refine(World.cell?_setCell_other _ _ _ _ (fun hh=>e (by injection hh with _ h2;omega))).trans (h j v hv).1
theorem Lay.sub(h:Lay w b off xs)(hs:∀(j:Nat) (u:Value),ys[j]?=some u→xs[j]?=some u):Lay w b off ys:=fun j u hu=>h j u (hs j u hu)
theorem Lay.lies(h:Lay w b off xs):Lies w (some ⟨b,off,none⟩) xs:=fun _=>⟨b,off,rfl,fun j u hu=>(h j u hu).1⟩
theorem Lay.of_own{base:Nat}{e:TypeId}{size n cap:Nat}(h:w.ownsRow base e size (.slice (some ⟨b,0,none⟩) n cap) n xs):Lay w b 0 xs:=by
 rcases h.2 with ⟨h1,_⟩|⟨g',cap',cur,h1,_,hg,_,_,_,ht⟩
 ·cases h1
 ·injection h1 with h1 h2 h3
  injection h1 with h1
  injection h1 with h1
  subst h1
  intro j u hu
  rw[Nat.zero_add]
  refine⟨?_,Blk.free hg j⟩
  rw[cell_of_row w b j cur e (0,0) hg,←Array.getElem?_toList]
  rw[←ht,List.getElem?_take]at hu
  split at hu
  ·exact hu
  ·cases hu
theorem Lay.behind(h:Lay w b off xs)(k:Nat)(hk:xs.length≤k)(vs:List Value):Lay (w.setCells b (off+k) vs) b off xs:=fun j u hu=>by
 have hj:=(List.getElem?_eq_some_iff.1 hu).1
 refine⟨?_,by rw[World.frozen?_setCells];exact(h j u hu).2⟩
 rw[World.cell?_setCells_out b vs (off+k) w ⟨b,off+j,none⟩ (fun _ _=>Or.inl (by show off+j<off+k;omega))]
 exact(h j u hu).1
end
theorem below_cells{w0:World}{b:Nat}(hb:w0.heap.size≤b):∀(vs:List Value) (o:Nat) (w:World),Below w0.heap.size w0 w→Below w0.heap.size w0 (w.setCells b o vs)
 | [],_,_,h=>h
 |v::r,o,_,h=>below_cells hb r (o+1) _ (h.setCell (p:=⟨b,o,none⟩) hb v)
theorem run_clear_cells{P:Program}(w:World)(t e ty:TypeId)(z:Value)(ht:P.underlying t=some (.slice e))(hv:∀w,(zeroValue e).run P w = .ok z w)(b o n c:Nat)(hn:0<n)
  (h1:∀u∈(Builtin.zeroCells z.cells n).toList,u.oneCell'=true)
  (hc:∀j,j<(Builtin.zeroCells z.cells n).toList.length→(w.cell? ⟨b,o+j,none⟩).isSome=true)(hf:∀j,j<(Builtin.zeroCells z.cells n).toList.length→w.frozen? ⟨b,o+j,none⟩=false) :
  (Builtin.clear_ #[t] ty #[.slice (some ⟨b,o,none⟩) n c]).run P w = .ok (.tuple #[]) (w.setCells b o (Builtin.zeroCells z.cells n).toList):=by
 have hst:=run_storeCells_cells (P:=P) b o (Builtin.zeroCells z.cells n).toList 0 w (by simpa using hc) (by simpa using hf) h1
 simp only[Nat.add_zero]at hst
 obtain⟨m,rfl⟩:∃m,n=m+1:=⟨n-1,by omega⟩
 simp[Builtin.clear_,run_underlying ht,hv,hst]
section
variable {α:Type} {q:α→Bool} {D Dk:List α} {i j:Nat}
structure KeptL (q:α→Bool) (D:List α) (j i:Nat) (Dk:List α):Prop where
 len:Dk.length=D.length
 head:Dk.take i=(D.take j).filter q
 cnt:((D.take j).filter q).length=i
 lt:i<j
 le:j≤D.length
 tail:∀t,j≤t→Dk[t]?=D[t]?
theorem KeptL.start(hj:j<D.length)(hall:∀t (h:t<j),q (D[t]'(by omega))=true)(hno:q D[j]=false):KeptL q D (j+1) j D where
 len:=rfl
 head:=by
  rw[List.take_succ_eq_append_getElem hj,List.filter_append,List.filter_eq_self.2 (fun x hx=>by
   obtain⟨t,ht,rfl⟩:=List.mem_iff_getElem.1 hx
   rw[List.getElem_take]
   exact hall t (by rw[List.length_take]at ht;omega))]
  simp[hno]
 cnt:=by
  rw[List.take_succ_eq_append_getElem hj,List.filter_append,List.filter_eq_self.2 (fun x hx=>by
   obtain⟨t,ht,rfl⟩:=List.mem_iff_getElem.1 hx
   rw[List.getElem_take]
   exact hall t (by rw[List.length_take]at ht;omega))]
  simp[hno]
  omega
 lt:=Nat.lt_succ_self _
 le:=by omega
 tail:=fun _ _=>rfl
theorem KeptL.skip(h:KeptL q D j i Dk)(hj:j<D.length)(hno:q D[j]=false):KeptL q D (j+1) i Dk where
 len:=h.len
 head:=by rw[h.head,List.take_succ_eq_append_getElem hj,List.filter_append];simp[hno]
 cnt:=by rw[List.take_succ_eq_append_getElem hj,List.filter_append];simp[hno,h.cnt]
 lt:=by have:=h.lt;omega
 le:=by omega
 tail:=fun t ht=>h.tail t (by omega)
theorem KeptL.keep(h:KeptL q D j i Dk)(hj:j<D.length)(hyes:q D[j]=true):KeptL q D (j+1) (i+1) (Dk.set i D[j]) where
 len:=by rw[List.length_set];exact h.len
 head:=by
  have hi:i<(Dk.set i D[j]).length:=by rw[List.length_set,h.len];have:=h.lt;omega
  rw[List.take_succ_eq_append_getElem hi,List.getElem_set_self,List.take_set,List.set_eq_of_length_le (by rw[List.length_take];omega),h.head,List.take_succ_eq_append_getElem hj,List.filter_append]
  simp[hyes]
 cnt:=by rw[List.take_succ_eq_append_getElem hj,List.filter_append];simp[hyes,h.cnt]
 lt:=by have:=h.lt;omega
 le:=by omega
 tail:=fun t ht=>by
  rw[List.getElem?_set_ne (by have:=h.lt;omega)]
  exact h.tail t (by omega)
theorem KeptL.done(h:KeptL q D D.length i Dk):i=(D.filter q).length∧Dk.take i=D.filter q:=by
 have h1:=h.cnt
 have h2:=h.head
 rw[List.take_length]at h1 h2
 exact⟨h1.symm,h2⟩
theorem KeptL.get(h:KeptL q D j i Dk)(hj:j<D.length):Dk[j]?=some D[j]:=by rw[h.tail j (Nat.le_refl _),List.getElem?_eq_getElem hj]
end
theorem OneL.of_lay{w:World}{b off c:Nat}{l:List (Int × Int)}(h:Lay w b off (stCells l))(h1:l.length≤c)(h2:c≤maxLen):OneL w (some ⟨b,off,none⟩) c l:=⟨h1,h2,(fun h=>by cases h),h.lies⟩
theorem st_set(D:List (Int × Int))(x:Int × Int):∀i,i<D.length→((stCells D).set (i*2) (.int .i64 x.1)).set (i*2+1) (.int .i64 x.2)=stCells (D.set i x):=by
 induction D with
 |nil=>intro i hi;simp at hi
 |cons y r ih=>
  intro i hi
  cases i with
  |zero=>rfl
  |succ m=>
   have e:stCells (y::r)=[.int .i64 y.1,.int .i64 y.2]++stCells r:=rfl
   have e2:stCells ((y::r).set (m+1) x)=[.int .i64 y.1,.int .i64 y.2]++stCells (r.set m x):=rfl
   rw[e,e2,←ih m (by simpa using hi),show(m+1)*2=m*2+2 from by omega]
   rfl
theorem st_get(l:List (Int × Int))(x:Int × Int)(k:Nat)(h:l[k]?=some x):(stCells l)[k*2]?=some (.int .i64 x.1)∧(stCells l)[k*2+1]?=some (.int .i64 x.2):=by
 have hk:=(List.getElem?_eq_some_iff.1 h).1
 have:=stCells_get l k hk
 rw[List.getD_eq_getElem?_getD,h]at this
 exact this
theorem st_take(l:List (Int × Int))(n:Nat):∀(j:Nat) (u:Value),(stCells (l.take n))[j]?=some u→(stCells l)[j]?=some u:=by
 intro j u hu
 rw[←List.take_append_drop n l,stCells_append,List.getElem?_append_left (List.getElem?_eq_some_iff.1 hu).1]
 exact hu
end Go.Proofs.YtjlfehpockfkdaaGreat
namespace Go.Proofs.YtjlfehpockfkdaaGreat
open Go.RowKit Fb
set_option maxHeartbeats 800000 in
theorem nisObject_any(o:Int)(w:World):Calls Tryz.prog 156 #[.int .i64 o] w (Says (.bool (decide (0≤o∧o≤255))) w):=by
 by_cases h0:0≤o
 ·have d0:decide (0≤o)=true:=decide_eq_true h0
  by_cases h1:o<256
  ·have d1:decide (o<256)=true:=decide_eq_true h1
   rw[show decide (0≤o∧o≤255)=true from decide_eq_true (by omega)]
   go_enter Tryz.func156,Tryz.ntmps156
   go_wp2
   go_ret
   exact⟨rfl,Below.refl _ _⟩
  ·have d1:decide (o<256)=false:=decide_eq_false h1
   rw[show decide (0≤o∧o≤255)=false from decide_eq_false (by omega)]
   go_enter Tryz.func156,Tryz.ntmps156
   go_wp2
   go_ret
   exact⟨rfl,Below.refl _ _⟩
 ·have d0:decide (0≤o)=false:=decide_eq_false h0
  rw[show decide (0≤o∧o≤255)=false from decide_eq_false (by omega)]
  go_enter Tryz.func156,Tryz.ntmps156
  go_wp2
  go_ret
  exact⟨rfl,Below.refl _ _⟩
namespace Nt
def lastO(l:List Wr):Nat→Int
 |0=> -1
 |k+1=>obj l k
end Nt
set_option maxRecDepth 100000 in
set_option maxHeartbeats 6400000 in
theorem nformedWrites_any(S E B V:Option Addr)(cs ce cb cv:Nat)(n:Note)(w:World)(h1:NoteAt w S E B V cs ce cb cv n) :
  Calls Tryz.prog 101 #[.agg (noteCells S E B V cs ce cb cv n)] w (Says (.bool (Nt.wsOk n)) w):=by
 obtain⟨W,hW⟩:∃W,w.alloc (.cells (noteCells S E B V cs ce cb cv n) 40)=W:=⟨_,rfl⟩
 have hb0:Below w.heap.size w W:=by rw[←hW];exact below_new (Below.refl _ _) _
 have hB0:Blk W w.heap.size 40 (noteCells S E B V cs ce cb cv n):=by rw[←hW];exact Blk.new w _ _
 obtain⟨c0,c1,c2,c3⟩:=note_cells hB0
 have p3:=c3
 rw[←hW]at p3
 have HN:=Hd (h1.later hb0)
 have NO:=Hd (fun wx o=>nisObject_any o wx)
 have NH:=Hd (fun wx (hb:Below W.heap.size W wx) o=>sphas_any B cb n.b o wx (HN.out.hb.later hb))
 have NE:=Hd (fun wx (hb:Below W.heap.size W wx) x y=>has_any E ce n.e x y wx (HN.out.he.later hb))
 have HW:=Hd hW
 clear hW hB0 h1
 have bb0:=Below.refl W.heap.size W
 have hlenw:=HN.out.hv.len
 go_enter Tryz.func101,Tryz.ntmps101
 go_wp2_with fail
 rw[HW.out]
 go_loopw [3,9] (fun s3 s9 wr=>∃k:Nat,k≤n.ws.length∧s9 = .int .i64 (k:Int)∧s3 = .int .i64 (Nt.lastO n.ws k)∧Nt.wsTo n k∧Below W.heap.size W wr) (fun _ s9 _=>n.ws.length-(intOf s9).toNat)
 case atStart=>exact⟨0,Nat.zero_le _,rfl,rfl,fun j hj=>by omega,bb0⟩
 case round=>
  obtain⟨k,hk,rfl,rfl,hall,hbw⟩:=hrel
  have HALL:=Hd hall
  have g1:=cell_later hbw c1
  have g2:=cell_later hbw c2
  clear hall p3
  by_cases hlt:k<n.ws.length
  ·have hne:n.ws≠[]:=fun e=>by rw[e]at hlt;simp at hlt
   obtain⟨b,off,hA,hcA⟩:=(HN.out.hv.later hbw).at hne
   subst hA
   obtain⟨e0,e1,e2,e3⟩:=hcA k hlt
   have hi0:(0:Int)≤(k:Int):=by omega
   have hi1:(k:Int)<(n.ws.length:Int):=by omega
   have hno :=@Nt.wsOk_no n k hlt
   have hnx:hasOf n.e (n.ws.getD k Nt.zeroW).1 (n.ws.getD k Nt.zeroW).2.1=true→(0≤Nt.obj n.ws k∧Nt.obj n.ws k≤255)→inOf n.b (Nt.obj n.ws k)=false→(0<k→Nt.obj n.ws (k-1)<Nt.obj n.ws k)→Nt.wsTo n (k+1):=fun q1 q2 q3 q4 j hj=>by
    by_cases e:j=k
    ·subst e;exact⟨q1,q2,q3,q4⟩
    ·exact HALL.out j (by omega)
   have hob:(n.ws.getD k Nt.zeroW).2.2.1=Nt.obj n.ws k:=rfl
   rw[hob]at e2
   obtain⟨ln,hln⟩:∃ln,Nt.lastO n.ws k=ln:=⟨_,rfl⟩
   have hprev:0<k→Nt.obj n.ws (k-1)=ln:=fun h=>by
    cases k with
    |zero=>omega
    |succ m=>rw[←hln];rfl
   have hz:k=0→ln = -1:=fun h=>by subst h;rw[←hln];rfl
   have hnext:Nt.lastO n.ws (k+1)=Nt.obj n.ws k:=rfl
   rw[hln]
   obtain⟨x,hx⟩:∃x,(n.ws.getD k Nt.zeroW).1=x:=⟨_,rfl⟩
   obtain⟨y,hy⟩:∃y,(n.ws.getD k Nt.zeroW).2.1=y:=⟨_,rfl⟩
   obtain⟨gn,hgn⟩:∃gn,(n.ws.getD k Nt.zeroW).2.2.2=gn:=⟨_,rfl⟩
   obtain⟨o,ho⟩:∃o,Nt.obj n.ws k=o:=⟨_,rfl⟩
   rw[hx]at e0 hno hnx
   rw[hy]at e1 hno hnx
   rw[hgn]at e3
   rw[ho]at e2 hno hnx hnext
   obtain⟨hs,hhs⟩:∃hs,hasOf n.e x y=hs:=⟨_,rfl⟩
   obtain⟨ib,hib⟩:∃ib,inOf n.b o=ib:=⟨_,rfl⟩
   obtain⟨ob,hobb⟩:∃ob,decide (0≤o∧o≤255)=ob:=⟨_,rfl⟩
   obtain⟨W1,hW1⟩:∃W1,wr.alloc (.cells #[.int .i64 x,.int .i64 y,.int .i64 o,.bool gn] 52)=W1:=⟨_,rfl⟩
   have hbn:Below wr.heap.size wr W1:=by rw[←hW1];exact below_new (Below.refl _ _) _
   have hB1:Blk W1 wr.heap.size 52 #[.int .i64 x,.int .i64 y,.int .i64 o,.bool gn]:=by rw[←hW1];exact Blk.new wr _ _
   have hbw1:=below_on hbw hbn
   have q0:=hB1.cell (i:=0) rfl
   have q1:=hB1.cell (i:=1) rfl
   have q2:=hB1.cell (i:=2) rfl
   have m1:=cell_later hbn g1
   have m2:=cell_later hbn g2
   have cH:=fun wx (hb:Below W1.heap.size W1 wx)=>NE.out wx (below_on hbw1 hb) x y
   have cI:=fun wx (hb:Below W1.heap.size W1 wx)=>NH.out wx (below_on hbw1 hb) o
   have cO:=fun wx=>NO.out wx o
   rw[hhs]at cH hno hnx
   rw[hib]at cI hno hnx
   rw[hobb]at cO
   have CH:=Hd cH
   have CI:=Hd cI
   have CO:=Hd cO
   have HNo:=Hd hno
   have NX:=Hd hnx
   have PV:=Hd hprev
   have HZ:=Hd hz
   have HNT:=Hd hnext
   have HW1:=Hd hW1
   have OB:=Hd hobb
   have B1:=Hd hB1
   clear hcA hno hnx hprev cH cI cO hW1 hob hx hy hgn ho hhs hib hln hz hnext hobb hB1
   have hcs:(decide (o≤ln)=true∧o≤ln)∨(decide (o≤ln)=false∧¬o≤ln∧ob=false)∨(decide (o≤ln)=false∧¬o≤ln∧ob=true∧ib=true)∨(decide (o≤ln)=false∧¬o≤ln∧ob=true∧ib=false∧hs=false)∨(decide (o≤ln)=false∧¬o≤ln∧ob=true∧ib=false∧hs=true):=by
    by_cases h1:o≤ln
    ·exact .inl ⟨decide_eq_true h1,h1⟩
    ·refine .inr ?_
     have d:=decide_eq_false h1
     cases ob
     ·exact .inl ⟨d,h1,rfl⟩
     ·cases ib
      ·cases hs
       ·exact .inr (.inr (.inl ⟨d,h1,rfl,rfl,rfl⟩))
       ·exact .inr (.inr (.inr ⟨d,h1,rfl,rfl,rfl⟩))
      ·exact .inr (.inl ⟨d,h1,rfl,rfl⟩)
   rcases hcs with ⟨d,hd⟩|⟨d,hd,rfl⟩|⟨d,hd,rfl,rfl⟩|⟨d,hd,rfl,rfl,rfl⟩|⟨d,hd,rfl,rfl,rfl⟩
   ·have HNO:=Hd (HNo.out (fun h=>by
     have h4:=h.2.2.2
     by_cases hk0:k=0
     ·have:=HZ.out hk0;have:=h.2.1.1;omega
     ·have:=h4 (by omega);rw[PV.out (by omega)]at this;omega))
    go_wp2_with fail
    have ba0:=Below.refl W1.heap.size W1
    skip
    go_ret
    exact⟨by rw[HNO.out];rfl,below_on hb0 (by rw[HW1.out];exact hbw1)⟩
   ·have HNO:=Hd (HNo.out (fun h=>by have:=of_decide_eq_false OB.out;exact this h.2.1))
    go_wp2_with fail
    rw[HW1.out]
    have ba0:=Below.refl W1.heap.size W1
    refine(CO.out _).mono ?_
    rintro e w1 ⟨rfl,b1⟩
    have ba1:=below_on ba0 b1
    have q0_1:=cell_later ba1 q0
    have q1_1:=cell_later ba1 q1
    have q2_1:=cell_later ba1 q2
    have m1_1:=cell_later ba1 m1
    have m2_1:=cell_later ba1 m2
    go_wp2
    go_ret
    exact⟨by rw[HNO.out];rfl,below_on hb0 (below_on hbw1 ba1)⟩
   ·have HNO:=Hd (HNo.out (fun h=>by have:=h.2.2.1;cases this))
    go_wp2_with fail
    rw[HW1.out]
    have ba0:=Below.refl W1.heap.size W1
    refine(CO.out _).mono ?_
    rintro e w1 ⟨rfl,b1⟩
    have ba1:=below_on ba0 b1
    have q0_1:=cell_later ba1 q0
    have q1_1:=cell_later ba1 q1
    have q2_1:=cell_later ba1 q2
    have m1_1:=cell_later ba1 m1
    have m2_1:=cell_later ba1 m2
    go_wp2_with fail
    refine(CI.out _ ba1).mono ?_
    rintro e w2 ⟨rfl,b2⟩
    have ba2:=below_on ba1 b2
    have q0_2:=cell_later ba2 q0
    have q1_2:=cell_later ba2 q1
    have q2_2:=cell_later ba2 q2
    have m1_2:=cell_later ba2 m1
    have m2_2:=cell_later ba2 m2
    go_wp2
    go_ret
    exact⟨by rw[HNO.out];rfl,below_on hb0 (below_on hbw1 ba2)⟩
   ·have HNO:=Hd (HNo.out (fun h=>by have:=h.1;cases this))
    go_wp2_with fail
    rw[HW1.out]
    have ba0:=Below.refl W1.heap.size W1
    refine(CO.out _).mono ?_
    rintro e w1 ⟨rfl,b1⟩
    have ba1:=below_on ba0 b1
    have q0_1:=cell_later ba1 q0
    have q1_1:=cell_later ba1 q1
    have q2_1:=cell_later ba1 q2
    have m1_1:=cell_later ba1 m1
    have m2_1:=cell_later ba1 m2
    go_wp2_with fail
    refine(CI.out _ ba1).mono ?_
    rintro e w2 ⟨rfl,b2⟩
    have ba2:=below_on ba1 b2
    have q0_2:=cell_later ba2 q0
    have q1_2:=cell_later ba2 q1
    have q2_2:=cell_later ba2 q2
    have m1_2:=cell_later ba2 m1
    have m2_2:=cell_later ba2 m2
    go_wp2_with fail
    refine(CH.out _ ba2).mono ?_
    rintro e w3 ⟨rfl,b3⟩
    have ba3:=below_on ba2 b3
    have q0_3:=cell_later ba3 q0
    have q1_3:=cell_later ba3 q1
    have q2_3:=cell_later ba3 q2
    have m1_3:=cell_later ba3 m1
    have m2_3:=cell_later ba3 m2
    go_wp2
    go_ret
    exact⟨by rw[HNO.out];rfl,below_on hb0 (below_on hbw1 ba3)⟩
   ·have HT:=Hd (NX.out rfl (of_decide_eq_true OB.out) rfl (fun h=>by rw[PV.out h];omega))
    go_wp2_with fail
    rw[HW1.out]
    have ba0:=Below.refl W1.heap.size W1
    refine(CO.out _).mono ?_
    rintro e w1 ⟨rfl,b1⟩
    have ba1:=below_on ba0 b1
    have q0_1:=cell_later ba1 q0
    have q1_1:=cell_later ba1 q1
    have q2_1:=cell_later ba1 q2
    have m1_1:=cell_later ba1 m1
    have m2_1:=cell_later ba1 m2
    go_wp2_with fail
    refine(CI.out _ ba1).mono ?_
    rintro e w2 ⟨rfl,b2⟩
    have ba2:=below_on ba1 b2
    have q0_2:=cell_later ba2 q0
    have q1_2:=cell_later ba2 q1
    have q2_2:=cell_later ba2 q2
    have m1_2:=cell_later ba2 m1
    have m2_2:=cell_later ba2 m2
    go_wp2_with fail
    refine(CH.out _ ba2).mono ?_
    rintro e w3 ⟨rfl,b3⟩
    have ba3:=below_on ba2 b3
    have q0_3:=cell_later ba3 q0
    have q1_3:=cell_later ba3 q1
    have q2_3:=cell_later ba3 q2
    have m1_3:=cell_later ba3 m1
    have m2_3:=cell_later ba3 m2
    go_wp2_with fail
    go_roundw
    case rel=>exact⟨k+1,by omega,by go_num,by rw[HNT.out],HT.out,below_on hbw1 ba3⟩
    case measure=>simp[intOf];omega
  ·have hkl:k=n.ws.length:=by omega
   have hok:Nt.wsOk n=true:=(Nt.wsOk_iff n).2 (by rw[←hkl];exact HALL.out)
   have HOK:=Hd hok
   clear hok
   subst hkl
   go_wp2
   go_ret
   exact⟨by rw[HOK.out];rfl,below_on hb0 hbw⟩
set_option maxRecDepth 100000 in
set_option maxHeartbeats 6400000 in
theorem dnformed_any(S E B V:Option Addr)(cs ce cb cv:Nat)(n:Note)(w:World)(h1:NoteAt w S E B V cs ce cb cv n) :
  Calls Tryz.prog 32 #[.agg (noteCells S E B V cs ce cb cv n)] w (Says (.bool (Nt.fmd n)) w):=by
 obtain⟨W,hW⟩:∃W,w.alloc (.cells (noteCells S E B V cs ce cb cv n) 40)=W:=⟨_,rfl⟩
 have hb0:Below w.heap.size w W:=by rw[←hW];exact below_new (Below.refl _ _) _
 have hB0:Blk W w.heap.size 40 (noteCells S E B V cs ce cb cv n):=by rw[←hW];exact Blk.new w _ _
 obtain⟨c0,c1,c2,c3⟩:=note_cells hB0
 have p0:=c0
 rw[←hW]at p0
 have HN:=Hd (h1.later hb0)
 have HR:=Hd (show Nt.fmd n=(Ve.fmd n.s&&(Ve.fmd n.e&&(Ve.cov (Ve.cnt n.e) (Ve.cnt n.s)&&(Sp.fmd n.b&&Nt.wsOk n)))) from rfl)
 have N0:=Hd (fun wx (hb:Below W.heap.size W wx)=>formed_any S cs n.s wx (HN.out.hs.later hb))
 have N1:=Hd (fun wx (hb:Below W.heap.size W wx)=>formed_any E ce n.e wx (HN.out.he.later hb))
 have N2:=Hd (fun wx (hb:Below W.heap.size W wx)=>covers_any E S ce cs n.e n.s wx (HN.out.he.later hb) (HN.out.hs.later hb))
 have N3:=Hd (fun wx (hb:Below W.heap.size W wx)=>spformed_any B cb n.b wx (HN.out.hb.later hb))
 have N4:=Hd (fun wx (hb:Below W.heap.size W wx)=>(show Calls Tryz.prog 101 #[.agg #[.slice S n.s.length cs,.slice E n.e.length ce,.slice B n.b.length cb,.slice V n.ws.length cv]] wx (Says (.bool (Nt.wsOk n)) wx) from nformedWrites_any S E B V cs ce cb cv n wx (HN.out.later hb)))
 obtain⟨x0,hx0⟩:∃x,Ve.fmd n.s=x:=⟨_,rfl⟩
 obtain⟨x1,hx1⟩:∃x,Ve.fmd n.e=x:=⟨_,rfl⟩
 obtain⟨x2,hx2⟩:∃x,Ve.cov (Ve.cnt n.e) (Ve.cnt n.s)=x:=⟨_,rfl⟩
 obtain⟨x3,hx3⟩:∃x,Sp.fmd n.b=x:=⟨_,rfl⟩
 obtain⟨x4,hx4⟩:∃x,Nt.wsOk n=x:=⟨_,rfl⟩
 rw[hx0]at N0 HR
 rw[hx1]at N1 HR
 rw[hx2]at N2 HR
 rw[hx3]at N3 HR
 rw[hx4]at N4 HR
 have HW:=Hd hW
 clear hW hx0 hx1 hx2 hx3 hx4 hB0 h1
 have bb0:=Below.refl W.heap.size W
 cases x0 with
 |false=>
  go_enter Tryz.func32,Tryz.ntmps32
  go_wp2_with fail
  rw[HW.out]
  refine(N0.out _ bb0).mono ?_
  rintro e w1 ⟨rfl,b1⟩
  have bb1:=below_on bb0 b1
  have c0_1:=cell_later bb1 c0
  have c1_1:=cell_later bb1 c1
  have c2_1:=cell_later bb1 c2
  have c3_1:=cell_later bb1 c3
  clear p0
  go_wp2
  go_ret
  exact⟨by rw[HR.out];rfl,below_on hb0 bb1⟩
 |true=>
 cases x1 with
 |false=>
  go_enter Tryz.func32,Tryz.ntmps32
  go_wp2_with fail
  rw[HW.out]
  refine(N0.out _ bb0).mono ?_
  rintro e w1 ⟨rfl,b1⟩
  have bb1:=below_on bb0 b1
  have c0_1:=cell_later bb1 c0
  have c1_1:=cell_later bb1 c1
  have c2_1:=cell_later bb1 c2
  have c3_1:=cell_later bb1 c3
  clear p0
  go_wp2_with fail
  refine(N1.out _ bb1).mono ?_
  rintro e w2 ⟨rfl,b2⟩
  have bb2:=below_on bb1 b2
  have c0_2:=cell_later bb2 c0
  have c1_2:=cell_later bb2 c1
  have c2_2:=cell_later bb2 c2
  have c3_2:=cell_later bb2 c3
  clear c0_1 c1_1 c2_1 c3_1
  go_wp2
  go_ret
  exact⟨by rw[HR.out];rfl,below_on hb0 bb2⟩
 |true=>
 cases x2 with
 |false=>
  go_enter Tryz.func32,Tryz.ntmps32
  go_wp2_with fail
  rw[HW.out]
  refine(N0.out _ bb0).mono ?_
  rintro e w1 ⟨rfl,b1⟩
  have bb1:=below_on bb0 b1
  have c0_1:=cell_later bb1 c0
  have c1_1:=cell_later bb1 c1
  have c2_1:=cell_later bb1 c2
  have c3_1:=cell_later bb1 c3
  clear p0
  go_wp2_with fail
  refine(N1.out _ bb1).mono ?_
  rintro e w2 ⟨rfl,b2⟩
  have bb2:=below_on bb1 b2
  have c0_2:=cell_later bb2 c0
  have c1_2:=cell_later bb2 c1
  have c2_2:=cell_later bb2 c2
  have c3_2:=cell_later bb2 c3
  clear c0_1 c1_1 c2_1 c3_1
  go_wp2_with fail
  refine(N2.out _ bb2).mono ?_
  rintro e w3 ⟨rfl,b3⟩
  have bb3:=below_on bb2 b3
  have c0_3:=cell_later bb3 c0
  have c1_3:=cell_later bb3 c1
  have c2_3:=cell_later bb3 c2
  have c3_3:=cell_later bb3 c3
  clear c0_2 c1_2 c2_2 c3_2
  go_wp2
  go_ret
  exact⟨by rw[HR.out];rfl,below_on hb0 bb3⟩
 |true=>
 cases x3 with
 |false=>
  go_enter Tryz.func32,Tryz.ntmps32
  go_wp2_with fail
  rw[HW.out]
  refine(N0.out _ bb0).mono ?_
  rintro e w1 ⟨rfl,b1⟩
  have bb1:=below_on bb0 b1
  have c0_1:=cell_later bb1 c0
  have c1_1:=cell_later bb1 c1
  have c2_1:=cell_later bb1 c2
  have c3_1:=cell_later bb1 c3
  clear p0
  go_wp2_with fail
  refine(N1.out _ bb1).mono ?_
  rintro e w2 ⟨rfl,b2⟩
  have bb2:=below_on bb1 b2
  have c0_2:=cell_later bb2 c0
  have c1_2:=cell_later bb2 c1
  have c2_2:=cell_later bb2 c2
  have c3_2:=cell_later bb2 c3
  clear c0_1 c1_1 c2_1 c3_1
  go_wp2_with fail
  refine(N2.out _ bb2).mono ?_
  rintro e w3 ⟨rfl,b3⟩
  have bb3:=below_on bb2 b3
  have c0_3:=cell_later bb3 c0
  have c1_3:=cell_later bb3 c1
  have c2_3:=cell_later bb3 c2
  have c3_3:=cell_later bb3 c3
  clear c0_2 c1_2 c2_2 c3_2
  go_wp2_with fail
  refine(N3.out _ bb3).mono ?_
  rintro e w4 ⟨rfl,b4⟩
  have bb4:=below_on bb3 b4
  have c0_4:=cell_later bb4 c0
  have c1_4:=cell_later bb4 c1
  have c2_4:=cell_later bb4 c2
  have c3_4:=cell_later bb4 c3
  clear c0_3 c1_3 c2_3 c3_3
  go_wp2
  go_ret
  exact⟨by rw[HR.out];rfl,below_on hb0 bb4⟩
 |true=>
 go_enter Tryz.func32,Tryz.ntmps32
 go_wp2_with fail
 rw[HW.out]
 refine(N0.out _ bb0).mono ?_
 rintro e w1 ⟨rfl,b1⟩
 have bb1:=below_on bb0 b1
 have c0_1:=cell_later bb1 c0
 have c1_1:=cell_later bb1 c1
 have c2_1:=cell_later bb1 c2
 have c3_1:=cell_later bb1 c3
 clear p0
 go_wp2_with fail
 refine(N1.out _ bb1).mono ?_
 rintro e w2 ⟨rfl,b2⟩
 have bb2:=below_on bb1 b2
 have c0_2:=cell_later bb2 c0
 have c1_2:=cell_later bb2 c1
 have c2_2:=cell_later bb2 c2
 have c3_2:=cell_later bb2 c3
 clear c0_1 c1_1 c2_1 c3_1
 go_wp2_with fail
 refine(N2.out _ bb2).mono ?_
 rintro e w3 ⟨rfl,b3⟩
 have bb3:=below_on bb2 b3
 have c0_3:=cell_later bb3 c0
 have c1_3:=cell_later bb3 c1
 have c2_3:=cell_later bb3 c2
 have c3_3:=cell_later bb3 c3
 clear c0_2 c1_2 c2_2 c3_2
 go_wp2_with fail
 refine(N3.out _ bb3).mono ?_
 rintro e w4 ⟨rfl,b4⟩
 have bb4:=below_on bb3 b4
 have c0_4:=cell_later bb4 c0
 have c1_4:=cell_later bb4 c1
 have c2_4:=cell_later bb4 c2
 have c3_4:=cell_later bb4 c3
 clear c0_3 c1_3 c2_3 c3_3
 go_wp2_with fail
 refine(N4.out _ bb4).mono ?_
 rintro e w5 ⟨rfl,b5⟩
 have bb5:=below_on bb4 b5
 have c0_5:=cell_later bb5 c0
 have c1_5:=cell_later bb5 c1
 have c2_5:=cell_later bb5 c2
 have c3_5:=cell_later bb5 c3
 clear c0_4 c1_4 c2_4 c3_4
 go_wp2
 go_ret
 exact⟨by rw[HR.out];rfl,below_on hb0 bb5⟩
set_option maxHeartbeats 800000 in
theorem dnfits_any(S E B V A:Option Addr)(cs ce cb cv c:Nat)(n:Note)(l:List (Int × Int))(w:World)(h1:NoteAt w S E B V cs ce cb cv n)(h2:OneL w A c l) :
  Calls Tryz.prog 124 #[.agg (noteCells S E B V cs ce cb cv n),.slice A l.length c] w (Says (.bool (Ve.cov (Ve.cnt l) (Ve.cnt n.s))) w):=by
 obtain⟨W,hW⟩:∃W,w.alloc (.cells (noteCells S E B V cs ce cb cv n) 40)=W:=⟨_,rfl⟩
 have hb0:Below w.heap.size w W:=by rw[←hW];exact below_new (Below.refl _ _) _
 have hB0:Blk W w.heap.size 40 (noteCells S E B V cs ce cb cv n):=by rw[←hW];exact Blk.new w _ _
 obtain⟨c0,c1,c2,c3⟩:=note_cells hB0
 have hO:=h2.later hb0
 have hS:=h1.hs.later hb0
 have N0:=Hd (covers_any A S c cs l n.s W hO hS)
 have p0:=c0
 rw[←hW]at p0
 have HW:=Hd hW
 clear hW hB0 h1 h2 hO hS
 go_enter Tryz.func124,Tryz.ntmps124
 go_wp2_with fail
 rw[HW.out]
 refine N0.out.mono ?_
 rintro e w1 ⟨rfl,b1⟩
 go_wp2
 go_ret
 exact⟨rfl,below_on hb0 b1⟩
set_option maxHeartbeats 1600000 in
theorem cloneS_any(A:Option Addr)(c:Nat)(l:List (Int × Int))(w:World)(hl:l.length*16≤140737488355328)(h:OneL w A c l) :
  Calls Tryz.prog 77 #[.slice A l.length c] w (Gives l w):=by
 obtain⟨i0,hI,hz0,hz1,hz2⟩:=info_parts infoSt
 cases A with
 |none=>
  obtain⟨h1,h2⟩:=h.2.2.1 rfl
  have hl0:l=[]:=List.eq_nil_of_length_eq_zero h1
  subst hl0
  subst h2
  clear h
  have hq:=Lib.run_eql_slice_nil (P:=Tryz.prog) w 22 46 none 0 0 0 0 Tryz.underlying22
  go_enter Tryz.func77,Tryz.ntmps77
  go_wp2
  go_ret
  exact⟨_,rfl,⟨rfl,.inl ⟨rfl,rfl⟩⟩,Below.refl _ _⟩
 |some a=>
  have hq:=Lib.run_eql_slice_nil (P:=Tryz.prog) w 22 46 (some a) l.length c 0 0 Tryz.underlying22
  have HL:=Hd (h.2.2.2.alloc (.cells #[] 46))
  have HB:=Hd (Blk.new w 46 #[])
  have b0:=below_new (Below.refl w.heap.size w) (.cells #[] 46)
  have hlen:=h.len
  clear h
  go_enter Tryz.func77,Tryz.ntmps77
  go_wp2_with (at_builtin;refine wpList_append_fresh _ rfl _ _ 22 rfl w.heap.size w.heap.size 46 i0 (.agg #[.int .i64 0,.int .i64 0]) 2 16 Tryz.underlying22 hI hz0 hz1 hz2 rfl (by decide) rfl HB.out (Nat.le_refl _) (some a) l.length c (fun h=>by cases h) (stCells l) rfl (stCells_length l) HL.out (stCells_one l) (by unfold maxLen;omega) hl ?_)
  intro v' w' ho hb
  have HO:=Hd ho
  clear ho
  go_wp2
  go_ret
  exact⟨v',rfl,HO.out,below_on b0 (by rw[show(w.alloc (.cells #[] 46)).heap.size=w.heap.size+1 from by simp];exact hb)⟩
end Go.Proofs.YtjlfehpockfkdaaGreat
namespace Go.Proofs.YtjlfehpockfkdaaGreat
open Go.RowKit Go.Shelf Fb
def FarL(B:Nat)(W:World)(D:Option Addr)(L:List (Int × Int)):Prop:=
 L≠[]→∃g off,D=some ⟨g,off,none⟩∧B≤g∧∀k,k<L.length→W.cell? ⟨g,off+k*2,none⟩=some (.int .i64 (L.getD k (0,0)).1)∧W.cell? ⟨g,off+(k*2+1),none⟩=some (.int .i64 (L.getD k (0,0)).2)
theorem FarL.later{B:Nat}{W W':World}{D:Option Addr}{L:List (Int × Int)}(h:FarL B W D L)(hb:Below W.heap.size W W'):FarL B W' D L:=fun hne=>by
 obtain⟨g,off,h1,h2,h3⟩:=h hne
 exact⟨g,off,h1,h2,fun k hk=>⟨cell_later hb (h3 k hk).1,cell_later hb (h3 k hk).2⟩⟩
theorem own_far{w:World}{base:Nat}{e:TypeId}{v:Value}{L:List (Int × Int)}(h:w.ownsRow base e 2 v L.length (stCells L)):∃D dc,v = .slice D L.length dc∧FarL base w D L:=by
 by_cases hne:L=[]
 ·subst hne
  obtain⟨D,dc,rfl,_⟩:=own_form h
  exact⟨D,dc,rfl,fun h=>absurd rfl h⟩
 ·obtain⟨g,cap,rfl⟩:=own_len h (List.length_pos_iff.2 hne)
  refine⟨_,_,rfl,fun _=>⟨g,0,rfl,(own_base_le h).1,fun k hk =>?_⟩⟩
  obtain⟨q1,q2⟩:=stCells_get L k hk
  exact⟨by rw[Nat.zero_add];exact own_cell_at h q1,by rw[Nat.zero_add];exact own_cell_at h q2⟩
theorem join_one{w:World}{A:Option Addr}{c:Nat}{l:List (Int × Int)}(h1:OneL w A c l)(t:TypeId) :
  Calls Tryz.prog 90 #[.slice (some ⟨w.heap.size,0,none⟩) 1 1] (w.alloc (.cells #[.slice A l.length c] t)) (GivesS (Sp.ofL (Sp.inL l)) w):=by
 have b0:=below_new (Below.refl w.heap.size w) (.cells #[.slice A l.length c] t)
 rw[←joinS_one l]
 refine(spjoin_any (some ⟨w.heap.size,0,none⟩) 1 [l] _ (by simp) (by rw[Sp.tot_one];exact h1.len) (rows_one (Blk.new w t _) (h1.later b0))).mono ?_
 rintro e w' ⟨v,he,ho,hb⟩
 exact⟨v,he,own_base ho (by simp),below_on b0 hb⟩
theorem setOf_one{w:World}{A:Option Addr}{c:Nat}{l:List (Int × Int)}(h1:OneL w A c l)(t:TypeId) :
  Calls Tryz.prog 149 #[.slice (some ⟨w.heap.size,0,none⟩) 1 1] (w.alloc (.cells #[.slice A l.length c] t)) fun e w'=>e = .returned (.agg (Sp.arr (Sp.inL l)))∧Below w.heap.size w w':=by
 have b0:=below_new (Below.refl w.heap.size w) (.cells #[.slice A l.length c] t)
 have e0:Sp.arr (Sp.inL l)=Sp.arr (Sp.anyTo [l] [l].length):=Sp.arr_ext fun o _=>by
  show Sp.inL l o=(false||Sp.inL l o)
  rw[Bool.false_or]
 rw[e0]
 refine(setOf_any (some ⟨w.heap.size,0,none⟩) 1 [l] _ (by simp) (by rw[Sp.tot_one];exact h1.len) (rows_one (Blk.new w t _) (h1.later b0))).mono ?_
 rintro e w' ⟨he,hb⟩
 exact⟨he,below_on b0 hb⟩
def WalkerS(L:List (Int × Int))(w:World)(e:Ending)(w1:World):Prop:=
 ∃bc D dc,e = .returned (.func (.func 172) #[] #[.pointer (some ⟨bc,0,none⟩)])∧w1.cell? ⟨bc,0,none⟩=some (.slice D L.length dc)∧FarL w.heap.size w1 D L∧Below w.heap.size w w1
set_option maxHeartbeats 800000 in
theorem spAll_any(A:Option Addr)(c:Nat)(l:List (Int × Int))(w:World)(h:OneL w A c l) :
  Calls Tryz.prog 151 #[.slice A l.length c] w (WalkerS (Sp.ofL (Sp.inL l)) w):=by
 have H:=Hd (fun t=>join_one h t)
 clear h
 obtain⟨L,hL⟩:∃L,Sp.ofL (Sp.inL l)=L:=⟨_,rfl⟩
 rw[hL]at H ⊢
 clear hL
 go_enter Tryz.func151,Tryz.ntmps151
 go_wp2_with fail
 refine(H.out _).mono ?_
 rintro e w1 ⟨v,rfl,ho,b1⟩
 obtain⟨D,dc,rfl,hf⟩:=own_far ho
 have HF:=Hd hf
 clear H ho hf
 go_wp2
 go_ret
 exact⟨w1.heap.size,D,dc,rfl,(Blk.new w1 _ _).cell rfl,HF.out.later (below_new (Below.refl _ _) _),below_new b1 _⟩
theorem enters_eachO:∀args w,(callFunc 172 args).run Tryz.prog w = .ok (.enter 172 args) w:=
 enters_of Tryz.func172 (by kernel_rfl) rfl
theorem eachO_stops(f:Nat→Bool)(n₀ B bc dc:Nat)(D:Option Addr)(w:World)(hle:B≤w.heap.size)
  (hc:w.cell? ⟨bc,0,none⟩=some (.slice D (Sp.ofL f).length dc))(hL:FarL B w D (Sp.ofL f)) :
  SeqStopsK Fence.wide 2 Tryz.prog 172 #[.pointer (some ⟨bc,0,none⟩)] told1 (KeepC n₀ B) (· = Sp.obL f) (· <+: Sp.obL f) 256 w:=by
 rw[←Sp.comesO_obL f]
 exact fun l J Jx W hW hJ _ hY h0=>eachO_in told1 (fun k=>(k:Int)) (fun _ _=>rfl) f 2 (by omega) l n₀ B bc W.heap.size dc D J Jx hJ hY W (cell_later hW hc) (hL.later hW) (Nat.le_trans hle hW.size) h0
theorem walkO_stops(f:Nat→Bool)(n₀ B bc dc:Nat)(D:Option Addr)(w:World)(hle:B≤w.heap.size)
  (hc:w.cell? ⟨bc,0,none⟩=some (.slice D (Sp.ofL f).length dc))(hL:FarL B w D (Sp.ofL f)) :
  SeqStopsK Fence.wide 2 Tryz.prog 172 #[.pointer (some ⟨bc,0,none⟩)] tellO (KeepC n₀ B) (· = Sp.comesO Sp.objF f 256) (· <+: Sp.comesO Sp.objF f 256) 256 w:=
 fun l J Jx W hW hJ _ hY h0=>eachO_in tellO Sp.objF (fun k hk=>by unfold tellO;rw[Sp.objF_val hk]) f 2 (by omega) l n₀ B bc W.heap.size dc D J Jx hJ hY W (cell_later hW hc) (hL.later hW) (Nat.le_trans hle hW.size) h0
attribute [local go_sem] Oper.semAt_some
set_option maxRecDepth 100000 in
set_option maxHeartbeats 1600000 in
theorem spof_any(A:Option Addr)(c:Nat)(xs:List Int)(w:World)(hl:xs.length≤9223372036854775807)(h1:Lies w A (xs.map (Value.int .i64))) :
  Calls Tryz.prog 109 #[.slice A xs.length c] w (GivesS (Sp.ofL (Sp.someOf xs)) w):=by
 have H1:=Hd h1
 clear h1
 go_enter Tryz.func109,Tryz.ntmps109
 go_wp2_with fail
 rw[set_zero]
 go_loopw [8] (fun s4 wr=>∃k:Nat,k≤xs.length∧s4 = .int .i64 (k:Int)∧Blk wr w.heap.size 178 (Sp.arr (Sp.someOf (xs.take k)))∧Below w.heap.size w wr) (fun s4 _=>xs.length-(intOf s4).toNat)
 case atStart=>exact⟨0,Nat.zero_le _,rfl,Blk.new _ _ _,below_new (Below.refl _ _) _⟩
 case round=>
  obtain⟨k,hk,rfl,hB,hbw⟩:=hrel
  by_cases hlt:k<xs.length
  ·have hne:xs.map (Value.int .i64)≠[]:=fun e=>by rw[List.map_eq_nil_iff]at e;subst e;simp at hlt
   obtain⟨b,off,hA,hc⟩:=(H1.out.later hbw) hne
   subst hA
   have e0:=hc k (.int .i64 xs[k]) (by rw[List.getElem?_map,List.getElem?_eq_getElem hlt];rfl)
   have hit:=Sp.someOf_take xs k hlt
   obtain⟨x,hx⟩:∃x,xs[k]=x:=⟨_,rfl⟩
   rw[hx]at e0 hit
   obtain⟨f,hf⟩:∃f,Sp.someOf (xs.take k)=f:=⟨_,rfl⟩
   rw[hf]at hB hit
   have hi0:(0:Int)≤(k:Int):=by omega
   have hi1:(k:Int)<(xs.length:Int):=by omega
   have hout:¬(0≤x∧x≤255)→∀i,i<256→f i=Sp.someOf (xs.take (k+1)) i:=fun h i hi=>by
    rw[hit i,decide_eq_false (by omega),Bool.or_false]
   have HOUT:=Hd hout
   have HIT:=Hd hit
   have HB:=Hd hB
   clear hout hit hB hc hf hx
   have n1:=fun wx=>isObject_any x wx
   by_cases h0:0≤x∧x≤255
   ·rw[decide_eq_true h0]at n1
    have N1:=Hd n1
    obtain⟨n,rfl⟩:∃n:Nat,x=(n:Int):=⟨x.toNat,by omega⟩
    have hn:n<256:=by omega
    clear n1 h0
    go_wp2_with fail
    refine(N1.out _).mono ?_
    rintro e w2 ⟨rfl,b2⟩
    have hbx:=below_on hbw b2
    have HC:=HB.out.later b2
    have x1:=HC.marks_cell n hn
    have x2:=HC.free n
    have hj0:(0:Int)≤(n:Int):=by omega
    have hj1:(n:Int)<256:=by omega
    have hB2:=(HC.marks_put n hn true).marks_same (f':=Sp.someOf (xs.take (k+1))) (fun i _=>by
     rw[HIT.out i]
     by_cases e:i=n
     ·rw[if_pos e,decide_eq_true (by omega),Bool.or_true]
     ·rw[if_neg e,decide_eq_false (by omega),Bool.or_false])
    have HB2:=Hd hB2
    have hbz:=hbx.setCell (p:=⟨w.heap.size,n,none⟩) (Nat.le_refl _) (.bool true)
    clear hB2 HC N1
    go_wp2_with fail
    go_roundw
    case rel=>exact⟨k+1,by omega,by go_num,HB2.out,hbz⟩
    case measure=>simp[intOf];omega
   ·rw[decide_eq_false h0]at n1
    have N1:=Hd n1
    have HB2:=Hd (HB.out.marks_same (HOUT.out h0))
    clear n1
    go_wp2_with fail
    refine(N1.out _).mono ?_
    rintro e w2 ⟨rfl,b2⟩
    have HB3:=Hd (HB2.out.later b2)
    have hbx:=below_on hbw b2
    clear N1
    go_wp2_with fail
    go_roundw
    case rel=>exact⟨k+1,by omega,by go_num,HB3.out,hbx⟩
    case measure=>simp[intOf];omega
  ·have hkl:k=xs.length:=by omega
   subst hkl
   rw[List.take_length]at hB
   have HB:=Hd hB
   clear hB
   go_wp2_with (refine wpList_load_row rfl 178 _ rfl w.heap.size rfl 178 _ (0,0) _ HB.out Tryz.underlying178 rfl (by rw[Sp.arr_size];exact infoSet) ?_)
   refine(spans_any _ _).mono ?_
   rintro e w3 ⟨v,rfl,ho,hb3⟩
   have HO:=Hd ho
   have hz:=hbw.size
   clear ho
   go_wp2
   go_ret
   exact⟨_,rfl,own_base HO.out hz,below_on hbw hb3⟩
set_option maxRecDepth 100000 in
set_option maxHeartbeats 3200000 in
theorem spmeet_any(A B:Option Addr)(c d:Nat)(l r:List (Int × Int))(w:World)(h1:OneL w A c l)(h2:OneL w B d r) :
  Calls Tryz.prog 96 #[.slice A l.length c,.slice B r.length d] w (GivesS (Sp.meetS l r) w):=by
 have n0:=fun t=>setOf_one h2 t
 have n1:=fun wx (hx:OneL wx A c l)=>spAll_any A c l wx hx
 have hsq:=fun n₀ B bc dc D wx hx h1 h2=>walkO_stops (Sp.inL l) n₀ B bc dc D wx hx h1 h2
 have hall:=Sp.hasF_all (Sp.inL l)
 unfold Sp.meetS
 obtain⟨J,hJ⟩:∃J,Sp.comesO Sp.objF (Sp.inL l) 256=J:=⟨_,rfl⟩
 obtain⟨L,hL⟩:∃L,Sp.ofL (Sp.inL l)=L:=⟨_,rfl⟩
 obtain⟨f,hf⟩:∃f,Sp.inL l=f:=⟨_,rfl⟩
 obtain⟨g,hg⟩:∃g,Sp.inL r=g:=⟨_,rfl⟩
 rw[hJ]at hsq hall
 rw[hL]at n1 hsq
 rw[hf]at hall ⊢
 rw[hg]at n0 ⊢
 have SQ:=Hd hsq
 have N0:=Hd n0
 have N1:=Hd n1
 have H1:=Hd h1
 have HALL:=Hd hall
 clear n0 n1 h1 h2 hJ hL hf hg hsq hall
 refine(callsIn_wide (n:=3)).1 ?_
 refine callsIn_of_wp_marks Tryz.func96 rfl trivial ?_ rfl
 simp only[Tryz.ntmps96,List.size_toArray,List.length_cons,List.length_nil,Nat.reduceAdd,Nat.reduceSub,Array.replicate_succ,Array.replicate_zero,List.push_toArray,List.append_toArray,List.nil_append,List.cons_append]
 gi_wp2_with fail
 refine⟨trivial,(callsIn_wide.2 (N0.out _)).mono ?_⟩
 rintro e w1 ⟨rfl,b1⟩
 have E5:=Blk.new w1 178 (Sp.arr fun _=>false)
 have F5:=(E5.row (Sp.arr g)).alloc (.cells (Sp.arr fun _=>false) 178)
 have hzz:((w1.alloc (.cells (Sp.arr fun _=>false) 178)).setRow w1.heap.size (Sp.arr g)).heap.size=w1.heap.size+1:=by simp
 have F6:=Blk.new ((w1.alloc (.cells (Sp.arr fun _=>false) 178)).setRow w1.heap.size (Sp.arr g)) 178 (Sp.arr fun _=>false)
 have b3:=below_new (below_setRow (below_new b1 (.cells (Sp.arr fun _=>false) 178)) b1.size (Sp.arr g)) (.cells (Sp.arr fun _=>false) 178)
 rw[hzz]at F6
 have z3:(((w1.alloc (.cells (Sp.arr fun _=>false) 178)).setRow w1.heap.size (Sp.arr g)).alloc (.cells (Sp.arr fun _=>false) 178)).heap.size=w1.heap.size+2:=by simp
 rw[←set_zero]at E5
 gi_wp2_with (refine in_store_row rfl 178 _ _ rfl w1.heap.size _ rfl rfl 178 _ E5 (by rw[Sp.arr_size];exact infoSet) (by rw[set_zero,Sp.arr_size,Sp.arr_size]) (one_marks _) ?_)
 rw[set_zero]
 obtain⟨W3,hW3⟩:∃W3,((w1.alloc (.cells (Sp.arr fun _=>false) 178)).setRow w1.heap.size (Sp.arr g)).alloc (.cells (Sp.arr fun _=>false) 178)=W3:=⟨_,rfl⟩
 rw[hW3]at F5 F6 b3 z3 ⊢
 have hz1:=b1.size
 clear hW3 E5 hzz N0
 refine⟨trivial,(callsIn_wide.2 (N1.out _ (H1.out.later b3))).mono ?_⟩
 rintro e w4 ⟨bc,D,dc,rfl,hc,hfar,b4⟩
 have bb4:=below_on b3 b4
 have G5:=F5.later b4
 have G6:=F6.later b4
 have z4:=b4.size
 clear F5 F6 N1 H1
 gi_wp2_with fail
 refine wpIn_rangeFunc_ownF rfl (by omega) (gf:=172) (lb:=#[.pointer (some ⟨bc,0,none⟩)]) rfl trivial enters_eachO (SQ.out w.heap.size W3.heap.size bc dc D w4 b4.size hc hfar) KeepC.trans (fun W l' o o' _ h1 h2 _=>KeepC.mark W l' o o' h1 h2) (Below.refl _ _) (fun _=>rfl)
  (fun pre W=>(Blk W w1.heap.size 178 (Sp.arr g)∧Blk W (w1.heap.size+1) 178 (Sp.arr fun j=>Sp.hasF pre j&&g j))∧Below w.heap.size w W)
  (fun _ _ _=>False) ?hI (fun _ _ _ _ _ h _ _=>h) ⟨⟨G5,G6⟩,bb4⟩
  (fun x=>{ tmps:=#[.slice A l.length c,.slice B r.length d,undef,undef,.slice none 0 0,.pointer (some ⟨w1.heap.size,0,none⟩),.pointer (some ⟨w1.heap.size+1,0,none⟩),.int .i64 (x.val:Int),.slice B r.length d,.slice (some ⟨w.heap.size,0,none⟩) 1 1,.agg (Sp.arr g),.slice A l.length c,.func (.func 172) #[] #[.pointer (some ⟨bc,0,none⟩)],.int .i64 (x.val:Int),undef,undef,undef,undef,undef,undef,undef],defers:=[] }) ?assign ?body ?done ?stop
 case hI=>exact OwnFrom.and (OwnFrom.and (Own.from (blk_own _ _ fun _=>Sp.arr g) _) (Own.from (blk_own _ _ fun pre=>Sp.arr fun j=>Sp.hasF pre j&&g j) _)) (ownFrom_below (Nat.le_refl _) bb4.size)
 case assign=>
  intro l' x W K hK
  unfold tellO
  gi_wp2
  exact hK
 case body=>
  rintro l' pre x W ⟨⟨hB5,hB6⟩,hBw⟩ _
  have c1:=hB5.marks_cell x.val x.isLt
  have c2:=hB6.marks_cell x.val x.isLt
  have c3:=hB6.free x.val
  have hx0:(0:Int)≤(x.val:Int):=by omega
  have hx1:(x.val:Int)<256:=by have:=x.isLt;omega
  have hst:∀i,i<256→(if i=x.val then g x.val else (Sp.hasF pre i&&g i))=(Sp.hasF (pre++[x]) i&&g i):=fun i _=>by
   rw[Sp.hasF_snoc]
   by_cases hi:i=x.val
   ·rw[if_pos hi,decide_eq_true hi.symm,Bool.or_true,Bool.true_and,hi]
   ·rw[if_neg hi,decide_eq_false (fun h=>hi h.symm),Bool.or_false]
  have B6:=(hB6.marks_put x.val x.isLt (g x.val)).marks_same hst
  have B5:=hB5.far (p:=⟨w1.heap.size+1,x.val,none⟩) (by show w1.heap.size≠w1.heap.size+1;omega) (.bool (g x.val))
  have hbs:=hBw.setCell (p:=⟨w1.heap.size+1,x.val,none⟩) (by show w.heap.size≤w1.heap.size+1;omega) (.bool (g x.val))
  have HB5:=Hd B5
  have HB6:=Hd B6
  clear hst hB5 hB6 B5 B6
  gi_wp2
  exact⟨KeepsOthers.setCell _ _ _,KeepC.set _ _ _ (by show w.heap.size≤w1.heap.size+1;omega) (by show w1.heap.size+1<W3.heap.size;omega),⟨HB5.out,HB6.out⟩,hbs⟩
 case done=>
  rintro DD ys W hD hys ⟨⟨hB5,hB6⟩,hBw⟩ hK
  rw[hys]at hB6
  have hN2:=hB6.marks_same (f':=fun j=>f j&&g j) (fun i hi=>by rw[HALL.out i hi])
  have hDl:=(Array.getElem?_eq_some_iff.1 hK).1
  have HN:=Hd hN2
  clear hB5 hB6 hN2 G5 G6
  gi_wp2_with (refine in_load_row rfl 178 _ rfl (w1.heap.size+1) rfl 178 _ _ HN.out Tryz.underlying178 rfl (by rw[Sp.arr_size];exact infoSet) ?_)
  refine⟨trivial,(callsIn_wide.2 (spans_any _ _)).mono ?_⟩
  rintro e w5 ⟨v,rfl,ho,b5⟩
  have hK5:=(b5.block DD hDl).trans hK
  have hb5:=below_on hBw b5
  have HO:=Hd ho
  clear ho HN
  gi_wp2
  refine⟨by simp,.inl ⟨_,_,rfl,run_takeDeferred hK5,?_⟩⟩
  exact⟨_,results_tmp rfl _ _ _,v,rfl,ownsRow_putObj (own_base HO.out hBw.size) _ hK5 rfl,hb5.trans (belowK_b (w:=w) (Nat.le_refl _) w5 DD _ _ (by have:=bb4.size;omega) hK5 rfl rfl)⟩
 case stop=>
  rintro DD c pre W _ _ h _
  exact h.elim
end Go.Proofs.YtjlfehpockfkdaaGreat
namespace Go.Proofs.YtjlfehpockfkdaaGreat
open Go.RowKit
set_option maxHeartbeats 800000 in
theorem scloneB_any(A:Option Addr)(c1:Nat)(l:List Int)(w:World)(hl:l.length≤140737488355328)(h1:OneB w A c1 l) :
  Calls Tryz.prog 135 #[.slice A l.length c1] w (GivesB l w):=by
 obtain⟨i0,hi,hz0,hz1,hz2⟩:=info_parts infoBy
 cases A with
 |none=>
  obtain⟨h0,hc⟩:=h1.noA rfl
  have hl0:l=[]:=List.eq_nil_of_length_eq_zero h0
  subst hl0
  subst hc
  clear h1
  have heq:=fun wx=>Lib.run_eql_slice_nil (P:=Tryz.prog) wx 47 5 none 0 0 0 0 Tryz.underlying47
  go_enter Tryz.func135,Tryz.ntmps135
  go_wp2
  go_ret
  exact⟨_,rfl,⟨rfl,.inl ⟨rfl,rfl⟩⟩,Below.refl _ _⟩
 |some a=>
  have hown:(w.alloc (.cells #[] 5)).ownsRow w.heap.size 5 1 (.slice (some ⟨w.heap.size,0,none⟩) 0 0) 0 []:=
   ⟨rfl,.inr ⟨w.heap.size,0,#[],rfl,Nat.le_refl _,heap_alloc_new w _,Nat.le_refl _,Nat.zero_le _,rfl,rfl⟩⟩
  have HA:=Hd h1.noA
  have heq:=fun wx=>Lib.run_eql_slice_nil (P:=Tryz.prog) wx 47 5 (some a) l.length c1 0 0 Tryz.underlying47
  go_enter Tryz.func135,Tryz.ntmps135
  go_wp2_with (at_builtin;refine wpList_append_lies _ rfl _ _ 47 rfl w.heap.size 5 i0 (.int .u8 0) 1 1 Tryz.underlying47 hi hz0 hz1 hz2 rfl (by decide) _ 0 [] rfl hown (some a) l.length c1 HA.out (bCells l) rfl (by rw[bCells_length,Nat.mul_one]) (h1.lies.alloc _) (bCells_one l) ?c3 ?c4 ?c5 ?_)
  case c3=>unfold maxLen;omega
  case c4=>omega
  case c5=>simp
  intro v' w1 hown1 hg1 _
  have hbw:Below w.heap.size w w1:=(below_new (Below.refl _ _) (.cells #[] 5)).grown hg1 (by simp) (by intro k hk;simp[Value.ownBlock]at hk;omega)
  try simp only[Nat.zero_add,List.nil_append]at hown1
  have HO:=Hd hown1
  clear hown hown1 hg1
  go_wp2
  go_ret
  exact⟨_,rfl,HO.out,hbw⟩
theorem cdisObject_any(o:Int)(w:World):Calls Tryz.prog 170 #[.int .i64 o] w fun e w'=>e = .returned (.bool (decide (0≤o)&&decide (o≤255)))∧w=w':=by
 by_cases h0:0≤o
 ·by_cases h1:o<256
  ·rw[show(decide (0≤o)&&decide (o≤255))=true from by rw[decide_eq_true h0,decide_eq_true (show o≤255 by omega)];rfl]
   go_enter Tryz.func170,Tryz.ntmps170
   go_wp2
   go_ret
   exact⟨rfl,rfl⟩
  ·rw[show(decide (0≤o)&&decide (o≤255))=false from by rw[decide_eq_true h0,decide_eq_false (show ¬o≤255 by omega)];rfl]
   go_enter Tryz.func170,Tryz.ntmps170
   go_wp2
   go_ret
   exact⟨rfl,rfl⟩
 ·rw[show(decide (0≤o)&&decide (o≤255))=false from by rw[decide_eq_false h0];rfl]
  go_enter Tryz.func170,Tryz.ntmps170
  go_wp2
  go_ret
  exact⟨rfl,rfl⟩
set_option maxHeartbeats 3200000 in
theorem cdformedBody_any(D:Option Addr)(d:Nat)(x:Bd)(w:World) :
  Calls Tryz.prog 140 #[.agg (bdCells D d x)] w (Says (.bool (Wi.bright x)) w):=by
 obtain⟨o,c,n,l⟩:=x
 unfold bdCells
 simp only
 obtain⟨W,hW⟩:∃W,w.alloc (.cells #[.int .i64 o,.int .i64 c,.int .i64 n,.slice D l.length d] 49)=W:=⟨_,rfl⟩
 have hb0:Below w.heap.size w W:=by rw[←hW];exact below_new (Below.refl _ _) _
 have hB0:Blk W w.heap.size 49 #[.int .i64 o,.int .i64 c,.int .i64 n,.slice D l.length d]:=by rw[←hW];exact Blk.new w _ _
 have c0:=hB0.cell (i:=0) rfl
 have c1:=hB0.cell (i:=1) rfl
 have c2:=hB0.cell (i:=2) rfl
 have c3:=hB0.cell (i:=3) rfl
 have hR:=Hd (show Wi.bright ⟨o,c,n,l⟩=(decide (0≤o)&&(decide (o≤255)&&(St.rgt c n&&decide (l.length≤256)))) from rfl)
 have HW:=Hd hW
 have NR:=Hd (right_any c n W)
 obtain⟨rg,hrg⟩:∃rg,St.rgt c n=rg:=⟨_,rfl⟩
 obtain⟨ob,hob⟩:∃ob,(decide (0≤o)&&decide (o≤255))=ob:=⟨_,rfl⟩
 have NO:=Hd (cdisObject_any o W)
 have hR2:=Hd (show Wi.bright ⟨o,c,n,l⟩=(ob&&(rg&&decide (l.length≤256))) from by rw[hR.out,←hob,←hrg,Bool.and_assoc])
 rw[hrg]at NR
 rw[hob]at NO
 clear hW hrg hob hR
 cases ob with
 |true=>
  cases rg with
  |true=>
   go_enter Tryz.func140,Tryz.ntmps140
   go_wp2_with fail
   rw[HW.out]
   refine NO.out.mono ?_
   rintro e w0 ⟨rfl,rfl⟩
   go_wp2_with fail
   refine NR.out.mono ?_
   rintro e w1 ⟨rfl,b1⟩
   have e3:=cell_later b1 c3
   clear c0 c1 c2 c3
   by_cases h3:l.length≤256
   ·have d3:decide ((l.length:Int)≤256)=true:=decide_eq_true (by omega)
    go_wp2
    go_ret
    exact⟨by rw[hR2.out,decide_eq_true h3];first|rfl|simp,below_on hb0 b1⟩
   ·have d3:decide ((l.length:Int)≤256)=false:=decide_eq_false (by omega)
    go_wp2
    go_ret
    exact⟨by rw[hR2.out,decide_eq_false h3];first|rfl|simp,below_on hb0 b1⟩
  |false=>
   go_enter Tryz.func140,Tryz.ntmps140
   go_wp2_with fail
   rw[HW.out]
   refine NO.out.mono ?_
   rintro e w0 ⟨rfl,rfl⟩
   go_wp2_with fail
   refine NR.out.mono ?_
   rintro e w1 ⟨rfl,b1⟩
   go_wp2
   go_ret
   exact⟨by rw[hR2.out];first|rfl|simp,below_on hb0 b1⟩
 |false=>
  go_enter Tryz.func140,Tryz.ntmps140
  go_wp2_with fail
  rw[HW.out]
  refine NO.out.mono ?_
  rintro e w0 ⟨rfl,rfl⟩
  go_wp2
  go_ret
  exact⟨by rw[hR2.out];first|rfl|simp,hb0⟩
set_option maxRecDepth 100000 in
set_option maxHeartbeats 3200000 in
theorem cdown_any(X:Option Addr)(d:Nat)(x:Bd)(w:World)(hz:x.v.length≤140737488355328)(h:OneB w X d x.v) :
  Calls Tryz.prog 142 #[.agg (bdCells X d x)] w (GivesBd x w):=by
 obtain⟨x0,x1,x2,vl⟩:=x
 unfold bdCells
 dsimp only at h hz ⊢
 have b0:=below_new (below_new (Below.refl w.heap.size w) (.cells #[.int .i64 x0,.int .i64 x1,.int .i64 x2,.slice X vl.length d] 49)) (.cells #[.int .i64 0,.int .i64 0,.int .i64 0,.slice none 0 0] 49)
 have B0:=(Blk.new w 49 #[.int .i64 x0,.int .i64 x1,.int .i64 x2,.slice X vl.length d]).alloc (.cells #[.int .i64 0,.int .i64 0,.int .i64 0,.slice none 0 0] 49)
 have R0:=Blk.new (w.alloc (.cells #[.int .i64 x0,.int .i64 x1,.int .i64 x2,.slice X vl.length d] 49)) 49 #[.int .i64 0,.int .i64 0,.int .i64 0,.slice none 0 0]
 rw[World.size_alloc]at R0
 obtain⟨W,hW⟩:∃W,(w.alloc (.cells #[.int .i64 x0,.int .i64 x1,.int .i64 x2,.slice X vl.length d] 49)).alloc (.cells #[.int .i64 0,.int .i64 0,.int .i64 0,.slice none 0 0] 49)=W:=⟨_,rfl⟩
 rw[hW]at b0 B0 R0
 have q3:=B0.cell (i:=3) rfl
 have HW:=Hd hW
 have HR:=Hd R0
 have HX:=Hd B0
 have HB:=Hd b0
 have NC:=Hd (scloneB_any X d vl W hz (h.later b0))
 have hzW:=b0.size
 clear h hW B0 R0 b0
 go_enter Tryz.func142,Tryz.ntmps142
 go_upto_region 1 with (fail)
 rw[HW.out]
 go_wp2_with fail
 refine NC.out.mono ?_
 rintro e w1 ⟨u,rfl,ho,b1⟩
 obtain⟨Y,ey,hu,-,-,-,-⟩:=own_form ho
 subst hu
 have HX1:=Hd (HX.out.later b1)
 have HR1:=Hd (HR.out.later b1)
 have HB1:=Hd (below_on HB.out b1)
 have f3:=HX1.out.free 3
 have q3':=HX1.out.cell (i:=3) rfl
 have HO1:=Hd ho
 clear ho b1 q3 HX HR HB NC
 go_upto_region 2 with (fail)
 obtain⟨W2,hW2⟩:∃W2,w1.setCell ⟨w.heap.size,3,none⟩ (.slice Y vl.length ey)=W2:=⟨_,rfl⟩
 rw[hW2]
 have HX2:=Hd (show Blk W2 w.heap.size 49 #[.int .i64 x0,.int .i64 x1,.int .i64 x2,.slice Y vl.length ey] from by rw[←hW2];exact HX1.out.put 3 _)
 have HR2:=Hd (show Blk W2 (w.heap.size+1) 49 #[.int .i64 0,.int .i64 0,.int .i64 0,.slice none 0 0] from by rw[←hW2];exact HR1.out.far (by simp) _)
 have HB2:=Hd (show Below w.heap.size w W2 from by rw[←hW2];exact HB1.out.setCell (p:=⟨w.heap.size,3,none⟩) (Nat.le_refl _) _)
 have HO2:=Hd (show W2.ownsRow W.heap.size 5 1 (.slice Y vl.length ey) vl.length (bCells vl) from by
  rw[←hW2]
  refine own_stays HO1.out (fun k hk =>?_)
  have hk2:=own_ge HO1.out k hk
  have hne:k≠w.heap.size:=by
   have h1:=HW.out
   have h2:W.heap.size=w.heap.size+2:=by rw[←h1,World.size_alloc,World.size_alloc]
   omega
  exact Below.heap_setCell _ _ _ _ hne)
 clear hW2 HX1 HR1 HB1 HO1 f3 q3'
 have p0:=HX2.out.cell (i:=0) rfl
 have p1:=HX2.out.cell (i:=1) rfl
 have p2:=HX2.out.cell (i:=2) rfl
 have p3:=HX2.out.cell (i:=3) rfl
 have r0:=HR2.out.cell (i:=0) rfl
 have r1:=HR2.out.cell (i:=1) rfl
 have r2:=HR2.out.cell (i:=2) rfl
 have r3:=HR2.out.cell (i:=3) rfl
 have f0:=HR2.out.free 0
 have f1:=HR2.out.free 1
 have f2:=HR2.out.free 2
 have f3:=HR2.out.free 3
 have hh:w.heap.size≤w.heap.size+1:=by omega
 have HP:=Hd ((((HR2.out.put 0 (.int .i64 x0)).put 1 (.int .i64 x1)).put 2 (.int .i64 x2)).put 3 (.slice Y vl.length ey))
 have HQ:=Hd ((((HB2.out.setCell (p:=⟨w.heap.size+1,0,none⟩) hh (.int .i64 x0)).setCell (p:=⟨w.heap.size+1,1,none⟩) hh (.int .i64 x1)).setCell (p:=⟨w.heap.size+1,2,none⟩) hh (.int .i64 x2)).setCell (p:=⟨w.heap.size+1,3,none⟩) hh (.slice Y vl.length ey))
 have HOO:=Hd (own_base (own_stays (w':=(((W2.setCell ⟨w.heap.size+1,0,none⟩ (.int .i64 x0)).setCell ⟨w.heap.size+1,1,none⟩ (.int .i64 x1)).setCell ⟨w.heap.size+1,2,none⟩ (.int .i64 x2)).setCell ⟨w.heap.size+1,3,none⟩ (.slice Y vl.length ey)) HO2.out (fun k hk=>by
  have hk2:=own_ge HO2.out k hk
  have hne:k≠w.heap.size+1:=by
   have h1:=HW.out
   have h2:W.heap.size=w.heap.size+2:=by rw[←h1,World.size_alloc,World.size_alloc]
   omega
  exact(((Below.heap_setCell _ _ _ _ hne).trans (Below.heap_setCell _ _ _ _ hne)).trans (Below.heap_setCell _ _ _ _ hne)).trans (Below.heap_setCell _ _ _ _ hne))) hzW)
 go_wp2
 exact bodyPost_ret (v :=.agg (bdCells Y ey ⟨x0,x1,x2,vl⟩)) (results_cell_row rfl _ _ (w.heap.size+1) 49 (bdCells Y ey ⟨x0,x1,x2,vl⟩) (0,0) _ rfl HP.out Tryz.underlying49 rfl infoBdz) rfl ⟨Y,ey,rfl,HOO.out,HQ.out⟩
set_option maxHeartbeats 1600000 in
theorem cdused_any(A:Option Addr)(c:Nat)(L:List Bc)(w:World)(h:OneC w A c L)(hu:Ca.used (L.map Bc.b)≤4611686018427387904) :
  Calls Tryz.prog 143 #[.slice A L.length c] w (Says (.int .i64 (Ca.used (L.map Bc.b):Int)) w):=by
 have hlen:=h.len
 have HL:=Hd h
 have HU:=Hd (fun k=>Ca.usedTo_le L k)
 have HA:=Hd (Ca.usedTo_all L)
 have HS:=Hd (fun k hk=>Ca.usedTo_succ (L:=L) (k:=k) hk)
 obtain⟨U,hUU⟩:∃U,Ca.used (L.map Bc.b)=U:=⟨_,rfl⟩
 rw[hUU]at hu HU HA ⊢
 clear h hUU
 go_enter Tryz.func143,Tryz.ntmps143
 go_wp2_with fail
 go_loopw [3,8] (fun s3 s8 wr=>∃k:Nat,k≤L.length∧s8 = .int .i64 (k:Int)∧s3 = .int .i64 (Ca.usedTo L k:Int)∧Below w.heap.size w wr) (fun _ s8 _=>L.length-(intOf s8).toNat)
 case atStart=>exact⟨0,Nat.zero_le _,rfl,rfl,Below.refl _ _⟩
 case round=>
  obtain⟨k,hk,rfl,rfl,hbw⟩:=hrel
  by_cases hlt:k<L.length
  ·have hne:L≠[]:=fun e=>by subst e;simp at hlt
   obtain⟨b,off,hA,hcs⟩:=(HL.out.later hbw).at hne
   obtain⟨e0,e1,e2,e3⟩:=hcs k hlt
   subst hA
   have hi0:(0:Int)≤(k:Int):=by omega
   have hi1:(k:Int)<(L.length:Int):=by omega
   have hsu:=HS.out k hlt
   have hul:=HU.out (k+1)
   obtain⟨x,hx⟩:∃x,L.getD k Bc.zero=x:=⟨_,rfl⟩
   rw[hx]at e0 e1 e2 e3 hsu
   obtain⟨X,d,⟨x0,x1,x2,v⟩⟩:=x
   dsimp only at e0 e1 e2 e3 hsu
   obtain⟨uk,huk⟩:∃uk,Ca.usedTo L k=uk:=⟨_,rfl⟩
   rw[huk]at hsu ⊢
   obtain⟨n,hn⟩:∃n,v.length=n:=⟨_,rfl⟩
   rw[hn]at e3 hsu
   have hw1:IntKind.i64.wrap ((uk:Int)+(n:Int))=(uk:Int)+(n:Int):=IntWalk.i64_in _ (by omega)
   have HSU:=Hd hsu
   have HBB:=Hd (below_new hbw (.cells #[.int .i64 x0,.int .i64 x1,.int .i64 x2,.slice X n d] 49))
   clear hcs hx huk hn hsu
   go_wp2_with fail
   go_roundw
   case rel=>exact⟨k+1,by omega,by go_num,by rw[HSU.out];simp,HBB.out⟩
   case measure=>simp[intOf];omega
  ·obtain rfl:k=L.length:=by omega
   rw[HA.out]
   have HB:=Hd hbw
   clear hbw
   go_wp2
   go_ret
   exact⟨rfl,HB.out⟩
end Go.Proofs.YtjlfehpockfkdaaGreat
namespace Go.Proofs.YtjlfehpockfkdaaGreat
open Go.RowKit Go.Maps
theorem map_later{H:Type}{P:Program}{k:TypeId}{R:Value→Option (DataW H × List MemPlace)}{w w':World}{b n:Nat}{D:DataW H}(h:w.ownsMap P k R b n D)(hb:Below w.heap.size w w'):w'.ownsMap P k R b n D:=by
 have hlt:=h.lt
 obtain⟨es,clock,hh,F,hs,hD⟩:=h
 exact⟨es,clock,(hb.block b hlt).trans hh,F,hs,hD⟩
theorem look_set{H:Type}{P:Program}{w:World}{b n:Nat}{D:DataW H}{t k e:TypeId}{q:IntKind}(h:w.ownsMap P k unitElem b n D)(ht:P.underlying t=some (.map k e))(hk:P.underlying k=some (.int q))
  (hz:(zeroValue e).run P w = .ok (.agg #[]) w)(a:Int) :
  ∃r,(Instr.lookup t (.map (some b)) (.int q a) true).run P w = .ok (.tuple #[.agg #[],.bool r]) w∧((Lit.int q a).wf=true→r=Maps.has D (.int q a)):=by
 by_cases hw:(Lit.int q a).wf=true
 ·obtain⟨v,ps,hrun,hv⟩:=h.look_ok (int_keyed hk) ht hz unitElem_mk (keyOf_int_mk hk hw)
  obtain⟨rfl,_⟩:=unitElem_inv hv
  exact⟨_,hrun,fun _=>rfl⟩
 ·obtain⟨es,clock,hb,F,_,rfl⟩:=h
  have hkey:MapKept.IsKey (.int q) (.int q a):=by simp[MapKept.IsKey]
  have hks:∀x∈es.toList,MapKept.IsKey (.int q) x.key:=fun x hx=>by
   obtain⟨l,hl⟩:=F.keys x hx
   have hl2:mapKey P k x.key=some l:=by simpa[keyOf,hk] using hl
   obtain⟨d',hd',h1,_⟩:=WideShapes.mapKey_isKey hl2
   rw[hk]at hd'
   cases hd'
   exact h1
  rcases MapKept.findNow_spec hkey es.toList 0 hks with ⟨h1,_⟩|⟨j,e0,h1,h2,_⟩
  ·exact⟨false,by simp[Instr.lookup,run_underlying ht,MapKept.run_getObj_map hb,MapKept.run_checkKey hk hkey,MapKept.run_findKey hk h1,hz,Result.andThen],fun hc=>absurd hc hw⟩
  ·have hm0:e0∈es.toList:=List.mem_of_getElem? h2
   obtain⟨y0,hy0⟩:=F.reads e0 hm0
   obtain⟨zv,hzv,_⟩:=WideElems.rd_val hy0
   obtain⟨hv,_⟩:=unitElem_inv hzv
   rw[Nat.zero_add]at h1
   exact⟨true,by simp[Instr.lookup,run_underlying ht,MapKept.run_getObj_map hb,MapKept.run_checkKey hk hkey,MapKept.run_findKey hk h1,hv,Result.andThen],fun hc=>absurd hc hw⟩
theorem lawObj:Keyed Tryz.prog 3:=int_keyed Tryz.underlying3
theorem zeroUnit(w:World):(zeroValue 135).run Tryz.prog w = .ok (.agg #[]) w:=by kernel_rfl
namespace Ca
theorem ok_at{L:List Bc}{k:Nat}:ok (L.map Bc.b) k↔(Wi.bright (L.getD k Bc.zero).b=true∧∀i,i<k→(L.getD i Bc.zero).b.o≠(L.getD k Bc.zero).b.o):=by
 unfold ok
 rw[map_getD]
 exact⟨fun⟨h1,h2⟩=>⟨h1,fun i hi=>by have:=h2 i hi;rwa [map_getD]at this⟩,fun⟨h1,h2⟩=>⟨h1,fun i hi=>by rw[map_getD];exact h2 i hi⟩⟩
theorem fmd_room{L:List Bc}{room:Int}(h0:0≤room)(h1:room≤16777216):fmd (L.map Bc.b) room=(oks (L.map Bc.b)&&decide ((used (L.map Bc.b):Int)≤room)):=by
 unfold fmd
 cases hq:oks (L.map Bc.b) with
 |false=>rw[Bool.false_and,Bool.and_false]
 |true=>rw[decide_eq_true ⟨h0,h1,few_ok ((oks_iff _).1 hq)⟩,Bool.true_and]
end Ca
set_option maxRecDepth 100000 in
set_option maxHeartbeats 3200000 in
theorem cdformed_any(A:Option Addr)(c:Nat)(L:List Bc)(room:Int)(w:World)(h:OneC w A c L) :
  Calls Tryz.prog 115 #[.slice A L.length c,.int .i64 room] w (Says (.bool (Ca.fmd (L.map Bc.b) room)) w):=by
 have hlen:=h.len
 have hmax:L.length≤maxLen:=Nat.le_trans h.le h.cap
 have HL:=Hd h
 by_cases c0:room<0
 ·have d0:decide (room<0)=true:=decide_eq_true c0
  have hF:Ca.fmd (L.map Bc.b) room=false:=by unfold Ca.fmd;rw[decide_eq_false (fun h=>absurd h.1 (by omega)),Bool.false_and]
  rw[hF]
  clear hF h
  go_enter Tryz.func115,Tryz.ntmps115
  go_wp2
  go_ret
  exact⟨rfl,Below.refl _ _⟩
 by_cases c1:16777216<room
 ·have d0:decide (room<0)=false:=decide_eq_false c0
  have d1:decide (16777216<room)=true:=decide_eq_true c1
  have hF:Ca.fmd (L.map Bc.b) room=false:=by unfold Ca.fmd;rw[decide_eq_false (fun h=>absurd h.2.1 (by omega)),Bool.false_and]
  rw[hF]
  clear hF h
  go_enter Tryz.func115,Tryz.ntmps115
  go_wp2
  go_ret
  exact⟨rfl,Below.refl _ _⟩
 have d0:decide (room<0)=false:=decide_eq_false c0
 have d1:decide (16777216<room)=false:=decide_eq_false c1
 rw[Ca.fmd_room (L:=L) (show 0≤room by omega) (show room≤16777216 by omega)]
 have hOK:=Hd (fun k=>Ca.ok_at (L:=L) (k:=k))
 have hNO:=Hd (fun k hk hx=>Ca.oks_no (l:=L.map Bc.b) k hk hx)
 have hYES:=Hd (Ca.oks_iff (L.map Bc.b)).2
 have hUO:=Hd (fun hx=>Ca.used_oks (L:=L) hx)
 have hFEW:=Hd (fun hx=>Ca.few_ok (l:=L.map Bc.b) hx)
 obtain⟨OK,hok⟩:∃q,Ca.oks (L.map Bc.b)=q:=⟨_,rfl⟩
 rw[hok]at hNO hYES ⊢
 have HM0:=Hd (World.ownsMap_made (H:=Unit) w Tryz.prog 3 unitElem)
 have HB0:=Hd (below_new (Below.refl w.heap.size w) (.map #[] 0))
 have hmm :=@run_makeMap Tryz.prog
 clear h hok c0 c1
 go_enter Tryz.func115,Tryz.ntmps115
 go_wp2_with fail
 go_loopw [19] (fun s19 wr=>∃(k:Nat) (D:DataW Unit),k≤L.length∧s19 = .int .i64 (k:Int)∧(∀j,j<k→Ca.ok (L.map Bc.b) j)∧wr.ownsMap Tryz.prog 3 unitElem w.heap.size k D∧(IsMap D∧∀o:Int,Maps.has D (.int .i64 o)=true↔∃j,j<k∧(L.getD j Bc.zero).b.o=o)∧Below w.heap.size w wr) (fun s19 _=>L.length-(intOf s19).toNat)
 case atStart=>exact⟨0,.map [],Nat.zero_le _,rfl,fun j hj=>by omega,HM0.out,⟨⟨_,rfl⟩,fun o=>⟨fun h=>by simp[Maps.has]at h,fun⟨j,hj,_⟩=>by omega⟩⟩,HB0.out⟩
 case round=>
  obtain⟨k,D,hk,rfl,hall,hM,hD,hbw⟩:=hrel
  by_cases hlt:k<L.length
  ·have hne:L≠[]:=fun e=>by subst e;simp at hlt
   obtain⟨b,off,hA,hcs⟩:=(HL.out.later hbw).at hne
   obtain⟨e0,e1,e2,e3⟩:=hcs k hlt
   have HL':=HL
   subst hA
   have hi0:(0:Int)≤(k:Int):=by omega
   have hi1:(k:Int)<(L.length:Int):=by omega
   have hok:=hOK.out k
   have hno:=hNO.out k (by rw[List.length_map];exact hlt)
   obtain⟨x,hx⟩:∃x,L.getD k Bc.zero=x:=⟨_,rfl⟩
   rw[hx]at e0 e1 e2 e3 hok
   obtain⟨X,d,⟨x0,x1,x2,v⟩⟩:=x
   dsimp only at e0 e1 e2 e3 hok
   have bn:=below_new hbw (.cells #[.int .i64 x0,.int .i64 x1,.int .i64 x2,.slice X v.length d] 49)
   have bx:=below_new (Below.refl wr.heap.size wr) (.cells #[.int .i64 x0,.int .i64 x1,.int .i64 x2,.slice X v.length d] 49)
   have hX:=Blk.new wr 49 #[.int .i64 x0,.int .i64 x1,.int .i64 x2,.slice X v.length d]
   have hMx:=map_later hM bx
   have hgx:wr.heap.size<(wr.alloc (.cells #[.int .i64 x0,.int .i64 x1,.int .i64 x2,.slice X v.length d] 49)).heap.size:=hX.lt
   obtain⟨W1,hW1⟩:∃W1,wr.alloc (.cells #[.int .i64 x0,.int .i64 x1,.int .i64 x2,.slice X v.length d] 49)=W1:=⟨_,rfl⟩
   rw[hW1]at bn hX hMx
   obtain⟨r,hlk,hr⟩:=look_set hMx Tryz.underlying134 Tryz.underlying3 (zeroUnit W1) x0
   have bz:=below_new (Below.refl W1.heap.size W1) (.cells #[] 135)
   obtain⟨q,hq⟩:∃q,Wi.bright ⟨x0,x1,x2,v⟩=q:=⟨_,rfl⟩
   have NR:=Hd (fun wx=>show Calls Tryz.prog 140 #[.agg #[.int .i64 x0,.int .i64 x1,.int .i64 x2,.slice X v.length d]] wx (Says (.bool q) wx) from by rw[←hq];exact cdformedBody_any X d ⟨x0,x1,x2,v⟩ wx)
   have hwf:q=true→(Lit.int .i64 x0).wf=true:=fun h=>by
    rw[h]at hq
    have:=Ca.right_obj hq
    dsimp only at this
    exact WalkArith.wf_i64 (by omega)
   rw[hq]at hok
   have HD:=Hd hD
   have HR:=Hd hr
   have HOK:=Hd hok
   have HWF:=Hd hwf
   have HNO:=Hd hno
   have HALL:=Hd hall
   have HW1:=Hd hW1
   have HX:=Hd hX
   have HM:=Hd (map_later hMx bz)
   have HBB:=Hd (below_on bn bz)
   have HQ:=Hd hq
   have HXX:=Hd hx
   have hp0:=hX.cell (i:=0) rfl
   clear hcs hx hbw hok hno hall hM hMx hr hwf hD hW1 hX bn bx hgx hq
   cases r with
   |true=>
    have hR:OK=false:=HNO.out (fun h=>by
     have h1:=HOK.out.1 h
     obtain⟨j,hj,hj2⟩:=(HD.out.2 x0).1 (HR.out (HWF.out h1.1)).symm
     exact h1.2 j hj hj2)
    subst hR
    clear NR HD HR HOK HWF HNO HALL HX HM HQ HXX
    go_upto_region 7 with (fail)
    rw[HW1.out]
    have HBBx:=HBB
    clear HW1 e0 e1 e2 e3 bz
    go_wp2
    go_ret
    exact⟨rfl,HBBx.out⟩
   |false=>
    have z1:=(HX.out.later bz).cell (i:=0) rfl
    have z2:=(HX.out.later bz).cell (i:=1) rfl
    have z3:=(HX.out.later bz).cell (i:=2) rfl
    have z4:=(HX.out.later bz).cell (i:=3) rfl
    cases q with
    |false=>
     have hR:OK=false:=HNO.out (fun h=>by have h1:=(HOK.out.1 h).1;cases h1)
     subst hR
     clear HD HR HOK HWF HNO HALL HX HM HQ HXX
     go_upto_region 7 with (fail)
     rw[HW1.out]
     clear HW1 e0 e1 e2 e3 bz
     go_wp2_with fail
     refine(NR.out _).mono ?_
     rintro e w3 ⟨rfl,b3⟩
     have BB:=Hd (below_on HBB.out b3)
     clear b3 NR HBB z1 z2 z3 z4 hp0 hlk
     go_wp2
     go_ret
     exact⟨rfl,BB.out⟩
    |true=>
     have hok:Ca.ok (L.map Bc.b) k:=HOK.out.2 ⟨rfl,fun i hi e=>by
      have h1:=(HD.out.2 x0).2 ⟨i,hi,e⟩
      rw[←HR.out (HWF.out rfl)]at h1
      cases h1⟩
     have HOK2:=Hd hok
     have hkey:keyOf Tryz.prog 3 (.int .i64 x0)=some (.int .i64 x0):=keyOf_int_mk Tryz.underlying3 (HWF.out rfl)
     clear hok
     go_upto_region 7 with (fail)
     rw[HW1.out]
     clear HW1 e0 e1 e2 e3
     go_wp2_with fail
     refine(NR.out _).mono ?_
     rintro e w3 ⟨rfl,b3⟩
     have hM3:=map_later HM.out b3
     have y1:=((HX.out.later bz).later b3).cell (i:=0) rfl
     have BB:=Hd (below_on HBB.out b3)
     have hkm:k<maxLen:=by omega
     clear b3 NR HBB z1 z2 z3 z4 hp0 hlk bz
     go_wp2_with (at_mapUpdate;refine wpList_mapUpdate_own _ rfl _ _ _ 134 rfl 3 135 lawObj Tryz.underlying134 (unitElem (H:=Unit)) w.heap.size k _ rfl hM3 hkm _ _ _ rfl rfl hkey _ [] unitElem_mk ?_;intro w4 hM4 hg4)
     have HM4:=Hd hM4
     have BB4:=Hd (BB.out.grown hg4 BB.out.size (fun j hj=>by cases hj;exact Nat.le_refl _))
     clear hM4 hg4 hM3 y1 hkey
     go_roundw
     case rel=>
      refine⟨k+1,_,by omega,by go_num,fun j hj =>?_,HM4.out,⟨HD.out.1.put _ _,fun o =>?_⟩,BB4.out⟩
      ·by_cases e:j=k
       ·subst e;exact HOK2.out
       ·exact HALL.out j (by omega)
      ·by_cases e:o=x0
       ·subst e
        rw[has_put_same (k :=.int .i64 o) HD.out.1 (by simp[WideAt.IsKeyLit])]
        exact⟨fun _=>⟨k,by omega,by rw[HXX.out]⟩,fun _=>rfl⟩
       ·rw[has_put_other (fun h=>e (by cases h;rfl))]
        rw[HD.out.2 o]
        constructor
        ·rintro ⟨j,hj,hj2⟩;exact⟨j,by omega,hj2⟩
        ·rintro ⟨j,hj,hj2⟩
         refine⟨j,?_,hj2⟩
         by_cases ej:j=k
         ·subst ej;rw[HXX.out]at hj2;exact absurd hj2.symm e
         ·omega
     case measure=>simp[intOf];omega
  ·obtain rfl:k=L.length:=by omega
   have hall':∀j,j<(L.map Bc.b).length→Ca.ok (L.map Bc.b) j:=fun j hj=>hall j (by rw[List.length_map]at hj;exact hj)
   have hR:OK=true:=hYES.out hall'
   have hu:=hUO.out hall
   have hfew:=hFEW.out hall'
   rw[List.length_map]at hfew
   subst hR
   have NU:=Hd (cdused_any A c L wr (HL.out.later hbw) (by omega))
   obtain⟨U,hU⟩:∃U,Ca.used (L.map Bc.b)=U:=⟨_,rfl⟩
   rw[hU]at NU ⊢
   have BW:=Hd hbw
   have HU:=Hd hU
   clear hall hall' hM hD hbw hu hU hYES hfew
   go_wp2_with fail
   refine NU.out.mono ?_
   rintro e w3 ⟨rfl,b3⟩
   have BB:=Hd (below_on BW.out b3)
   clear b3 NU BW
   go_wp2
   go_ret
   exact⟨by rw[HU.out];simp,BB.out⟩
end Go.Proofs.YtjlfehpockfkdaaGreat
namespace Go.Proofs.YtjlfehpockfkdaaGreat
open Go.RowKit Fb
def Vd.bodiesOk(v:Vw):Bool:=Ca.fmd v.b v.r&&v.b.all v.wants
theorem Vd.bright_iff(x:Bd):Wi.bright x=true↔(0≤x.o∧x.o≤255)∧St.rgt x.c x.n=true∧x.v.length≤256:=by
 unfold Wi.bright
 simp[and_assoc]
theorem Vd.fmd_bright{l:List Bd}{room:Int}(h:Ca.fmd l room=true):∀x∈l,Wi.bright x=true:=fun x hx=>by
 unfold Ca.fmd at h
 have h2:=(Ca.oks_iff l).1 (Bool.and_eq_true_iff.1 (Bool.and_eq_true_iff.1 h).2).1
 obtain⟨j,hj,rfl⟩:=List.mem_iff_getElem.1 hx
 have:=(h2 j hj).1
 rwa [List.getD_eq_getElem?_getD,List.getElem?_eq_getElem hj]at this
theorem Vd.has_wants{v:Vw}(hf:Sf.fmd v.h=true){x:Bd}(hx:Wi.bright x=true):decide (Vd.val v.h x.o.toNat=(x.c,x.n))=Vw.wants v x:=
 Vd.val_wants hf x ((Vd.bright_iff x).1 hx).1.1 ((Vd.bright_iff x).1 hx).2.1
set_option maxRecDepth 100000 in
set_option maxHeartbeats 6400000 in
theorem vdbodies_any(q:Vl)(w:World)(h:VwAt w q)(hf:Sf.fmd q.h=true):Calls Tryz.prog 52 #[.agg (vwCells q)] w (Says (.bool (Vd.bodiesOk q.vw)) w):=by
 have hbr:=fun hcf=>Vd.fmd_bright (l:=q.b.map Bc.b) (room:=q.r) hcf
 have hwt:=fun x (hx:Wi.bright x=true)=>Vd.has_wants (v:=q.vw) (show Sf.fmd q.vw.h=true from hf) hx
 obtain⟨wt,hwtd⟩:∃wt,Vw.wants q.vw=wt:=⟨_,rfl⟩
 rw[hwtd]at hwt
 have hZO:Vd.bodiesOk q.vw=(Ca.fmd (q.b.map Bc.b) q.r&&(q.b.map Bc.b).all wt):=by rw[←hwtd];rfl
 rw[hZO]
 clear hZO hwtd
 obtain⟨K,ck,kn,Z,cz,zs,H,ch,hs,B,cb,bs,room⟩:=q
 have hwt:∀x,Wi.bright x=true→decide (Vd.val hs x.o.toNat=(x.c,x.n))=wt x:=hwt
 have hlen:=h.b.len
 dsimp only at hlen hbr hf
 unfold vwCells
 dsimp only
 have b0:=below_new (Below.refl w.heap.size w) (.cells #[.slice K kn.length ck,.slice Z zs.length cz,.slice H hs.length ch,.slice B bs.length cb,.int .i64 room] 27)
 have V0:=Blk.new w 27 #[.slice K kn.length ck,.slice Z zs.length cz,.slice H hs.length ch,.slice B bs.length cb,.int .i64 room]
 obtain⟨W,hW⟩:∃W,w.alloc (.cells #[.slice K kn.length ck,.slice Z zs.length cz,.slice H hs.length ch,.slice B bs.length cb,.int .i64 room] 27)=W:=⟨_,rfl⟩
 rw[hW]at b0 V0
 have HW:=Hd hW
 have N1:=Hd (cdformed_any B cb bs room W (h.later b0).b)
 have NV:=Hd (fun wx (hb:Below w.heap.size w wx)=>vdvalues_any H ch hs wx (h.later hb).h hf)
 have HC:=Hd (show OneC w B cb bs from h.b)
 have HB:=Hd b0
 have HV:=Hd V0
 have HBR:=Hd hbr
 have HWT:=Hd hwt
 have v3:=V0.cell (i:=3) rfl
 have v4:=V0.cell (i:=4) rfl
 clear h b0 V0 hW hf hbr hwt
 cases hcf:Ca.fmd (bs.map Bc.b) room with
 |false=>
  rw[hcf]at N1
  rw[Bool.false_and]
  clear hcf HBR HWT
  go_enter Tryz.func52,Tryz.ntmps52
  go_upto_region 1 with (fail)
  rw[HW.out]
  clear HW
  go_wp2_with fail
  refine N1.out.mono ?_
  rintro e w1 ⟨rfl,b1⟩
  have BB:=Hd (below_on HB.out b1)
  clear b1 N1 v3 v4 HC HV NV
  go_wp2
  go_ret
  exact⟨rfl,BB.out⟩
 |true=>
  rw[hcf]at N1
  rw[Bool.true_and]
  have HBX:=Hd (HBR.out hcf)
  clear hcf HBR
  obtain⟨ok,hok⟩:∃ok,(bs.map Bc.b).all wt=ok:=⟨_,rfl⟩
  rw[hok]
  have HOK:=Hd hok
  clear hok
  go_enter Tryz.func52,Tryz.ntmps52
  go_upto_region 1 with (fail)
  rw[HW.out]
  clear HW
  go_wp2_with fail
  refine N1.out.mono ?_
  rintro e w1 ⟨rfl,b1⟩
  have BB:=Hd (below_on HB.out b1)
  have HV1:=Hd (HV.out.later b1)
  have y2:=HV1.out.cell (i:=2) rfl
  clear b1 N1 v3 v4 HV
  go_wp2_with fail
  refine(NV.out w1 BB.out).mono ?_
  rintro e w2 ⟨rfl,b2⟩
  have BB2:=Hd (below_on BB.out b2)
  have HV2:=Hd (HV1.out.later b2)
  have hT0:=Blk.new w2 119 Tryz.zeroCells119
  have hT1:=hT0.row (Vd.sArr (Vd.val hs))
  have bt:=below_setRow (below_new (Below.refl w2.heap.size w2) (.cells Tryz.zeroCells119 119)) (Nat.le_refl _) (Vd.sArr (Vd.val hs))
  have y3:=(HV2.out.later bt).cell (i:=3) rfl
  have HT0:=Hd hT0
  clear b2 NV y2 HV1 BB hT0
  go_wp2_with (refine wpList_store_row rfl 119 _ _ rfl w2.heap.size (Vd.sArr (Vd.val hs)) rfl rfl 119 Tryz.zeroCells119 HT0.out (by rw[Vd.sArr_size];exact infoVals) (by rw[vals_zero_size,Vd.sArr_size]) (one_sArr _) ?_)
  obtain⟨w3,hw3⟩:∃w3,(w2.alloc (.cells Tryz.zeroCells119 119)).setRow w2.heap.size (Vd.sArr (Vd.val hs))=w3:=⟨_,rfl⟩
  rw[hw3]at hT1 bt y3 ⊢
  have HT:=Hd hT1
  have BB3:=Hd (below_on BB2.out bt)
  clear hT1 bt hw3 y3 HT0 BB2
  go_loopw [18] (fun s18 wr=>∃(k:Nat),k≤bs.length∧s18 = .int .i64 (k:Int)∧(∀(u:Nat) (x:Bc),u<k→bs[u]?=some x→wt x.b=true)∧Below w3.heap.size w3 wr) (fun s18 _=>bs.length-(intOf s18).toNat)
  case atStart=>exact⟨0,Nat.zero_le _,rfl,fun u _ hu=>by omega,Below.refl _ _⟩
  case round=>
   obtain⟨k,hk,rfl,hno,hbw⟩:=hrel
   have HNO:=Hd hno
   clear hno
   by_cases hlt:k<bs.length
   ·have hne:bs≠[]:=fun e=>by subst e;simp at hlt
    have hbb:=below_on BB3.out hbw
    obtain⟨b,off,hA,hc⟩:=(HC.out.later hbb).at hne
    obtain⟨e0,e1,e2,e3⟩:=hc k hlt
    have HC':=HC
    subst hA
    have hi0:(0:Int)≤(k:Int):=by omega
    have hi1:(k:Int)<(bs.length:Int):=by omega
    obtain⟨x,hx⟩:∃x,bs[k]?=some x:=⟨bs[k],List.getElem?_eq_getElem hlt⟩
    have hxg:bs.getD k Bc.zero=x:=by rw[List.getD_eq_getElem?_getD,hx];rfl
    have hbx:=HBX.out x.b (List.mem_map_of_mem (List.mem_of_getElem? hx))
    rw[hxg]at e0 e1 e2 e3
    have hbad:wt x.b=false→ok=false:=fun hn=>by
     rw[←HOK.out]
     exact Vw.all_at k x.b (by rw[List.getElem?_map,hx];rfl) hn
    have hnext:wt x.b=true→∀(u:Nat) (y:Bc),u<k+1→bs[u]?=some y→wt y.b=true:=fun hn u y hu hy=>by
     by_cases e:u=k
     ·subst e
      rw[hx]at hy
      injection hy with hy
      rw[←hy]
      exact hn
     ·exact HNO.out u y (by omega) hy
    obtain⟨X,d,⟨x0,x1,x2,v⟩⟩:=x
    have hob:=((Vd.bright_iff _).1 hbx).1
    dsimp only at e0 e1 e2 e3 hbad hnext hbx hob
    have bx:=below_new (Below.refl wr.heap.size wr) (.cells #[.int .i64 x0,.int .i64 x1,.int .i64 x2,.slice X v.length d] 49)
    have hX:=Blk.new wr 49 #[.int .i64 x0,.int .i64 x1,.int .i64 x2,.slice X v.length d]
    have hTT:=(HT.out.later hbw).later bx
    obtain⟨W1,hW1⟩:∃W1,wr.alloc (.cells #[.int .i64 x0,.int .i64 x1,.int .i64 x2,.slice X v.length d] 49)=W1:=⟨_,rfl⟩
    rw[hW1]at bx hX hTT
    have n2:=vdhas_any w2.heap.size (Vd.val hs) X d ⟨x0,x1,x2,v⟩ W1 hTT hob.1 hob.2
    have hq:=HWT.out ⟨x0,x1,x2,v⟩ hbx
    dsimp only at n2 hq
    rw[hq]at n2
    obtain⟨s,hs'⟩:∃s,wt ⟨x0,x1,x2,v⟩=s:=⟨_,rfl⟩
    rw[hs']at n2 hbad hnext
    have N2:=Hd (show Calls Tryz.prog 76 #[.pointer (some ⟨w2.heap.size,0,none⟩),.agg #[.int .i64 x0,.int .i64 x1,.int .i64 x2,.slice X v.length d]] W1 (Says (.bool s) W1) from n2)
    have HBAD:=Hd hbad
    have HNX:=Hd hnext
    have BW:=Hd (below_on hbw bx)
    have HW1:=Hd hW1
    have p0:=hX.cell (i:=0) rfl
    have p1:=hX.cell (i:=1) rfl
    have p2:=hX.cell (i:=2) rfl
    have p3:=hX.cell (i:=3) rfl
    clear hc hx hbb hbad hnext bx hX hTT hW1 hs' hbw hne n2 hq hob hbx hxg
    go_upto_region 7 with (fail)
    rw[HW1.out]
    clear HW1 e0 e1 e2 e3
    go_wp2_with fail
    refine N2.out.mono ?_
    rintro e w4 ⟨rfl,b4⟩
    have BW4:=Hd (below_on BW.out b4)
    clear b4 N2 p0 p1 p2 p3 BW
    cases s with
    |true=>
     have NX:=Hd (HNX.out rfl)
     clear HNX HBAD
     go_wp2_with fail
     go_roundw
     case rel=>exact⟨k+1,by omega,by first|rfl|go_num,NX.out,BW4.out⟩
     case measure=>simp[intOf];omega
    |false=>
     have hr:=HBAD.out rfl
     subst hr
     have FIN:=Hd (below_on BB3.out BW4.out)
     clear HNX HBAD HNO HOK BW4
     go_wp2
     go_ret
     exact⟨rfl,FIN.out⟩
   ·obtain rfl:k=bs.length:=by omega
    have hr:ok=true:=by
     rw[←HOK.out]
     refine Vw.all_to _ _ fun j x hx =>?_
     rw[List.getElem?_map]at hx
     cases hz:bs[j]? with
     |none=>rw[hz]at hx;cases hx
     |some z=>
      rw[hz]at hx
      injection hx with hx
      subst hx
      exact HNO.out j z (List.getElem?_eq_some_iff.1 hz).1 hz
    subst hr
    have FIN:=Hd (below_on BB3.out hbw)
    clear HNO HOK hbw
    go_wp2
    go_ret
    exact⟨rfl,FIN.out⟩
theorem Vd.own_past{w:World}{base size n:Nat}{e:TypeId}{v:Value}{xs:List Value}(h:w.ownsRow base e size v n xs){B:Nat}(hB:B<base)(i:Nat)(u:Value):(w.setCell ⟨B,i,none⟩ u).ownsRow base e size v n xs:=
 own_stays h fun k hk=>Below.heap_setCell w ⟨B,i,none⟩ u k (fun e2=>by have:=own_ge h k hk;have e2:k=B:=e2;omega)
theorem Vd.stay_take{L:List Bc}{p:Bd→Bool}{k:Nat}(hk:k<L.length):((L.take (k+1)).map Bc.b).filter p=((L.take k).map Bc.b).filter p++(if p (L.getD k Bc.zero).b=true then [(L.getD k Bc.zero).b] else []):=by
 rw[List.take_succ_eq_append_getElem hk,List.map_append,List.filter_append,List.getD_eq_getElem?_getD,List.getElem?_eq_getElem hk,List.map_cons,List.map_nil,List.filter_cons]
 rfl
set_option maxRecDepth 100000 in
set_option maxHeartbeats 6400000 in
theorem vdstayingN_any(A H:Option Addr)(c ch:Nat)(L:List Bc)(hs:List Wr)(p:Bd→Bool)(w:World)(h:OneC w A c L)(hh:OneW w H ch hs)(hf:Sf.fmd hs=true)(hbr:∀x∈L.map Bc.b,Wi.bright x=true)(hfit:Fits L)
  (hp:∀x,Wi.bright x=true→decide (Vd.val hs x.o.toNat=(x.c,x.n))=p x) :
  Calls Tryz.prog 69 #[.slice A L.length c,.slice H hs.length ch] w fun e w'=>∃A' c' M,e = .returned (.slice A' M.length c')∧M.map Bc.b=(L.map Bc.b).filter p∧OneC w' A' c' M∧LoC w.heap.size A' M∧Below w.heap.size w w':=by
 obtain⟨i0,hI,hZ0,hZ1,hZ2⟩:=info_parts infoBdy
 have hn:=hfit.n
 have HL:=Hd h
 have HZ:=Hd hfit.each
 have HBX:=Hd hbr
 have HP:=Hd hp
 have NV:=Hd (vdvalues_any H ch hs w hh hf)
 clear h hfit hh hf hbr hp
 go_enter Tryz.func69,Tryz.ntmps69
 go_wp2_with fail
 refine NV.out.mono ?_
 rintro e w2 ⟨rfl,b2⟩
 have hT0:=Blk.new w2 119 Tryz.zeroCells119
 have hT1:=hT0.row (Vd.sArr (Vd.val hs))
 have bt:=below_setRow (below_new (Below.refl w2.heap.size w2) (.cells Tryz.zeroCells119 119)) (Nat.le_refl _) (Vd.sArr (Vd.val hs))
 have HT0:=Hd hT0
 have B2:=Hd b2
 clear b2 NV hT0
 go_wp2_with (refine wpList_store_row rfl 119 _ _ rfl w2.heap.size (Vd.sArr (Vd.val hs)) rfl rfl 119 Tryz.zeroCells119 HT0.out (by rw[Vd.sArr_size];exact infoVals) (by rw[vals_zero_size,Vd.sArr_size]) (one_sArr _) ?_)
 obtain⟨w3,hw3⟩:∃w3,(w2.alloc (.cells Tryz.zeroCells119 119)).setRow w2.heap.size (Vd.sArr (Vd.val hs))=w3:=⟨_,rfl⟩
 rw[hw3]at hT1 bt ⊢
 have HT:=Hd hT1
 have BB3:=Hd (below_on B2.out bt)
 clear hT1 bt hw3 HT0 B2
 go_loopw [6,13] (fun s6 s13 wr=>∃(k:Nat) (M:List Bc),k≤L.length∧s13 = .int .i64 (k:Int)∧M.map Bc.b=((L.take k).map Bc.b).filter p∧OwnRC wr w3.heap.size 49 5 s6 M∧Below w3.heap.size w3 wr) (fun _ s13 _=>L.length-(intOf s13).toNat)
 case atStart=>exact⟨0,[],Nat.zero_le _,rfl,rfl,OwnRC.nil _ _ _ _,Below.refl _ _⟩
 case round=>
  obtain⟨k,M,hk,rfl,hM,hR,hbw⟩:=hrel
  by_cases hlt:k<L.length
  ·have hml:M.length≤k:=by
    have h1:=congrArg List.length hM
    have h2:=List.length_filter_le p ((L.take k).map Bc.b)
    rw[List.length_map]at h1
    rw[List.length_map,List.length_take]at h2
    omega
   have hne:L≠[]:=fun e=>by subst e;simp at hlt
   have hbb:=below_on BB3.out hbw
   obtain⟨b,off,hA,hcs⟩:=(HL.out.later hbb).at hne
   obtain⟨e0,e1,e2,e3⟩:=hcs k hlt
   have hxb:=(HL.out.later hbb).each _ (Ca.getD_mem hlt)
   have hxz:=HZ.out _ (Ca.getD_mem hlt)
   have hst:=Vd.stay_take (p:=p) hlt
   have hbx:=HBX.out _ (List.mem_map_of_mem (Ca.getD_mem hlt))
   subst hA
   have hi0:(0:Int)≤(k:Int):=by omega
   have hi1:(k:Int)<(L.length:Int):=by omega
   obtain⟨x,hx⟩:∃x,L.getD k Bc.zero=x:=⟨_,rfl⟩
   rw[hx]at e0 e1 e2 e3 hxb hxz hst hbx
   obtain⟨X,d,⟨x0,x1,x2,v⟩⟩:=x
   dsimp only at e0 e1 e2 e3 hxb hxz hst hbx
   have hob:=((Vd.bright_iff _).1 hbx).1
   obtain⟨VA,vc,hvv,-,-,-,-⟩:=own_form hR.row
   subst hvv
   have bx:=below_new (Below.refl wr.heap.size wr) (.cells #[.int .i64 x0,.int .i64 x1,.int .i64 x2,.slice X v.length d] 49)
   have hX:=Blk.new wr 49 #[.int .i64 x0,.int .i64 x1,.int .i64 x2,.slice X v.length d]
   have hTT:=(HT.out.later hbw).later bx
   obtain⟨W1,hW1⟩:∃W1,wr.alloc (.cells #[.int .i64 x0,.int .i64 x1,.int .i64 x2,.slice X v.length d] 49)=W1:=⟨_,rfl⟩
   rw[hW1]at bx hX hTT
   have n2:=vdhas_any w2.heap.size (Vd.val hs) X d ⟨x0,x1,x2,v⟩ W1 hTT hob.1 hob.2
   have hq:=HP.out ⟨x0,x1,x2,v⟩ hbx
   dsimp only at n2 hq
   rw[hq]at n2
   obtain⟨s,hs'⟩:∃s,p ⟨x0,x1,x2,v⟩=s:=⟨_,rfl⟩
   rw[hs']at n2 hst
   have N2:=Hd (show Calls Tryz.prog 76 #[.pointer (some ⟨w2.heap.size,0,none⟩),.agg #[.int .i64 x0,.int .i64 x1,.int .i64 x2,.slice X v.length d]] W1 (Says (.bool s) W1) from n2)
   have HW1:=Hd hW1
   have HX:=Hd hX
   have q0:=hX.cell (i:=0) rfl
   have q1:=hX.cell (i:=1) rfl
   have q2:=hX.cell (i:=2) rfl
   have q3:=hX.cell (i:=3) rfl
   have HST:=Hd hst
   have HM:=Hd hM
   have HR:=Hd hR
   have BW:=Hd hbw
   have BX:=Hd bx
   have HIB:=Hd hxb.byte
   have hxb:=hxb.later bx
   have HXB:=Hd hxb
   clear hW1 hX bx hcs hx hxb hst hM hR hbw hbx hob hTT n2 hq hs' hbb hne
   go_upto_region 6 with (fail)
   rw[HW1.out]
   clear HW1 e0 e1 e2 e3
   go_wp2_with fail
   refine N2.out.mono ?_
   rintro e w4 ⟨rfl,b4⟩
   have BX4:=Hd (below_on BX.out b4)
   have X4:=Hd (HX.out.later b4)
   have XB4:=Hd (HXB.out.later b4)
   clear b4 N2 q0 q1 q2 q3 HX BX HXB
   cases s with
   |false=>
    rw[if_neg Bool.false_ne_true,List.append_nil]at HST
    have FIN:=Hd (And.intro (HR.out.later BX4.out) (below_on BW.out BX4.out))
    clear HR BX4 X4 XB4
    go_wp2_with fail
    go_roundw
    case rel=>exact⟨k+1,M,by omega,by go_num,by rw[HST.out];exact HM.out,FIN.out.1,FIN.out.2⟩
    case measure=>simp[intOf];omega
   |true=>
    rw[if_pos rfl]at HST
    have q3:=X4.out.cell (i:=3) rfl
    have NB:=Hd (scloneB_any X d v w4 hxz XB4.out)
    clear XB4
    go_wp2_with fail
    refine NB.out.mono ?_
    rintro e w5 ⟨u,rfl,hoy,b5⟩
    obtain⟨Y,dy,huu,-,-,-,-⟩:=own_form hoy
    subst huu
    have X5:=X4.out.later b5
    have f3:=X5.free 3
    have r3:=X5.cell (i:=3) rfl
    have hgb:wr.heap.size<w4.heap.size:=X4.out.lt
    have hoy2:=Vd.own_past hoy hgb 3 (.slice Y v.length dy)
    have bz5:=(below_on BX4.out b5).setCell (p:=⟨wr.heap.size,3,none⟩) (Nat.le_refl _) (.slice Y v.length dy)
    have X6:=X5.put 3 (.slice Y v.length dy)
    obtain⟨w6,hw6⟩:∃w6,w5.setCell ⟨wr.heap.size,3,none⟩ (.slice Y v.length dy)=w6:=⟨_,rfl⟩
    rw[hw6]at hoy2 bz5 X6
    have X7:Blk w6 wr.heap.size 49 #[.int .i64 x0,.int .i64 x1,.int .i64 x2,.slice Y v.length dy]:=X6
    have HW6:=Hd hw6
    have HX7:=Hd X7
    have HO6:=Hd (own_base hoy2 (show w3.heap.size≤w4.heap.size from by have:=BW.out.size;omega))
    have BZ5:=Hd bz5
    clear hw6 hoy hoy2 bz5 X6 X7 b5 q3 NB X5 X4
    go_upto_region 8 with (fail)
    rw[HW6.out]
    clear HW6 f3 r3
    have p0:=HX7.out.cell (i:=0) rfl
    have p1:=HX7.out.cell (i:=1) rfl
    have p2:=HX7.out.cell (i:=2) rfl
    have p3:=HX7.out.cell (i:=3) rfl
    have bz:=below_new (Below.refl w6.heap.size w6) (.cells #[.int .i64 x0,.int .i64 x1,.int .i64 x2,.slice Y v.length dy] 49)
    have hR2:=HR.out.later (below_on BZ5.out bz)
    have hoy2:=own_later HO6.out bz
    have hbw2:=below_on (below_on BW.out BZ5.out) bz
    have hszw:=hbw2.size
    have hy1:Lies (w6.alloc (.cells #[.int .i64 x0,.int .i64 x1,.int .i64 x2,.slice Y v.length dy] 49)) (some ⟨w6.heap.size,0,none⟩) (Ca.cell ⟨Y,dy,⟨x0,x1,x2,v⟩⟩):=fun _=>⟨w6.heap.size,0,rfl,fun j u hu=>by
     rw[Nat.zero_add]
     exact(Blk.new w6 49 #[.int .i64 x0,.int .i64 x1,.int .i64 x2,.slice Y v.length dy]).cell (by simpa[Ca.cell] using hu)⟩
    have HR2:=Hd hR2
    have HO2:=Hd hoy2
    have hrow:=hR2.row
    clear hR2 hoy2 HR BX4 BZ5 HO6 HX7
    go_wp2_with (at_builtin;refine Go.Proofs.YtjlfehpockfkdaaGreat.wpList_append_lies _ rfl _ _ 25 rfl w3.heap.size 49 i0 (.agg #[.int .i64 0,.int .i64 0,.int .i64 0,.slice none 0 0]) 4 48 Tryz.underlying25 hI hZ0 hZ1 hZ2 rfl (by decide) _ M.length (Ca.cells M) rfl hrow (some ⟨w6.heap.size,0,none⟩) 1 1 (fun h=>by cases h) (Ca.cell ⟨Y,dy,⟨x0,x1,x2,v⟩⟩) rfl rfl hy1 (by intro u hu;simp[Ca.cell]at hu;rcases hu with rfl|rfl|rfl|rfl<;>rfl) ?h63 ?hbytes hszw ?_)
    case h63=>unfold maxLen;omega
    case hbytes=>omega
    intro v' wz hownz hgz _
    have bwz:Below w3.heap.size w3 wz:=hbw2.grown hgz (by omega) (fun r e=>own_ge hrow r e)
    have hRz:=HR2.out.snoc (by decide) hgz ⟨Y,dy,⟨x0,x1,x2,v⟩⟩ HO2.out HIB.out hownz
    obtain⟨gv,capv,rfl⟩:=ownsRow_succ hownz
    have HQ:=Hd (And.intro hRz bwz)
    clear hownz hgz hrow hy1 bwz hRz hbw2 bz p0 p1 p2 p3
    go_wp2_with fail
    go_roundw
    case rel=>exact⟨k+1,M++[⟨Y,dy,⟨x0,x1,x2,v⟩⟩],by omega,by go_num,by rw[List.map_append,HM.out,HST.out];rfl,HQ.out.1,HQ.out.2⟩
    case measure=>simp[intOf];omega
  ·obtain rfl:k=L.length:=by omega
   rw[List.take_length]at hM
   have hR9:=hR.lower (show w.heap.size≤w3.heap.size from BB3.out.size)
   obtain⟨VA,vc,hvv,hC⟩:=hR.form
   subst hvv
   have HLC:=Hd (show LoC w.heap.size VA M from⟨Lo.of_own hR9.row,fun z hz=>Lo.of_own (hR9.each z hz).1⟩)
   have HC:=Hd hC.one
   have HM:=Hd hM
   have BW:=Hd (below_on BB3.out hbw)
   clear hM hR hR9 hbw hC
   go_wp2
   go_ret
   exact⟨_,_,M,rfl,HM.out,HC.out,HLC.out,BW.out⟩
namespace Vd
theorem zset:∀(P:List Zc) (z:Zc) (r:List Zc) (X:Option Addr) (c:Nat),(zCells (P++z::r)).set (P.length*3+2) (.slice X z.l.length c)=zCells (P++⟨z.lo,z.hi,X,c,z.l⟩::r)
 | [],z,r,X,c=>rfl
 |p::P,z,r,X,c=>by
  have ih:=zset P z r X c
  show(.int .i64 p.lo :: .int .i64 p.hi :: .slice p.X p.l.length p.c::zCells (P++z::r)).set ((P.length+1)*3+2) _ = .int .i64 p.lo :: .int .i64 p.hi :: .slice p.X p.l.length p.c::zCells (P++⟨z.lo,z.hi,X,c,z.l⟩::r)
  rw[show(P.length+1)*3+2=P.length*3+2+1+1+1 by omega,List.set_cons_succ,List.set_cons_succ,List.set_cons_succ,ih]
end Vd
set_option maxHeartbeats 1600000 in
theorem cloneZ_any(A:Option Addr)(c:Nat)(L:List Zc)(w:World)(hl:L.length*40≤140737488355328)(h:OneZ w A c L) :
  Calls Tryz.prog 144 #[.slice A L.length c] w fun e w'=>∃v,e = .returned v∧w'.ownsRow w.heap.size 99 3 v L.length (zCells L)∧Below w.heap.size w w':=by
 obtain⟨i0,hI,hz0,hz1,hz2⟩:=info_parts infoZn
 cases A with
 |none=>
  obtain⟨h1,h2⟩:=h.noA rfl
  have hl0:L=[]:=List.eq_nil_of_length_eq_zero h1
  subst hl0
  subst h2
  clear h
  have hq:=Lib.run_eql_slice_nil (P:=Tryz.prog) w 23 99 none 0 0 0 0 Tryz.underlying23
  go_enter Tryz.func144,Tryz.ntmps144
  go_wp2
  go_ret
  exact⟨_,rfl,⟨rfl,.inl ⟨rfl,rfl⟩⟩,Below.refl _ _⟩
 |some a=>
  have hq:=Lib.run_eql_slice_nil (P:=Tryz.prog) w 23 99 (some a) L.length c 0 0 Tryz.underlying23
  have b0:=below_new (Below.refl w.heap.size w) (.cells #[] 99)
  have HL:=Hd (h.later b0).lies
  have HB:=Hd (Blk.new w 99 #[])
  have hlen:=h.len
  clear h
  go_enter Tryz.func144,Tryz.ntmps144
  go_wp2_with (at_builtin;refine wpList_append_fresh _ rfl _ _ 23 rfl w.heap.size w.heap.size 99 i0 (.agg #[.int .i64 0,.int .i64 0,.slice none 0 0]) 3 40 Tryz.underlying23 hI hz0 hz1 hz2 rfl (by decide) rfl HB.out (Nat.le_refl _) (some a) L.length c (fun h=>by cases h) (zCells L) rfl (zCells_length L) HL.out (zCells_one L) (by unfold maxLen;omega) hl ?_)
  intro v' w' ho hb
  have HO:=Hd ho
  clear ho
  go_wp2
  go_ret
  exact⟨v',rfl,HO.out,below_on b0 (by rw[show(w.alloc (.cells #[] 99)).heap.size=w.heap.size+1 from by simp];exact hb)⟩
set_option maxRecDepth 100000 in
set_option maxHeartbeats 6400000 in
theorem vdownZonesN_any(A:Option Addr)(c:Nat)(L:List Zc)(w:World)(h:OneZ w A c L)(hl:L.length*40≤140737488355328)(hE:∀z∈L,z.l.length*16≤140737488355328) :
  Calls Tryz.prog 78 #[.slice A L.length c] w fun e w'=>∃A' c' M,e = .returned (.slice A' (List.length M) c')∧M.map Zc.zn=L.map Zc.zn∧OneZ w' A' c' M∧LoZ w.heap.size A' M∧Below w.heap.size w w':=by
 have hlen:=h.len
 have NC:=Hd (cloneZ_any A c L w hl h)
 have HZ:=Hd h
 have HE:=Hd hE
 clear h hE
 go_enter Tryz.func78,Tryz.ntmps78
 go_wp2_with fail
 refine NC.out.mono ?_
 rintro e w1 ⟨v,rfl,ho,b1⟩
 obtain⟨VA,vc,hvv,-,-,-,-⟩:=own_form ho
 subst hvv
 have HO:=Hd ho
 have B1:=Hd b1
 clear NC ho b1
 go_wp2_with fail
 go_loopw [10] (fun s10 wr=>∃(k:Nat) (P:List Zc),k≤L.length∧P.length=k∧s10 = .int .i64 (k:Int)∧P.map Zc.zn=(L.map Zc.zn).take k∧wr.ownsRow w.heap.size 99 3 (.slice VA L.length vc) L.length (zCells (P++L.drop k))∧(∀z∈P,wr.ownsRow w.heap.size 46 2 (.slice z.X z.l.length z.c) z.l.length (stCells z.l))∧Below w.heap.size w wr) (fun s10 _=>L.length-(intOf s10).toNat)
 case atStart=>exact⟨0,[],Nat.zero_le _,rfl,rfl,rfl,HO.out,(fun z h=>by cases h),B1.out⟩
 case round=>
  obtain⟨k,P,hk,hpk,rfl,hM,hR,hP,hbw⟩:=hrel
  by_cases hlt:k<L.length
  ·obtain⟨g,cap,hvv⟩:=own_len hR (by omega)
   injection hvv with hvA hvn hvc
   subst hvA hvc
   obtain⟨x,hx⟩:∃x,L[k]?=some x:=⟨L[k],List.getElem?_eq_getElem hlt⟩
   have hdr:L.drop k=x::L.drop (k+1):=by rw[List.drop_eq_getElem_cons hlt,←(List.getElem?_eq_some_iff.1 hx).2]
   have hxm:=List.mem_of_getElem? hx
   have hxl:=(HZ.out.later hbw).each x hxm
   have hxe:=HE.out x hxm
   have hat:(P++L.drop k)[k]?=some x:=by rw[List.getElem?_append_right (by omega),hpk,Nat.sub_self,hdr];rfl
   obtain⟨g0,g1,g2⟩:=zCells_get _ k x hat
   have e0:=own_cell_at hR g0
   have e1:=own_cell_at hR g1
   have e2:=own_cell_at hR g2
   have hzs:=Vd.zset P x (L.drop (k+1))
   rw[hpk]at hzs
   rw[hdr]at hR
   have htk:(L.map Zc.zn).take (k+1)=(L.map Zc.zn).take k++[x.zn]:=by rw[List.take_succ_eq_append_getElem (by rw[List.length_map];exact hlt),List.getElem_map,←(List.getElem?_eq_some_iff.1 hx).2]
   have hi0:(0:Int)≤(k:Int):=by omega
   have hi1:(k:Int)<(L.length:Int):=by omega
   obtain⟨lo,hi,X,cx,l⟩:=x
   dsimp only at e0 e1 e2 hxl hxe hzs
   have bx:=below_new (Below.refl wr.heap.size wr) (.cells #[.int .i64 lo,.int .i64 hi,.slice X l.length cx] 99)
   have hX:=Blk.new wr 99 #[.int .i64 lo,.int .i64 hi,.slice X l.length cx]
   obtain⟨W1,hW1⟩:∃W1,wr.alloc (.cells #[.int .i64 lo,.int .i64 hi,.slice X l.length cx] 99)=W1:=⟨_,rfl⟩
   rw[hW1]at bx hX
   have NS:=Hd (cloneS_any X cx l W1 hxe (hxl.later bx))
   have HR:=Hd (own_later hR bx)
   have HP:=Hd (fun z hz=>own_later (hP z hz) bx)
   have BW:=Hd (below_on hbw bx)
   have HW1:=Hd hW1
   have HM:=Hd hM
   have HZS:=Hd hzs
   have HTK:=Hd htk
   have p2:=hX.cell (i:=2) rfl
   clear hR hP hbw hM hzs htk hW1 hX bx hxl hxe hxm hx hat g0 g1 g2 hdr
   go_upto_region 5 with (fail)
   rw[HW1.out]
   clear HW1 e0 e1 e2
   go_wp2_with fail
   refine NS.out.mono ?_
   rintro e w2 ⟨u,rfl,hu,b2⟩
   obtain⟨Y,cy,huu,-,-,-,-⟩:=own_form hu
   subst huu
   have hR2:=own_later HR.out b2
   have f2:=own_free_at hR2 (k*3+2)
   have hlen3:k*3+2<(zCells (P++(⟨lo,hi,X,cx,l⟩:Zc)::L.drop (k+1))).length:=by rw[zCells_length,List.length_append,List.length_cons];omega
   obtain⟨ec,hec⟩:∃ec,(zCells (P++(⟨lo,hi,X,cx,l⟩:Zc)::L.drop (k+1)))[k*3+2]?=some ec:=⟨_,List.getElem?_eq_getElem hlen3⟩
   have e2:=own_cell_at hR2 hec
   have hge:=own_ge hR2 g rfl
   have hu2:=own_base hu (show w.heap.size≤W1.heap.size from BW.out.size)
   have hs:∀(z:Zc),w2.ownsRow w.heap.size 46 2 (.slice z.X z.l.length z.c) z.l.length (stCells z.l)→(w2.setCell ⟨g,k*3+2,none⟩ (.slice Y l.length cy)).ownsRow w.heap.size 46 2 (.slice z.X z.l.length z.c) z.l.length (stCells z.l):=fun z hz=>
    own_stays hz (fun j hj=>Below.heap_setCell _ _ _ _ (fun e=>own_apart hz hR2 (by decide) j hj (by have e:j=g:=e;rw[e];rfl)))
   have R3:=own_put hR2 (k*3+2) (.slice Y l.length cy)
   rw[HZS.out Y cy]at R3
   have P3:∀z∈P++[(⟨lo,hi,Y,cy,l⟩:Zc)],(w2.setCell ⟨g,k*3+2,none⟩ (.slice Y l.length cy)).ownsRow w.heap.size 46 2 (.slice z.X z.l.length z.c) z.l.length (stCells z.l):=fun z hz=>by
    rcases List.mem_append.1 hz with hz|hz
    ·exact hs z (own_later (HP.out z hz) b2)
    ·rw[List.mem_singleton]at hz
     subst hz
     exact hs ⟨lo,hi,Y,cy,l⟩ hu2
   have B3:=(below_on BW.out b2).setCell (p:=⟨g,k*3+2,none⟩) hge (.slice Y l.length cy)
   have HQ:=Hd (And.intro R3 (And.intro P3 B3))
   have hki:((k:Int)).toNat=k:=Int.toNat_natCast k
   clear R3 P3 B3 hu hu2 hs hR2 NS HR HP BW b2 hec hlen3
   go_wp2_with fail
   go_roundw
   case rel=>exact⟨k+1,P++[(⟨lo,hi,Y,cy,l⟩:Zc)],by omega,by rw[List.length_append,hpk];rfl,by go_num,by rw[List.map_append,HM.out,HTK.out];rfl,by rw[List.append_assoc];exact HQ.out.1,HQ.out.2.1,HQ.out.2.2⟩
   case measure=>simp[intOf];omega
  ·obtain rfl:k=L.length:=by omega
   rw[List.drop_length,List.append_nil]at hR
   rw[List.take_of_length_le (by rw[List.length_map];exact Nat.le_refl _)]at hM
   have hO:OwnZ wr w.heap.size (.slice VA L.length vc) P:=⟨by rw[hpk];exact hR,hP⟩
   have HLZ:=Hd (show LoZ w.heap.size VA P from⟨Lo.of_own hO.row,fun z hz=>Lo.of_own (hO.each z hz)⟩)
   obtain⟨A2,c2,e2,hO2⟩:=hO.one
   injection e2 with e3 _ e4
   subst e3 e4
   have HO2:=Hd hO2
   have HM:=Hd hM
   have BW:=Hd hbw
   have HPK:=Hd hpk
   clear hR hM hO hO2 hP hbw hpk hlt
   go_wp2
   go_ret
   exact⟨VA,vc,P,by rw[HPK.out];rfl,HM.out,HO2.out,HLZ.out,BW.out⟩
end Go.Proofs.YtjlfehpockfkdaaGreat
namespace Go.Proofs.YtjlfehpockfkdaaGreat
open Go.RowKit
section
variable {P:Program} {ops:Array Oper} {md:Region.Mode} {Q:Exit→Act→World→Prop}
def depsB(md:Region.Mode)(ops:Array Oper):Bool:=(List.range ops.size).all fun i=>(deps md ops i).all fun j=>decide (j<i)
theorem wpAny_all(hB:depsB md ops=true)(T:(Nat→Value)→Act)(Ψ:Nat→Value→World→Prop)(Rel:World→World→Prop)(trans:∀{w1 w2 w3},Rel w1 w2→Rel w2 w3→Rel w1 w3)(W0:World)
  (stab:∀i x w w',Ψ i x w→Rel w w'→Ψ i x w')
  (step:∀i,i<ops.size→∀v w,Rel W0 w→(∀j∈deps md ops i,Ψ j (v j) w)→wpOp P ops Q i (fun a' w'=>∃x,a'=T (upd v i x)∧Rel w w'∧Ψ i x w') (T v) w)
  (done:∀v w,Rel W0 w→(∀i,i<ops.size→Ψ i (v i) w)→Q .normal (T v) w)(f:Nat)(listed:Array Bool)(v:Nat→Value)(w:World)(hs:listed.size=ops.size)(hc:cntTo listed ops.size=f)(hr:Rel W0 w)(hf:∀i,i<ops.size→listed.getD i true=true→Ψ i (v i) w):wpAny P md ops Q f listed (T v) w:=by
 induction f generalizing listed v w with
 |zero=>
  have hall:=cntTo_zero listed ops.size hc
  refine⟨List.eq_nil_iff_forall_not_mem.2 (fun i hi =>?_),done v w hr (fun i hi=>hf i hi (hall i hi))⟩
  obtain⟨h1,o,h2,_⟩:=mem_ready.1 hi
  rw[hall i (Array.getElem?_eq_some_iff.1 h2).1]at h1
  cases h1
 |succ f ih=>
  obtain⟨m,hm1,hm2,hm3⟩:=cntTo_pos listed ops.size (by omega)
  have hmr:m∈Region.ready md ops listed:=by
   refine mem_ready.2 ⟨hm2,ops[m],Array.getElem?_eq_getElem hm1,fun e he hbind =>?_⟩
   have h1:=List.all_eq_true.1 hB m (List.mem_range.2 hm1)
   have h2:e.on∈deps md ops m:=by
    unfold deps
    rw[Array.getElem?_eq_getElem hm1]
    exact List.mem_map.2 ⟨e,List.mem_filter.2 ⟨Array.mem_toList_iff.2 he,hbind⟩,rfl⟩
   have h3:=of_decide_eq_true (List.all_eq_true.1 h1 _ h2)
   have h4:=hm3 e.on h3
   have h5:e.on<listed.size:=by rw[hs];omega
   simp[h5]at h4 ⊢
   exact h4
  refine⟨fun h0=>(by rw[h0]at hmr;cases hmr),fun i hi =>?_⟩
  obtain⟨hun,oi,hoi,hafter⟩:=mem_ready.1 hi
  have hin:i<ops.size:=(Array.getElem?_eq_some_iff.1 hoi).1
  refine wpOp_mono ?_ (step i hin v w hr ?_)
  ·rintro a' w' ⟨x,rfl,hb',hx⟩
   refine ih _ (upd v i x) w' (by simp[hs]) (by have:=cntTo_set listed i hun ops.size hin;omega) (trans hr hb') (fun j hj hl =>?_)
   by_cases e:j=i
   ·subst e
    rw[upd_same]
    exact hx
   ·rw[upd_other v i x e]
    rw[getD_set_ne true (fun h=>e h.symm)]at hl
    exact stab j _ w w' (hf j hj hl) hb'
  ·intro j hj
   unfold deps at hj
   rw[hoi]at hj
   obtain⟨e,he,rfl⟩:=List.mem_map.1 hj
   obtain⟨he1,he2⟩:=List.mem_filter.1 he
   have h1:=hafter e (Array.mem_toList_iff.1 he1) he2
   have h2:e.on<listed.size:=by
    rcases Nat.lt_or_ge e.on listed.size with h'|h'
    ·exact h'
    ·simp[Array.getElem?_eq_none h']at h1
   have h3:listed.getD e.on true=true:=by simp[h2]at h1 ⊢;exact h1
   exact hf e.on (by rw[←hs];exact h2) h3
theorem wp_region_all{id:Nat}{L:List Oper}{w:World}(hm:P.follows .mixedOrders=true)(hB:depsB .any L.toArray=true)(T:(Nat→Value)→Act)(v0:Nat→Value)(Ψ:Nat→Value→World→Prop)(Rel:World→World→Prop)(trans:∀{w1 w2 w3},Rel w1 w2→Rel w2 w3→Rel w1 w3)(hself:∀w,Rel w w)(hdrew:Rel w w.drew)
  (stab:∀i x w w',Ψ i x w→Rel w w'→Ψ i x w')
  (step:∀i,i<L.toArray.size→∀v w',Rel w w'→(∀j∈deps .any L.toArray i,Ψ j (v j) w')→wpOp P L.toArray Q i (fun a' w''=>∃x,a'=T (upd v i x)∧Rel w' w''∧Ψ i x w'') (T v) w')
  (done:∀v w',Rel w w'→(∀i,i<L.toArray.size→Ψ i (v i) w')→Q .normal (T v) w') :
  (Code.region id L.toArray true).wp P Q (T v0) w:=by
 refine wp_region_any hm ?_
 have hw:∀w',Rel { w with drawn:=w.drawn+1 } w'→Rel w w':=fun w' h=>trans hdrew h
 exact wpAny_all hB T Ψ Rel trans { w with drawn:=w.drawn+1 } stab (fun i hi v w' hb hd=>step i hi v w' (hw w' hb) hd) (fun v w' hb hf=>done v w' (hw w' hb) hf) _ _ v0 _ (by simp) (cntTo_none _ _ (Nat.le_refl _)) (hself _) (fun i hi hl=>by
   rw[Array.getD_eq_getD_getElem?,Array.getElem?_replicate,if_pos hi]at hl
   cases hl)
end
end Go.Proofs.YtjlfehpockfkdaaGreat
namespace Go.Proofs.YtjlfehpockfkdaaGreat
open Go.RowKit Fb
def Vd.rd(zs:List Zn)(kn:List (Int × Int))(y:Wr):Bool:=hasOf (Tr.rch zs kn y.2.2.1) y.1 y.2.1
theorem Vd.filter_take{l:List Wr}{p:Wr→Bool}{k:Nat}(hk:k<l.length):(l.take (k+1)).filter p=(l.take k).filter p++(if p (l.getD k Nt.zeroW)=true then [l.getD k Nt.zeroW] else []):=by
 rw[List.take_succ_eq_append_getElem hk,List.filter_append,List.getD_eq_getElem?_getD,List.getElem?_eq_getElem hk,List.filter_cons]
 rfl
set_option maxRecDepth 100000 in
set_option maxHeartbeats 3200000 in
theorem vdreached_any(A Z K:Option Addr)(c cz ck:Nat)(l:List Wr)(zs:List Zc)(kn:List (Int × Int))(w:World)(h:OneW w A c l)(hz:OneZ w Z cz zs)(hk:OneL w K ck kn)(hl:l.length≤256) :
  Calls Tryz.prog 68 #[.slice A l.length c,.slice Z zs.length cz,.slice K kn.length ck] w (AnsW (l.filter (Vd.rd (zs.map Zc.zn) kn)) w):=by
 obtain⟨i0,hI,hZ0,hZ1,hZ2⟩:=info_parts infoWr
 have H1:=Hd h
 have HZ:=Hd hz
 have HK:=Hd hk
 clear h hz hk
 go_enter Tryz.func68,Tryz.ntmps68
 go_wp2_with fail
 go_loopw [7,12] (fun s7 s12 wr=>∃k:Nat,k≤l.length∧s12 = .int .i64 (k:Int)∧wr.ownsRow w.heap.size 52 4 s7 ((l.take k).filter (Vd.rd (zs.map Zc.zn) kn)).length (Nt.wrCells ((l.take k).filter (Vd.rd (zs.map Zc.zn) kn)))∧Below w.heap.size w wr) (fun _ s12 _=>l.length-(intOf s12).toNat)
 case atStart=>exact⟨0,Nat.zero_le _,rfl,⟨rfl,.inl ⟨rfl,rfl⟩⟩,Below.refl _ _⟩
 case round=>
  obtain⟨k,hk,rfl,hown,hbw⟩:=hrel
  by_cases hlt:k<l.length
  ·have hne:l≠[]:=fun e=>by subst e;simp at hlt
   obtain⟨b,off,hA,hcA⟩:=(H1.out.later hbw).at hne
   have H1':=H1
   subst hA
   obtain⟨e0,e1,e2,e3⟩:=hcA k hlt
   have hft:=Vd.filter_take (p:=Vd.rd (zs.map Zc.zn) kn) hlt
   have hkl:((l.take k).filter (Vd.rd (zs.map Zc.zn) kn)).length≤k:=Nat.le_trans (List.length_filter_le _ _) (by rw[List.length_take];omega)
   have hi0:(0:Int)≤(k:Int):=by omega
   have hi1:(k:Int)<(l.length:Int):=by omega
   obtain⟨x,hx⟩:∃x,l.getD k Nt.zeroW=x:=⟨_,rfl⟩
   rw[hx]at e0 e1 e2 e3 hft
   obtain⟨x0,x1,x2,x3⟩:=x
   dsimp only at e0 e1 e2 e3
   obtain⟨R,hR⟩:∃R,Tr.rch (zs.map Zc.zn) kn x2=R:=⟨_,rfl⟩
   have hT:Vd.rd (zs.map Zc.zn) kn (x0,x1,x2,x3)=hasOf R x0 x1:=by rw[←hR];rfl
   rw[hT]at hft
   obtain⟨t,ht⟩:∃t,hasOf R x0 x1=t:=⟨_,rfl⟩
   rw[ht]at hft
   have bx:=below_new (Below.refl wr.heap.size wr) (.cells #[.int .i64 x0,.int .i64 x1,.int .i64 x2,.bool x3] 52)
   have hX:=Blk.new wr 52 #[.int .i64 x0,.int .i64 x1,.int .i64 x2,.bool x3]
   have hbw2:=below_on hbw bx
   have hown2:=own_later hown bx
   obtain⟨W1,hW1⟩:∃W1,wr.alloc (.cells #[.int .i64 x0,.int .i64 x1,.int .i64 x2,.bool x3] 52)=W1:=⟨_,rfl⟩
   rw[hW1]at bx hX hbw2 hown2
   have NR:=Hd (fun w' (hb:Below W1.heap.size W1 w')=>show Calls Tryz.prog 134 #[.slice Z zs.length cz,.slice K kn.length ck,.int .i64 x2] w' (Ans R w') from by
    rw[←hR]
    exact vdreach_any Z K cz ck zs kn x2 w' ((HZ.out.later hbw2).later hb) ((HK.out.later hbw2).later hb))
   have HT:=Hd ht
   have HFT:=Hd hft
   have HX:=Hd hX
   have HO:=Hd hown2
   have BW:=Hd hbw2
   have HW1:=Hd hW1
   have p0:=hX.cell (i:=0) rfl
   have p1:=hX.cell (i:=1) rfl
   have p2:=hX.cell (i:=2) rfl
   obtain⟨M,hM⟩:∃M,(l.take k).filter (Vd.rd (zs.map Zc.zn) kn)=M:=⟨_,rfl⟩
   rw[hM]at HO HFT hkl
   clear hcA hx hown hbw hft hT ht hR bx hX hbw2 hown2 hW1 hM
   go_upto_region 5 with (fail)
   rw[HW1.out]
   clear HW1 e0 e1 e2 e3
   refine wp_region_all (by kernel_rfl) (by kernel_rfl)
    (fun v=>{ tmps:=#[.slice (some ⟨b,off,none⟩) l.length c,.slice Z zs.length cz,.slice K kn.length ck,undef,undef,undef,.slice none 0 0,u7,undef,.pointer (some ⟨wr.heap.size,0,none⟩),.slice (some ⟨b,off,none⟩) l.length c,.int .i64 (l.length:Int),.int .i64 (k:Int),.bool true,.pointer (some ⟨b,off+k*4,none⟩),.agg #[.int .i64 x0,.int .i64 x1,.int .i64 x2,.bool x3],v 0,v 1,v 2,v 3,v 4,v 5,v 6,v 7,u24,u25,u26,u27,u28,undef],defers:=[] }) (fun i=>match i with|0=>u16|1=>u17|2=>u18|3=>u19|4=>u20|5=>u21|6=>u22|7=>u23|_=>undef)
    (fun i x wx=>match i with
     |0=>x = .slice Z zs.length cz
     |1=>x = .slice K kn.length ck
     |2=>x = .pointer (some ⟨wr.heap.size,2,none⟩)
     |3=>x = .int .i64 x2
     |4=>∃A9 c9,x = .slice A9 R.length c9∧OneL wx A9 c9 R
     |5=>x = .pointer (some ⟨wr.heap.size,0,none⟩)
     |6=>x = .agg #[.int .i64 x0,.int .i64 x1]
     |7=>x = .bool t
     |_=>True)
    (fun w1 w2=>Below w1.heap.size w1 w2) (fun h1 h2=>below_on h1 h2) (fun _=>Below.refl _ _) (Below.drew (Below.refl _ _)) ?stabR ?stepR ?doneR
   case stabR=>
    rintro i x w1 w2 h hb
    match i,h with
    |0,h=>exact h
    |1,h=>exact h
    |2,h=>exact h
    |3,h=>exact h
    |4,h=>obtain⟨A9,c9,e9,h9⟩:=h;exact⟨A9,c9,e9,h9.later hb⟩
    |5,h=>exact h
    |6,h=>exact h
    |7,h=>exact h
    |i+8,_=>trivial
   case stepR=>
    intro i hi v w' hb hd
    match i,hi with
    |0,_=>
     refine wpOp_oneH rfl fun KK HKK =>?_
     clear hd
     go_wp2
     exact HKK.out _ _ ⟨_,(by simp[upd];done),Below.refl _ _,rfl⟩
    |1,_=>
     refine wpOp_oneH rfl fun KK HKK =>?_
     clear hd
     go_wp2
     exact HKK.out _ _ ⟨_,(by simp[upd];done),Below.refl _ _,rfl⟩
    |2,_=>
     refine wpOp_oneH rfl fun KK HKK =>?_
     clear hd
     go_wp2
     exact HKK.out _ _ ⟨_,(by simp[upd];done),Below.refl _ _,rfl⟩
    |3,_=>
     have h2:v 2=_:=hdx hd 2 (by kernel_rfl)
     refine wpOp_oneH rfl fun KK HKK =>?_
     clear hd
     rw[h2]
     have q0:=cell_later hb p2
     go_wp2
     exact HKK.out _ _ ⟨_,(by simp[upd,h2];done),Below.refl _ _,rfl⟩
    |4,_=>
     have h0:v 0=_:=hdx hd 0 (by kernel_rfl)
     have h1:v 1=_:=hdx hd 1 (by kernel_rfl)
     have h3:v 3=_:=hdx hd 3 (by kernel_rfl)
     refine wpOp_oneH rfl fun KK HKK =>?_
     clear hd
     rw[h0,h1,h3]
     go_wp2_with fail
     refine(NR.out _ hb).mono ?_
     rintro e w'' ⟨A6,c6,rfl,ho6,b⟩
     go_wp2
     exact HKK.out _ _ ⟨_,(by simp[upd,h0,h1,h3];done),b,A6,c6,rfl,ho6⟩
    |5,_=>
     refine wpOp_oneH rfl fun KK HKK =>?_
     clear hd
     go_wp2
     exact HKK.out _ _ ⟨_,(by simp[upd];done),Below.refl _ _,rfl⟩
    |6,_=>
     have h5:v 5=_:=hdx hd 5 (by kernel_rfl)
     refine wpOp_oneH rfl fun KK HKK =>?_
     clear hd
     rw[h5]
     have q0:=cell_later hb p0
     have q1:=cell_later hb p1
     go_wp2
     exact HKK.out _ _ ⟨_,(by simp[upd,h5];done),Below.refl _ _,rfl⟩
    |7,_=>
     obtain⟨B4,d4,h4,hB4⟩:=hd 4 (List.elem_iff.1 (by kernel_rfl))
     have h6:v 6=_:=hdx hd 6 (by kernel_rfl)
     refine wpOp_oneH rfl fun KK HKK =>?_
     clear hd
     rw[h4,h6]
     have NH:=Hd (has_any B4 d4 R x0 x1 w' hB4)
     go_wp2_with fail
     refine NH.out.mono ?_
     rintro e w'' ⟨rfl,b⟩
     rw[HT.out]
     go_wp2
     exact HKK.out _ _ ⟨_,(by simp[upd,h4,h6];done),b,rfl⟩
    |k+8,hk=>exact absurd hk (by simp)
   case doneR=>
    intro v w5 hb hf
    have h0:v 0=_:=hf 0 (by decide)
    have h1:v 1=_:=hf 1 (by decide)
    have h2:v 2=_:=hf 2 (by decide)
    have h3:v 3=_:=hf 3 (by decide)
    obtain⟨B4,d4,h4,hB4⟩:=hf 4 (by decide)
    have h5:v 5=_:=hf 5 (by decide)
    have h6:v 6=_:=hf 6 (by decide)
    have h7:v 7=_:=hf 7 (by decide)
    clear hf
    rw[h0,h1,h2,h3,h4,h5,h6,h7]
    clear p0 p1 p2
    have X5:=HX.out.later hb
    have O5:=own_later HO.out hb
    have B5:=below_on BW.out hb
    have z0:=X5.cell (i:=0) rfl
    have z1:=X5.cell (i:=1) rfl
    have z2:=X5.cell (i:=2) rfl
    have z3:=X5.cell (i:=3) rfl
    cases t with
    |false=>
     rw[if_neg Bool.false_ne_true,List.append_nil]at HFT
     have OO:=Hd O5
     have BB:=Hd B5
     clear X5 O5 B5 hb
     go_wp2_with fail
     go_roundw
     case rel=>exact⟨k+1,by omega,by go_num,by rw[HFT.out];exact OO.out,BB.out⟩
     case measure=>simp[intOf];omega
    |true=>
     rw[if_pos rfl]at HFT
     have bz2:=below_new (Below.refl w5.heap.size w5) (.cells #[.int .i64 x0,.int .i64 x1,.int .i64 x2,.bool x3] 52)
     have hown':=own_later O5 bz2
     have hy1:Lies (w5.alloc (.cells #[.int .i64 x0,.int .i64 x1,.int .i64 x2,.bool x3] 52)) (some ⟨w5.heap.size,0,none⟩) (Nt.wrCells [(x0,x1,x2,x3)]):=fun _=>⟨w5.heap.size,0,rfl,fun j u hu=>by
      rw[Nat.zero_add]
      exact(Blk.new w5 52 #[.int .i64 x0,.int .i64 x1,.int .i64 x2,.bool x3]).cell (by simpa[Nt.wrCells,Nt.wrCell] using hu)⟩
     have hbw2:=below_on B5 bz2
     have hszw:=hbw2.size
     clear X5 O5 B5 hb
     go_wp2_with (at_builtin;refine Go.Proofs.YtjlfehpockfkdaaGreat.wpList_append_lies _ rfl _ _ 24 rfl w.heap.size 52 i0 (.agg #[.int .i64 0,.int .i64 0,.int .i64 0,.bool false]) 4 32 Tryz.underlying24 hI hZ0 hZ1 hZ2 rfl (by decide) _ M.length (Nt.wrCells M) rfl hown' (some ⟨w5.heap.size,0,none⟩) 1 1 (fun h=>by cases h) (Nt.wrCells [(x0,x1,x2,x3)]) rfl rfl hy1 (Nt.wrCells_one _) ?h63 ?hbytes hszw ?_)
     case h63=>show M.length+1≤(9223372036854775807:Nat);omega
     case hbytes=>omega
     intro v' wz hownz hgz _
     have bwz:Below w.heap.size w wz:=hbw2.grown hgz (by omega) (fun r e=>own_ge hown' r e)
     rw[←Nt.wrCells_append,show M.length+1=(M++[(x0,x1,x2,x3)]).length from by simp,←HFT.out]at hownz
     have HQ:=Hd (And.intro hownz bwz)
     obtain⟨gv,capv,rfl⟩:=own_len hownz (by rw[HFT.out];simp)
     clear hownz hown' bwz bz2 hy1 hbw2 hgz
     go_wp2_with fail
     go_roundw
     case rel=>exact⟨k+1,by omega,by go_num,HQ.out.1,HQ.out.2⟩
     case measure=>simp[intOf];omega
  ·obtain rfl:k=l.length:=by omega
   rw[List.take_length]at hown
   obtain⟨VA,vc,hv,hO⟩:=OneW.of_own hown
   subst hv
   have HO:=Hd hO
   have BW:=Hd hbw
   clear hown hO hbw
   go_wp2
   go_ret
   exact⟨_,_,rfl,HO.out,BW.out⟩
def Vd.heldOk(v:Vw):Bool:=Sf.fmd v.h&&decide ((v.h.filter (Vd.rd v.z v.k)).length=v.h.length)
theorem Vd.rd_has{v:Vw}(hk:Ve.fmd v.k=true)(hz:Tr.fmd v.z=true){y:Wr}(hy:Sf.right y=true):Vw.has v y=Vd.rd v.z v.k y:=by
 have h:=(Sf.right_iff y).1 hy
 unfold Vw.has Vd.rd Tr.rchR
 rw[if_pos ⟨hz,hk,h.1,h.2.1⟩]
theorem Vd.held_all{v:Vw}(hk:Ve.fmd v.k=true)(hz:Tr.fmd v.z=true):Vd.heldOk v=(Sf.fmd v.h&&v.h.all v.has):=by
 unfold Vd.heldOk
 cases hf:Sf.fmd v.h with
 |false=>rfl
 |true=>
  rw[Bool.true_and,Bool.true_and]
  have hr:=((Sf.fmd_list v.h).1 hf).1
  have hc:v.h.filter (Vd.rd v.z v.k)=v.h.filter v.has:=List.filter_congr fun y hy=>(Vd.rd_has hk hz (hr y hy)).symm
  rw[hc]
  cases ha:v.h.all v.has with
  |true=>exact decide_eq_true (List.length_filter_eq_length_iff.2 (List.all_eq_true.1 ha))
  |false=>
   refine decide_eq_false fun h =>?_
   rw[List.all_eq_true.2 (List.length_filter_eq_length_iff.1 h)]at ha
   cases ha
theorem Vd.fmd_is(v:Vw):Vw.fmd v=(Ve.fmd v.k&&(Vd.zonesOk v&&(Vd.heldOk v&&Vd.bodiesOk v))):=by
 unfold Vw.fmd Vd.zonesOk Vd.bodiesOk
 cases hk:Ve.fmd v.k with
 |false=>rfl
 |true=>
  cases hz:Tr.fmd v.z with
  |false=>rfl
  |true=>
   rw[Vd.held_all hk hz]
   cases Sf.fmd v.h<;>cases Ca.fmd v.b v.r<;>cases v.z.all (fun z=>decide (Ve.stand (Ve.cnt z.2.2) (Ve.cnt v.k)=1))<;>cases v.h.all v.has<;>cases v.b.all v.wants<;>rfl
set_option maxRecDepth 100000 in
set_option maxHeartbeats 6400000 in
theorem vdheld_any(q:Vl)(w:World)(h:VwAt w q):Calls Tryz.prog 51 #[.agg (vwCells q)] w (Says (.bool (Vd.heldOk q.vw)) w):=by
 obtain⟨K,ck,kn,Z,cz,zs,H,ch,hs,B,cb,bs,room⟩:=q
 have hR:Vd.heldOk (Vl.vw ⟨K,ck,kn,Z,cz,zs,H,ch,hs,B,cb,bs,room⟩)=(Sf.fmd hs&&decide ((hs.filter (Vd.rd (zs.map Zc.zn) kn)).length=hs.length)):=rfl
 rw[hR]
 clear hR
 unfold vwCells
 dsimp only
 have n1:=fun wx (hb:Below w.heap.size w wx)=>sdformed_any H ch hs wx (h.later hb).h
 have n2:=fun (hf:Sf.fmd hs=true) wx (hb:Below w.heap.size w wx)=>vdreached_any H Z K ch cz ck hs zs kn wx (h.later hb).h (h.later hb).z (h.later hb).k (Sf.fmd_len hf)
 obtain⟨sf,hsf⟩:∃sf,Sf.fmd hs=sf:=⟨_,rfl⟩
 obtain⟨M,hM⟩:∃M,hs.filter (Vd.rd (zs.map Zc.zn) kn)=M:=⟨_,rfl⟩
 rw[hsf]at n1 n2 ⊢
 rw[hM]at n2 ⊢
 have N1:=Hd n1
 have N2:=Hd n2
 clear n1 n2 hsf hM h
 cases sf with
 |false=>
  rw[Bool.false_and]
  have hb0:=below_new (Below.refl w.heap.size w) (.cells #[.slice K kn.length ck,.slice Z zs.length cz,.slice H hs.length ch,.slice B bs.length cb,.int .i64 room] 27)
  have hV:=Blk.new w 27 #[.slice K kn.length ck,.slice Z zs.length cz,.slice H hs.length ch,.slice B bs.length cb,.int .i64 room]
  obtain⟨W,hW⟩:∃W,w.alloc (.cells #[.slice K kn.length ck,.slice Z zs.length cz,.slice H hs.length ch,.slice B bs.length cb,.int .i64 room] 27)=W:=⟨_,rfl⟩
  rw[hW]at hb0 hV
  have HW:=Hd hW
  obtain⟨g,hgg⟩:∃g,w.heap.size=g:=⟨_,rfl⟩
  rw[hgg]at hV
  have HV:=Hd (show Blk W (g) 27 #[.slice K kn.length ck,.slice Z zs.length cz,.slice H hs.length ch,.slice B bs.length cb,.int .i64 room] from hV)
  have HB0:=Hd hb0
  clear hW hb0 hV
  go_enter Tryz.func51,Tryz.ntmps51
  go_upto_region 1 with (fail)
  rw[HW.out]
  clear HW
  have V_2:=HV.out.cell (i:=2) rfl
  refine wp_region_facts 17 (by kernel_rfl) (by kernel_rfl)
   (fun v=>{ tmps:=#[.agg #[.slice K kn.length ck,.slice Z zs.length cz,.slice H hs.length ch,.slice B bs.length cb,.int .i64 room],.pointer (some ⟨g,0,none⟩),.bool false,v 0,v 1,v 2,v 3,v 4,v 5,v 6,v 7,v 8,v 9,v 10,v 11,v 12,v 13,v 14,v 15,v 16],defers:=[] }) (fun _=>undef)
   (fun i x wx=>match i with
    |0=>x = .pointer (some ⟨g,2,none⟩)
    |1=>x = .slice H hs.length ch
    |2=>x = .bool false
    |3=>x = .bool false
    |4=>x=undef
    |5=>x=undef
    |6=>x=undef
    |7=>x=undef
    |8=>x=undef
    |9=>x=undef
    |10=>x=undef
    |11=>x=undef
    |12=>x=undef
    |13=>x=undef
    |14=>x=undef
    |15=>x=undef
    |16=>x = .bool false
    |_=>True)
   (fun w1 w2=>Below w1.heap.size w1 w2) (fun h1 h2=>below_on h1 h2) (fun _=>Below.refl _ _) (Below.drew (Below.refl _ _)) ?stabH ?stepH ?doneH
  case stabH=>
   rintro i x w1 w2 h hb
   match i,h with
   |0,h=>exact h
   |1,h=>exact h
   |2,h=>exact h
   |3,h=>exact h
   |4,h=>exact h
   |5,h=>exact h
   |6,h=>exact h
   |7,h=>exact h
   |8,h=>exact h
   |9,h=>exact h
   |10,h=>exact h
   |11,h=>exact h
   |12,h=>exact h
   |13,h=>exact h
   |14,h=>exact h
   |15,h=>exact h
   |16,h=>exact h
   |i+17,_=>trivial
  case stepH=>
   intro i hi v w' hb hd
   match i,hi with
   |0,_=>
    refine wpOp_oneH rfl fun KK HKK =>?_
    clear hd
    go_wp2
    exact HKK.out _ _ ⟨_,(by simp[upd];done),Below.refl _ _,rfl⟩
   |1,_=>
    have h0:v 0=_:=hdx hd 0 (by kernel_rfl)
    refine wpOp_oneH rfl fun KK HKK =>?_
    clear hd
    rw[h0]
    have q0:=cell_later hb V_2
    go_wp2
    exact HKK.out _ _ ⟨_,(by simp[upd,h0];done),Below.refl _ _,rfl⟩
   |2,_=>
    have h1:v 1=_:=hdx hd 1 (by kernel_rfl)
    refine wpOp_oneH rfl fun KK HKK =>?_
    clear hd
    rw[h1]
    go_wp2_with fail
    refine(N1.out _ (below_on HB0.out hb)).mono ?_
    rintro e w'' ⟨rfl,b⟩
    go_wp2
    exact HKK.out _ _ ⟨_,(by simp[upd,h1];done),b,rfl⟩
   |3,_=>
    have h2:v 2=_:=hdx hd 2 (by kernel_rfl)
    refine wpOp_oneH rfl fun KK HKK =>?_
    clear hd
    rw[h2]
    go_wp2
    exact HKK.out _ _ ⟨_,(by simp[upd,h2];done),Below.refl _ _,rfl⟩
   |4,_=>
    have h3:v 3=_:=hdx hd 3 (by kernel_rfl)
    clear hd
    rw[h3]
    exact wpOp_skip rfl (by rfl) ⟨_,(by simp[upd,Act.put,h3];done),Below.refl _ _,rfl⟩
   |5,_=>
    have h3:v 3=_:=hdx hd 3 (by kernel_rfl)
    clear hd
    rw[h3]
    exact wpOp_skip rfl (by rfl) ⟨_,(by simp[upd,Act.put,h3];done),Below.refl _ _,rfl⟩
   |6,_=>
    have h3:v 3=_:=hdx hd 3 (by kernel_rfl)
    clear hd
    rw[h3]
    exact wpOp_skip rfl (by rfl) ⟨_,(by simp[upd,Act.put,h3];done),Below.refl _ _,rfl⟩
   |7,_=>
    have h3:v 3=_:=hdx hd 3 (by kernel_rfl)
    clear hd
    rw[h3]
    exact wpOp_skip rfl (by rfl) ⟨_,(by simp[upd,Act.put,h3];done),Below.refl _ _,rfl⟩
   |8,_=>
    have h3:v 3=_:=hdx hd 3 (by kernel_rfl)
    clear hd
    rw[h3]
    exact wpOp_skip rfl (by rfl) ⟨_,(by simp[upd,Act.put,h3];done),Below.refl _ _,rfl⟩
   |9,_=>
    have h3:v 3=_:=hdx hd 3 (by kernel_rfl)
    clear hd
    rw[h3]
    exact wpOp_skip rfl (by rfl) ⟨_,(by simp[upd,Act.put,h3];done),Below.refl _ _,rfl⟩
   |10,_=>
    have h3:v 3=_:=hdx hd 3 (by kernel_rfl)
    clear hd
    rw[h3]
    exact wpOp_skip rfl (by rfl) ⟨_,(by simp[upd,Act.put,h3];done),Below.refl _ _,rfl⟩
   |11,_=>
    have h3:v 3=_:=hdx hd 3 (by kernel_rfl)
    clear hd
    rw[h3]
    exact wpOp_skip rfl (by rfl) ⟨_,(by simp[upd,Act.put,h3];done),Below.refl _ _,rfl⟩
   |12,_=>
    have h3:v 3=_:=hdx hd 3 (by kernel_rfl)
    clear hd
    rw[h3]
    exact wpOp_skip rfl (by rfl) ⟨_,(by simp[upd,Act.put,h3];done),Below.refl _ _,rfl⟩
   |13,_=>
    have h3:v 3=_:=hdx hd 3 (by kernel_rfl)
    clear hd
    rw[h3]
    exact wpOp_skip rfl (by rfl) ⟨_,(by simp[upd,Act.put,h3];done),Below.refl _ _,rfl⟩
   |14,_=>
    have h3:v 3=_:=hdx hd 3 (by kernel_rfl)
    clear hd
    rw[h3]
    exact wpOp_skip rfl (by rfl) ⟨_,(by simp[upd,Act.put,h3];done),Below.refl _ _,rfl⟩
   |15,_=>
    have h3:v 3=_:=hdx hd 3 (by kernel_rfl)
    clear hd
    rw[h3]
    exact wpOp_skip rfl (by rfl) ⟨_,(by simp[upd,Act.put,h3];done),Below.refl _ _,rfl⟩
   |16,_=>
    have h3:v 3=_:=hdx hd 3 (by kernel_rfl)
    have h15:v 15=_:=hdx hd 15 (by kernel_rfl)
    refine wpOp_oneH rfl fun KK HKK =>?_
    clear hd
    rw[h3,h15]
    go_wp2
    exact HKK.out _ _ ⟨_,(by simp[upd,h3,h15];done),Below.refl _ _,rfl⟩
   |k+17,hk=>exact absurd hk (by omega)
  case doneH=>
   intro v w5 hb hf
   have h16:v 16=_:=hf 16 (by decide)
   clear hf
   rw[h16]
   clear V_2
   replace HV:=Hd (HV.out.later hb)
   have HB1:=Hd (below_on HB0.out hb)
   clear HB0
   clear hb
   have HF:=Hd HB1.out
   go_wp2
   go_ret
   exact⟨rfl,HF.out⟩
 |true=>
 rw[Bool.true_and]
 by_cases hl:M.length=hs.length
 ·rw[decide_eq_true hl]
  have d0:((M.length:Int) == (hs.length:Int))=true:=beq_iff_eq.2 (by rw[hl])
  clear hl
  have hb0:=below_new (Below.refl w.heap.size w) (.cells #[.slice K kn.length ck,.slice Z zs.length cz,.slice H hs.length ch,.slice B bs.length cb,.int .i64 room] 27)
  have hV:=Blk.new w 27 #[.slice K kn.length ck,.slice Z zs.length cz,.slice H hs.length ch,.slice B bs.length cb,.int .i64 room]
  obtain⟨W,hW⟩:∃W,w.alloc (.cells #[.slice K kn.length ck,.slice Z zs.length cz,.slice H hs.length ch,.slice B bs.length cb,.int .i64 room] 27)=W:=⟨_,rfl⟩
  rw[hW]at hb0 hV
  have HW:=Hd hW
  obtain⟨g,hgg⟩:∃g,w.heap.size=g:=⟨_,rfl⟩
  rw[hgg]at hV
  have HV:=Hd (show Blk W (g) 27 #[.slice K kn.length ck,.slice Z zs.length cz,.slice H hs.length ch,.slice B bs.length cb,.int .i64 room] from hV)
  have HB0:=Hd hb0
  clear hW hb0 hV
  go_enter Tryz.func51,Tryz.ntmps51
  go_upto_region 1 with (fail)
  rw[HW.out]
  clear HW
  have V_2:=HV.out.cell (i:=2) rfl
  have V_1:=HV.out.cell (i:=1) rfl
  have V_0:=HV.out.cell (i:=0) rfl
  refine wp_region_facts 17 (by kernel_rfl) (by kernel_rfl)
   (fun v=>{ tmps:=#[.agg #[.slice K kn.length ck,.slice Z zs.length cz,.slice H hs.length ch,.slice B bs.length cb,.int .i64 room],.pointer (some ⟨g,0,none⟩),.bool false,v 0,v 1,v 2,v 3,v 4,v 5,v 6,v 7,v 8,v 9,v 10,v 11,v 12,v 13,v 14,v 15,v 16],defers:=[] }) (fun _=>undef)
   (fun i x wx=>match i with
    |0=>x = .pointer (some ⟨g,2,none⟩)
    |1=>x = .slice H hs.length ch
    |2=>x = .bool true
    |3=>x = .bool true
    |4=>x = .pointer (some ⟨g,2,none⟩)
    |5=>x = .slice H hs.length ch
    |6=>x = .pointer (some ⟨g,1,none⟩)
    |7=>x = .slice Z zs.length cz
    |8=>x = .pointer (some ⟨g,0,none⟩)
    |9=>x = .slice K kn.length ck
    |10=>∃A9 c9,x = .slice A9 M.length c9∧OneW wx A9 c9 M
    |11=>x = .int .i64 (M.length:Int)
    |12=>x = .pointer (some ⟨g,2,none⟩)
    |13=>x = .slice H hs.length ch
    |14=>x = .int .i64 (hs.length:Int)
    |15=>x = .bool true
    |16=>x = .bool true
    |_=>True)
   (fun w1 w2=>Below w1.heap.size w1 w2) (fun h1 h2=>below_on h1 h2) (fun _=>Below.refl _ _) (Below.drew (Below.refl _ _)) ?stabH ?stepH ?doneH
  case stabH=>
   rintro i x w1 w2 h hb
   match i,h with
   |0,h=>exact h
   |1,h=>exact h
   |2,h=>exact h
   |3,h=>exact h
   |4,h=>exact h
   |5,h=>exact h
   |6,h=>exact h
   |7,h=>exact h
   |8,h=>exact h
   |9,h=>exact h
   |10,h=>obtain⟨A9,c9,e9,h9⟩:=h;exact⟨A9,c9,e9,h9.later hb⟩
   |11,h=>exact h
   |12,h=>exact h
   |13,h=>exact h
   |14,h=>exact h
   |15,h=>exact h
   |16,h=>exact h
   |i+17,_=>trivial
  case stepH=>
   intro i hi v w' hb hd
   match i,hi with
   |0,_=>
    refine wpOp_oneH rfl fun KK HKK =>?_
    clear hd
    go_wp2
    exact HKK.out _ _ ⟨_,(by simp[upd];done),Below.refl _ _,rfl⟩
   |1,_=>
    have h0:v 0=_:=hdx hd 0 (by kernel_rfl)
    refine wpOp_oneH rfl fun KK HKK =>?_
    clear hd
    rw[h0]
    have q0:=cell_later hb V_2
    go_wp2
    exact HKK.out _ _ ⟨_,(by simp[upd,h0];done),Below.refl _ _,rfl⟩
   |2,_=>
    have h1:v 1=_:=hdx hd 1 (by kernel_rfl)
    refine wpOp_oneH rfl fun KK HKK =>?_
    clear hd
    rw[h1]
    go_wp2_with fail
    refine(N1.out _ (below_on HB0.out hb)).mono ?_
    rintro e w'' ⟨rfl,b⟩
    go_wp2
    exact HKK.out _ _ ⟨_,(by simp[upd,h1];done),b,rfl⟩
   |3,_=>
    have h2:v 2=_:=hdx hd 2 (by kernel_rfl)
    refine wpOp_oneH rfl fun KK HKK =>?_
    clear hd
    rw[h2]
    go_wp2
    exact HKK.out _ _ ⟨_,(by simp[upd,h2];done),Below.refl _ _,rfl⟩
   |4,_=>
    have h3:v 3=_:=hdx hd 3 (by kernel_rfl)
    refine wpOp_oneH rfl fun KK HKK =>?_
    clear hd
    rw[h3]
    go_wp2
    exact HKK.out _ _ ⟨_,(by simp[upd,h3];done),Below.refl _ _,rfl⟩
   |5,_=>
    have h3:v 3=_:=hdx hd 3 (by kernel_rfl)
    have h4:v 4=_:=hdx hd 4 (by kernel_rfl)
    refine wpOp_oneH rfl fun KK HKK =>?_
    clear hd
    rw[h3,h4]
    have q0:=cell_later hb V_2
    go_wp2
    exact HKK.out _ _ ⟨_,(by simp[upd,h3,h4];done),Below.refl _ _,rfl⟩
   |6,_=>
    have h3:v 3=_:=hdx hd 3 (by kernel_rfl)
    refine wpOp_oneH rfl fun KK HKK =>?_
    clear hd
    rw[h3]
    go_wp2
    exact HKK.out _ _ ⟨_,(by simp[upd,h3];done),Below.refl _ _,rfl⟩
   |7,_=>
    have h3:v 3=_:=hdx hd 3 (by kernel_rfl)
    have h6:v 6=_:=hdx hd 6 (by kernel_rfl)
    refine wpOp_oneH rfl fun KK HKK =>?_
    clear hd
    rw[h3,h6]
    have q0:=cell_later hb V_1
    go_wp2
    exact HKK.out _ _ ⟨_,(by simp[upd,h3,h6];done),Below.refl _ _,rfl⟩
   |8,_=>
    have h3:v 3=_:=hdx hd 3 (by kernel_rfl)
    refine wpOp_oneH rfl fun KK HKK =>?_
    clear hd
    rw[h3]
    go_wp2
    exact HKK.out _ _ ⟨_,(by simp[upd,h3];done),Below.refl _ _,rfl⟩
   |9,_=>
    have h3:v 3=_:=hdx hd 3 (by kernel_rfl)
    have h8:v 8=_:=hdx hd 8 (by kernel_rfl)
    refine wpOp_oneH rfl fun KK HKK =>?_
    clear hd
    rw[h3,h8]
    have q0:=cell_later hb V_0
    go_wp2
    exact HKK.out _ _ ⟨_,(by simp[upd,h3,h8];done),Below.refl _ _,rfl⟩
   |10,_=>
    have h3:v 3=_:=hdx hd 3 (by kernel_rfl)
    have h5:v 5=_:=hdx hd 5 (by kernel_rfl)
    have h7:v 7=_:=hdx hd 7 (by kernel_rfl)
    have h9:v 9=_:=hdx hd 9 (by kernel_rfl)
    refine wpOp_oneH rfl fun KK HKK =>?_
    clear hd
    rw[h3,h5,h7,h9]
    go_wp2_with fail
    refine(N2.out (by first|rfl|trivial) _ (below_on HB0.out hb)).mono ?_
    rintro e w'' ⟨A6,c6,rfl,ho6,b⟩
    go_wp2
    exact HKK.out _ _ ⟨_,(by simp[upd,h3,h5,h7,h9];done),b,A6,c6,rfl,ho6⟩
   |11,_=>
    have h3:v 3=_:=hdx hd 3 (by kernel_rfl)
    obtain⟨B10,d10,h10,hB10⟩:=hd 10 (List.elem_iff.1 (by kernel_rfl))
    refine wpOp_oneH rfl fun KK HKK =>?_
    clear hd
    rw[h3,h10]
    go_wp2
    exact HKK.out _ _ ⟨_,(by simp[upd,h3,h10];done),Below.refl _ _,rfl⟩
   |12,_=>
    have h3:v 3=_:=hdx hd 3 (by kernel_rfl)
    refine wpOp_oneH rfl fun KK HKK =>?_
    clear hd
    rw[h3]
    go_wp2
    exact HKK.out _ _ ⟨_,(by simp[upd,h3];done),Below.refl _ _,rfl⟩
   |13,_=>
    have h3:v 3=_:=hdx hd 3 (by kernel_rfl)
    have h12:v 12=_:=hdx hd 12 (by kernel_rfl)
    refine wpOp_oneH rfl fun KK HKK =>?_
    clear hd
    rw[h3,h12]
    have q0:=cell_later hb V_2
    go_wp2
    exact HKK.out _ _ ⟨_,(by simp[upd,h3,h12];done),Below.refl _ _,rfl⟩
   |14,_=>
    have h3:v 3=_:=hdx hd 3 (by kernel_rfl)
    have h13:v 13=_:=hdx hd 13 (by kernel_rfl)
    refine wpOp_oneH rfl fun KK HKK =>?_
    clear hd
    rw[h3,h13]
    go_wp2
    exact HKK.out _ _ ⟨_,(by simp[upd,h3,h13];done),Below.refl _ _,rfl⟩
   |15,_=>
    have h3:v 3=_:=hdx hd 3 (by kernel_rfl)
    have h11:v 11=_:=hdx hd 11 (by kernel_rfl)
    have h14:v 14=_:=hdx hd 14 (by kernel_rfl)
    refine wpOp_oneH rfl fun KK HKK =>?_
    clear hd
    rw[h3,h11,h14]
    go_wp2
    exact HKK.out _ _ ⟨_,(by simp[upd,h3,h11,h14];done),Below.refl _ _,rfl⟩
   |16,_=>
    have h3:v 3=_:=hdx hd 3 (by kernel_rfl)
    have h15:v 15=_:=hdx hd 15 (by kernel_rfl)
    refine wpOp_oneH rfl fun KK HKK =>?_
    clear hd
    rw[h3,h15]
    go_wp2
    exact HKK.out _ _ ⟨_,(by simp[upd,h3,h15];done),Below.refl _ _,rfl⟩
   |k+17,hk=>exact absurd hk (by omega)
  case doneH=>
   intro v w5 hb hf
   have h16:v 16=_:=hf 16 (by decide)
   clear hf
   rw[h16]
   clear V_2 V_1 V_0
   replace HV:=Hd (HV.out.later hb)
   have HB1:=Hd (below_on HB0.out hb)
   clear HB0
   clear hb
   have HF:=Hd HB1.out
   go_wp2
   go_ret
   exact⟨rfl,HF.out⟩
 ·rw[decide_eq_false hl]
  have d0:((M.length:Int) == (hs.length:Int))=false:=beq_eq_false_iff_ne.2 (fun h=>hl (by omega))
  clear hl
  have hb0:=below_new (Below.refl w.heap.size w) (.cells #[.slice K kn.length ck,.slice Z zs.length cz,.slice H hs.length ch,.slice B bs.length cb,.int .i64 room] 27)
  have hV:=Blk.new w 27 #[.slice K kn.length ck,.slice Z zs.length cz,.slice H hs.length ch,.slice B bs.length cb,.int .i64 room]
  obtain⟨W,hW⟩:∃W,w.alloc (.cells #[.slice K kn.length ck,.slice Z zs.length cz,.slice H hs.length ch,.slice B bs.length cb,.int .i64 room] 27)=W:=⟨_,rfl⟩
  rw[hW]at hb0 hV
  have HW:=Hd hW
  obtain⟨g,hgg⟩:∃g,w.heap.size=g:=⟨_,rfl⟩
  rw[hgg]at hV
  have HV:=Hd (show Blk W (g) 27 #[.slice K kn.length ck,.slice Z zs.length cz,.slice H hs.length ch,.slice B bs.length cb,.int .i64 room] from hV)
  have HB0:=Hd hb0
  clear hW hb0 hV
  go_enter Tryz.func51,Tryz.ntmps51
  go_upto_region 1 with (fail)
  rw[HW.out]
  clear HW
  have V_2:=HV.out.cell (i:=2) rfl
  have V_1:=HV.out.cell (i:=1) rfl
  have V_0:=HV.out.cell (i:=0) rfl
  refine wp_region_facts 17 (by kernel_rfl) (by kernel_rfl)
   (fun v=>{ tmps:=#[.agg #[.slice K kn.length ck,.slice Z zs.length cz,.slice H hs.length ch,.slice B bs.length cb,.int .i64 room],.pointer (some ⟨g,0,none⟩),.bool false,v 0,v 1,v 2,v 3,v 4,v 5,v 6,v 7,v 8,v 9,v 10,v 11,v 12,v 13,v 14,v 15,v 16],defers:=[] }) (fun _=>undef)
   (fun i x wx=>match i with
    |0=>x = .pointer (some ⟨g,2,none⟩)
    |1=>x = .slice H hs.length ch
    |2=>x = .bool true
    |3=>x = .bool true
    |4=>x = .pointer (some ⟨g,2,none⟩)
    |5=>x = .slice H hs.length ch
    |6=>x = .pointer (some ⟨g,1,none⟩)
    |7=>x = .slice Z zs.length cz
    |8=>x = .pointer (some ⟨g,0,none⟩)
    |9=>x = .slice K kn.length ck
    |10=>∃A9 c9,x = .slice A9 M.length c9∧OneW wx A9 c9 M
    |11=>x = .int .i64 (M.length:Int)
    |12=>x = .pointer (some ⟨g,2,none⟩)
    |13=>x = .slice H hs.length ch
    |14=>x = .int .i64 (hs.length:Int)
    |15=>x = .bool false
    |16=>x = .bool false
    |_=>True)
   (fun w1 w2=>Below w1.heap.size w1 w2) (fun h1 h2=>below_on h1 h2) (fun _=>Below.refl _ _) (Below.drew (Below.refl _ _)) ?stabH ?stepH ?doneH
  case stabH=>
   rintro i x w1 w2 h hb
   match i,h with
   |0,h=>exact h
   |1,h=>exact h
   |2,h=>exact h
   |3,h=>exact h
   |4,h=>exact h
   |5,h=>exact h
   |6,h=>exact h
   |7,h=>exact h
   |8,h=>exact h
   |9,h=>exact h
   |10,h=>obtain⟨A9,c9,e9,h9⟩:=h;exact⟨A9,c9,e9,h9.later hb⟩
   |11,h=>exact h
   |12,h=>exact h
   |13,h=>exact h
   |14,h=>exact h
   |15,h=>exact h
   |16,h=>exact h
   |i+17,_=>trivial
  case stepH=>
   intro i hi v w' hb hd
   match i,hi with
   |0,_=>
    refine wpOp_oneH rfl fun KK HKK =>?_
    clear hd
    go_wp2
    exact HKK.out _ _ ⟨_,(by simp[upd];done),Below.refl _ _,rfl⟩
   |1,_=>
    have h0:v 0=_:=hdx hd 0 (by kernel_rfl)
    refine wpOp_oneH rfl fun KK HKK =>?_
    clear hd
    rw[h0]
    have q0:=cell_later hb V_2
    go_wp2
    exact HKK.out _ _ ⟨_,(by simp[upd,h0];done),Below.refl _ _,rfl⟩
   |2,_=>
    have h1:v 1=_:=hdx hd 1 (by kernel_rfl)
    refine wpOp_oneH rfl fun KK HKK =>?_
    clear hd
    rw[h1]
    go_wp2_with fail
    refine(N1.out _ (below_on HB0.out hb)).mono ?_
    rintro e w'' ⟨rfl,b⟩
    go_wp2
    exact HKK.out _ _ ⟨_,(by simp[upd,h1];done),b,rfl⟩
   |3,_=>
    have h2:v 2=_:=hdx hd 2 (by kernel_rfl)
    refine wpOp_oneH rfl fun KK HKK =>?_
    clear hd
    rw[h2]
    go_wp2
    exact HKK.out _ _ ⟨_,(by simp[upd,h2];done),Below.refl _ _,rfl⟩
   |4,_=>
    have h3:v 3=_:=hdx hd 3 (by kernel_rfl)
    refine wpOp_oneH rfl fun KK HKK =>?_
    clear hd
    rw[h3]
    go_wp2
    exact HKK.out _ _ ⟨_,(by simp[upd,h3];done),Below.refl _ _,rfl⟩
   |5,_=>
    have h3:v 3=_:=hdx hd 3 (by kernel_rfl)
    have h4:v 4=_:=hdx hd 4 (by kernel_rfl)
    refine wpOp_oneH rfl fun KK HKK =>?_
    clear hd
    rw[h3,h4]
    have q0:=cell_later hb V_2
    go_wp2
    exact HKK.out _ _ ⟨_,(by simp[upd,h3,h4];done),Below.refl _ _,rfl⟩
   |6,_=>
    have h3:v 3=_:=hdx hd 3 (by kernel_rfl)
    refine wpOp_oneH rfl fun KK HKK =>?_
    clear hd
    rw[h3]
    go_wp2
    exact HKK.out _ _ ⟨_,(by simp[upd,h3];done),Below.refl _ _,rfl⟩
   |7,_=>
    have h3:v 3=_:=hdx hd 3 (by kernel_rfl)
    have h6:v 6=_:=hdx hd 6 (by kernel_rfl)
    refine wpOp_oneH rfl fun KK HKK =>?_
    clear hd
    rw[h3,h6]
    have q0:=cell_later hb V_1
    go_wp2
    exact HKK.out _ _ ⟨_,(by simp[upd,h3,h6];done),Below.refl _ _,rfl⟩
   |8,_=>
    have h3:v 3=_:=hdx hd 3 (by kernel_rfl)
    refine wpOp_oneH rfl fun KK HKK =>?_
    clear hd
    rw[h3]
    go_wp2
    exact HKK.out _ _ ⟨_,(by simp[upd,h3];done),Below.refl _ _,rfl⟩
   |9,_=>
    have h3:v 3=_:=hdx hd 3 (by kernel_rfl)
    have h8:v 8=_:=hdx hd 8 (by kernel_rfl)
    refine wpOp_oneH rfl fun KK HKK =>?_
    clear hd
    rw[h3,h8]
    have q0:=cell_later hb V_0
    go_wp2
    exact HKK.out _ _ ⟨_,(by simp[upd,h3,h8];done),Below.refl _ _,rfl⟩
   |10,_=>
    have h3:v 3=_:=hdx hd 3 (by kernel_rfl)
    have h5:v 5=_:=hdx hd 5 (by kernel_rfl)
    have h7:v 7=_:=hdx hd 7 (by kernel_rfl)
    have h9:v 9=_:=hdx hd 9 (by kernel_rfl)
    refine wpOp_oneH rfl fun KK HKK =>?_
    clear hd
    rw[h3,h5,h7,h9]
    go_wp2_with fail
    refine(N2.out (by first|rfl|trivial) _ (below_on HB0.out hb)).mono ?_
    rintro e w'' ⟨A6,c6,rfl,ho6,b⟩
    go_wp2
    exact HKK.out _ _ ⟨_,(by simp[upd,h3,h5,h7,h9];done),b,A6,c6,rfl,ho6⟩
   |11,_=>
    have h3:v 3=_:=hdx hd 3 (by kernel_rfl)
    obtain⟨B10,d10,h10,hB10⟩:=hd 10 (List.elem_iff.1 (by kernel_rfl))
    refine wpOp_oneH rfl fun KK HKK =>?_
    clear hd
    rw[h3,h10]
    go_wp2
    exact HKK.out _ _ ⟨_,(by simp[upd,h3,h10];done),Below.refl _ _,rfl⟩
   |12,_=>
    have h3:v 3=_:=hdx hd 3 (by kernel_rfl)
    refine wpOp_oneH rfl fun KK HKK =>?_
    clear hd
    rw[h3]
    go_wp2
    exact HKK.out _ _ ⟨_,(by simp[upd,h3];done),Below.refl _ _,rfl⟩
   |13,_=>
    have h3:v 3=_:=hdx hd 3 (by kernel_rfl)
    have h12:v 12=_:=hdx hd 12 (by kernel_rfl)
    refine wpOp_oneH rfl fun KK HKK =>?_
    clear hd
    rw[h3,h12]
    have q0:=cell_later hb V_2
    go_wp2
    exact HKK.out _ _ ⟨_,(by simp[upd,h3,h12];done),Below.refl _ _,rfl⟩
   |14,_=>
    have h3:v 3=_:=hdx hd 3 (by kernel_rfl)
    have h13:v 13=_:=hdx hd 13 (by kernel_rfl)
    refine wpOp_oneH rfl fun KK HKK =>?_
    clear hd
    rw[h3,h13]
    go_wp2
    exact HKK.out _ _ ⟨_,(by simp[upd,h3,h13];done),Below.refl _ _,rfl⟩
   |15,_=>
    have h3:v 3=_:=hdx hd 3 (by kernel_rfl)
    have h11:v 11=_:=hdx hd 11 (by kernel_rfl)
    have h14:v 14=_:=hdx hd 14 (by kernel_rfl)
    refine wpOp_oneH rfl fun KK HKK =>?_
    clear hd
    rw[h3,h11,h14]
    go_wp2
    exact HKK.out _ _ ⟨_,(by simp[upd,h3,h11,h14];done),Below.refl _ _,rfl⟩
   |16,_=>
    have h3:v 3=_:=hdx hd 3 (by kernel_rfl)
    have h15:v 15=_:=hdx hd 15 (by kernel_rfl)
    refine wpOp_oneH rfl fun KK HKK =>?_
    clear hd
    rw[h3,h15]
    go_wp2
    exact HKK.out _ _ ⟨_,(by simp[upd,h3,h15];done),Below.refl _ _,rfl⟩
   |k+17,hk=>exact absurd hk (by omega)
  case doneH=>
   intro v w5 hb hf
   have h16:v 16=_:=hf 16 (by decide)
   clear hf
   rw[h16]
   clear V_2 V_1 V_0
   replace HV:=Hd (HV.out.later hb)
   have HB1:=Hd (below_on HB0.out hb)
   clear HB0
   clear hb
   have HF:=Hd HB1.out
   go_wp2
   go_ret
   exact⟨rfl,HF.out⟩
set_option maxRecDepth 100000 in
set_option maxHeartbeats 6400000 in
theorem vdformed_any(q:Vl)(w:World)(h:VwAt w q):Calls Tryz.prog 15 #[.agg (vwCells q)] w (Says (.bool (Vw.fmd q.vw)) w):=by
 rw[Vd.fmd_is]
 have n1:=fun wx (hb:Below w.heap.size w wx)=>formed_any q.K q.ck q.k wx (h.later hb).k
 have n2:=fun wx (hb:Below w.heap.size w wx)=>vdzones_any q wx (h.later hb)
 have n3:=fun wx (hb:Below w.heap.size w wx)=>vdheld_any q wx (h.later hb)
 have n4:=fun (hf:Vd.heldOk q.vw=true) wx (hb:Below w.heap.size w wx)=>vdbodies_any q wx (h.later hb) (Bool.and_eq_true_iff.1 hf).1
 rw[show Ve.fmd q.vw.k=Ve.fmd q.k from rfl]
 obtain⟨fa,hfa⟩:∃x,Ve.fmd q.k=x:=⟨_,rfl⟩
 obtain⟨fb,hfb⟩:∃x,Vd.zonesOk q.vw=x:=⟨_,rfl⟩
 obtain⟨fc,hfc⟩:∃x,Vd.heldOk q.vw=x:=⟨_,rfl⟩
 obtain⟨fd,hfd⟩:∃x,Vd.bodiesOk q.vw=x:=⟨_,rfl⟩
 rw[hfa,hfb,hfc,hfd]
 rw[hfa]at n1
 rw[hfb]at n2
 rw[hfc]at n3 n4
 rw[hfd]at n4
 clear hfa hfb hfc hfd h
 obtain⟨K,ck,kn,Z,cz,zs,H,ch,hs,B,cb,bs,room⟩:=q
 unfold vwCells at n2 n3 n4 ⊢
 dsimp only at n1 n2 n3 n4 ⊢
 have N1:=Hd n1
 have N2:=Hd n2
 have N3:=Hd n3
 have N4:=Hd n4
 clear n1 n2 n3 n4
 cases fa with
 |false=>
  rw[Bool.false_and]
  have hb0:=below_new (Below.refl w.heap.size w) (.cells #[.slice K kn.length ck,.slice Z zs.length cz,.slice H hs.length ch,.slice B bs.length cb,.int .i64 room] 27)
  have hV:=Blk.new w 27 #[.slice K kn.length ck,.slice Z zs.length cz,.slice H hs.length ch,.slice B bs.length cb,.int .i64 room]
  obtain⟨W,hW⟩:∃W,w.alloc (.cells #[.slice K kn.length ck,.slice Z zs.length cz,.slice H hs.length ch,.slice B bs.length cb,.int .i64 room] 27)=W:=⟨_,rfl⟩
  rw[hW]at hb0 hV
  have HW:=Hd hW
  obtain⟨g,hgg⟩:∃g,w.heap.size=g:=⟨_,rfl⟩
  rw[hgg]at hV
  have HV:=Hd (show Blk W (g) 27 #[.slice K kn.length ck,.slice Z zs.length cz,.slice H hs.length ch,.slice B bs.length cb,.int .i64 room] from hV)
  have HB0:=Hd hb0
  clear hW hb0 hV
  go_enter Tryz.func15,Tryz.ntmps15
  go_upto_region 1 with (fail)
  rw[HW.out]
  clear HW
  have V_0:=HV.out.cell (i:=0) rfl
  have V_1:=HV.out.cell (i:=1) rfl
  have V_2:=HV.out.cell (i:=2) rfl
  have V_3:=HV.out.cell (i:=3) rfl
  have V_4:=HV.out.cell (i:=4) rfl
  go_wp2_with fail
  refine(N1.out _ HB0.out).mono ?_
  rintro e w1 ⟨rfl,b1⟩
  clear V_0 V_1 V_2 V_3 V_4
  replace HV:=Hd (HV.out.later b1)
  have HB1:=Hd (below_on HB0.out b1)
  clear HB0
  clear b1 N1
  have V_0:=HV.out.cell (i:=0) rfl
  have V_1:=HV.out.cell (i:=1) rfl
  have V_2:=HV.out.cell (i:=2) rfl
  have V_3:=HV.out.cell (i:=3) rfl
  have V_4:=HV.out.cell (i:=4) rfl
  clear V_0 V_1 V_2 V_3 V_4
  go_wp2
  go_ret
  exact⟨rfl,HB1.out⟩
 |true=>
 rw[Bool.true_and]
 cases fb with
 |false=>
  rw[Bool.false_and]
  have hb0:=below_new (Below.refl w.heap.size w) (.cells #[.slice K kn.length ck,.slice Z zs.length cz,.slice H hs.length ch,.slice B bs.length cb,.int .i64 room] 27)
  have hV:=Blk.new w 27 #[.slice K kn.length ck,.slice Z zs.length cz,.slice H hs.length ch,.slice B bs.length cb,.int .i64 room]
  obtain⟨W,hW⟩:∃W,w.alloc (.cells #[.slice K kn.length ck,.slice Z zs.length cz,.slice H hs.length ch,.slice B bs.length cb,.int .i64 room] 27)=W:=⟨_,rfl⟩
  rw[hW]at hb0 hV
  have HW:=Hd hW
  obtain⟨g,hgg⟩:∃g,w.heap.size=g:=⟨_,rfl⟩
  rw[hgg]at hV
  have HV:=Hd (show Blk W (g) 27 #[.slice K kn.length ck,.slice Z zs.length cz,.slice H hs.length ch,.slice B bs.length cb,.int .i64 room] from hV)
  have HB0:=Hd hb0
  clear hW hb0 hV
  go_enter Tryz.func15,Tryz.ntmps15
  go_upto_region 1 with (fail)
  rw[HW.out]
  clear HW
  have V_0:=HV.out.cell (i:=0) rfl
  have V_1:=HV.out.cell (i:=1) rfl
  have V_2:=HV.out.cell (i:=2) rfl
  have V_3:=HV.out.cell (i:=3) rfl
  have V_4:=HV.out.cell (i:=4) rfl
  go_wp2_with fail
  refine(N1.out _ HB0.out).mono ?_
  rintro e w1 ⟨rfl,b1⟩
  clear V_0 V_1 V_2 V_3 V_4
  replace HV:=Hd (HV.out.later b1)
  have HB1:=Hd (below_on HB0.out b1)
  clear HB0
  clear b1 N1
  have V_0:=HV.out.cell (i:=0) rfl
  have V_1:=HV.out.cell (i:=1) rfl
  have V_2:=HV.out.cell (i:=2) rfl
  have V_3:=HV.out.cell (i:=3) rfl
  have V_4:=HV.out.cell (i:=4) rfl
  go_wp2_with fail
  refine(N2.out _ HB1.out).mono ?_
  rintro e w2 ⟨rfl,b2⟩
  clear V_0 V_1 V_2 V_3 V_4
  replace HV:=Hd (HV.out.later b2)
  have HB2:=Hd (below_on HB1.out b2)
  clear HB1
  clear b2 N2
  have V_0:=HV.out.cell (i:=0) rfl
  have V_1:=HV.out.cell (i:=1) rfl
  have V_2:=HV.out.cell (i:=2) rfl
  have V_3:=HV.out.cell (i:=3) rfl
  have V_4:=HV.out.cell (i:=4) rfl
  clear V_0 V_1 V_2 V_3 V_4
  go_wp2
  go_ret
  exact⟨rfl,HB2.out⟩
 |true=>
 rw[Bool.true_and]
 cases fc with
 |false=>
  rw[Bool.false_and]
  have hb0:=below_new (Below.refl w.heap.size w) (.cells #[.slice K kn.length ck,.slice Z zs.length cz,.slice H hs.length ch,.slice B bs.length cb,.int .i64 room] 27)
  have hV:=Blk.new w 27 #[.slice K kn.length ck,.slice Z zs.length cz,.slice H hs.length ch,.slice B bs.length cb,.int .i64 room]
  obtain⟨W,hW⟩:∃W,w.alloc (.cells #[.slice K kn.length ck,.slice Z zs.length cz,.slice H hs.length ch,.slice B bs.length cb,.int .i64 room] 27)=W:=⟨_,rfl⟩
  rw[hW]at hb0 hV
  have HW:=Hd hW
  obtain⟨g,hgg⟩:∃g,w.heap.size=g:=⟨_,rfl⟩
  rw[hgg]at hV
  have HV:=Hd (show Blk W (g) 27 #[.slice K kn.length ck,.slice Z zs.length cz,.slice H hs.length ch,.slice B bs.length cb,.int .i64 room] from hV)
  have HB0:=Hd hb0
  clear hW hb0 hV
  go_enter Tryz.func15,Tryz.ntmps15
  go_upto_region 1 with (fail)
  rw[HW.out]
  clear HW
  have V_0:=HV.out.cell (i:=0) rfl
  have V_1:=HV.out.cell (i:=1) rfl
  have V_2:=HV.out.cell (i:=2) rfl
  have V_3:=HV.out.cell (i:=3) rfl
  have V_4:=HV.out.cell (i:=4) rfl
  go_wp2_with fail
  refine(N1.out _ HB0.out).mono ?_
  rintro e w1 ⟨rfl,b1⟩
  clear V_0 V_1 V_2 V_3 V_4
  replace HV:=Hd (HV.out.later b1)
  have HB1:=Hd (below_on HB0.out b1)
  clear HB0
  clear b1 N1
  have V_0:=HV.out.cell (i:=0) rfl
  have V_1:=HV.out.cell (i:=1) rfl
  have V_2:=HV.out.cell (i:=2) rfl
  have V_3:=HV.out.cell (i:=3) rfl
  have V_4:=HV.out.cell (i:=4) rfl
  go_wp2_with fail
  refine(N2.out _ HB1.out).mono ?_
  rintro e w2 ⟨rfl,b2⟩
  clear V_0 V_1 V_2 V_3 V_4
  replace HV:=Hd (HV.out.later b2)
  have HB2:=Hd (below_on HB1.out b2)
  clear HB1
  clear b2 N2
  have V_0:=HV.out.cell (i:=0) rfl
  have V_1:=HV.out.cell (i:=1) rfl
  have V_2:=HV.out.cell (i:=2) rfl
  have V_3:=HV.out.cell (i:=3) rfl
  have V_4:=HV.out.cell (i:=4) rfl
  go_wp2_with fail
  refine(N3.out _ HB2.out).mono ?_
  rintro e w3 ⟨rfl,b3⟩
  clear V_0 V_1 V_2 V_3 V_4
  replace HV:=Hd (HV.out.later b3)
  have HB3:=Hd (below_on HB2.out b3)
  clear HB2
  clear b3 N3
  have V_0:=HV.out.cell (i:=0) rfl
  have V_1:=HV.out.cell (i:=1) rfl
  have V_2:=HV.out.cell (i:=2) rfl
  have V_3:=HV.out.cell (i:=3) rfl
  have V_4:=HV.out.cell (i:=4) rfl
  clear V_0 V_1 V_2 V_3 V_4
  go_wp2
  go_ret
  exact⟨rfl,HB3.out⟩
 |true=>
  rw[Bool.true_and]
  have hb0:=below_new (Below.refl w.heap.size w) (.cells #[.slice K kn.length ck,.slice Z zs.length cz,.slice H hs.length ch,.slice B bs.length cb,.int .i64 room] 27)
  have hV:=Blk.new w 27 #[.slice K kn.length ck,.slice Z zs.length cz,.slice H hs.length ch,.slice B bs.length cb,.int .i64 room]
  obtain⟨W,hW⟩:∃W,w.alloc (.cells #[.slice K kn.length ck,.slice Z zs.length cz,.slice H hs.length ch,.slice B bs.length cb,.int .i64 room] 27)=W:=⟨_,rfl⟩
  rw[hW]at hb0 hV
  have HW:=Hd hW
  obtain⟨g,hgg⟩:∃g,w.heap.size=g:=⟨_,rfl⟩
  rw[hgg]at hV
  have HV:=Hd (show Blk W (g) 27 #[.slice K kn.length ck,.slice Z zs.length cz,.slice H hs.length ch,.slice B bs.length cb,.int .i64 room] from hV)
  have HB0:=Hd hb0
  clear hW hb0 hV
  go_enter Tryz.func15,Tryz.ntmps15
  go_upto_region 1 with (fail)
  rw[HW.out]
  clear HW
  have V_0:=HV.out.cell (i:=0) rfl
  have V_1:=HV.out.cell (i:=1) rfl
  have V_2:=HV.out.cell (i:=2) rfl
  have V_3:=HV.out.cell (i:=3) rfl
  have V_4:=HV.out.cell (i:=4) rfl
  go_wp2_with fail
  refine(N1.out _ HB0.out).mono ?_
  rintro e w1 ⟨rfl,b1⟩
  clear V_0 V_1 V_2 V_3 V_4
  replace HV:=Hd (HV.out.later b1)
  have HB1:=Hd (below_on HB0.out b1)
  clear HB0
  clear b1 N1
  have V_0:=HV.out.cell (i:=0) rfl
  have V_1:=HV.out.cell (i:=1) rfl
  have V_2:=HV.out.cell (i:=2) rfl
  have V_3:=HV.out.cell (i:=3) rfl
  have V_4:=HV.out.cell (i:=4) rfl
  go_wp2_with fail
  refine(N2.out _ HB1.out).mono ?_
  rintro e w2 ⟨rfl,b2⟩
  clear V_0 V_1 V_2 V_3 V_4
  replace HV:=Hd (HV.out.later b2)
  have HB2:=Hd (below_on HB1.out b2)
  clear HB1
  clear b2 N2
  have V_0:=HV.out.cell (i:=0) rfl
  have V_1:=HV.out.cell (i:=1) rfl
  have V_2:=HV.out.cell (i:=2) rfl
  have V_3:=HV.out.cell (i:=3) rfl
  have V_4:=HV.out.cell (i:=4) rfl
  go_wp2_with fail
  refine(N3.out _ HB2.out).mono ?_
  rintro e w3 ⟨rfl,b3⟩
  clear V_0 V_1 V_2 V_3 V_4
  replace HV:=Hd (HV.out.later b3)
  have HB3:=Hd (below_on HB2.out b3)
  clear HB2
  clear b3 N3
  have V_0:=HV.out.cell (i:=0) rfl
  have V_1:=HV.out.cell (i:=1) rfl
  have V_2:=HV.out.cell (i:=2) rfl
  have V_3:=HV.out.cell (i:=3) rfl
  have V_4:=HV.out.cell (i:=4) rfl
  go_wp2_with fail
  refine(N4.out (by first|rfl|trivial) _ HB3.out).mono ?_
  rintro e w4 ⟨rfl,b4⟩
  clear V_0 V_1 V_2 V_3 V_4
  replace HV:=Hd (HV.out.later b4)
  have HB4:=Hd (below_on HB3.out b4)
  clear HB3
  clear b4 N4
  go_wp2
  go_ret
  exact⟨rfl,HB4.out⟩
end Go.Proofs.YtjlfehpockfkdaaGreat
namespace Go.Proofs.YtjlfehpockfkdaaGreat
open Go.RowKit
def rowIn(W:World)(g:Nat):Option Nat:=(W.cell? ⟨g,0,none⟩).bind Value.ownBlock
structure KeepB (g:Nat) (W W':World):Prop where
 size:W.heap.size≤W'.heap.size
 same:∀k o,W.heap[k]?=some o→o.isCells=true→k≠g→rowIn W g≠some k→W'.heap[k]?=some o
 row:rowIn W' g=rowIn W g∨∀r,rowIn W' g=some r→W.heap.size≤r∧r<W'.heap.size
structure RowOk (g:Nat) (W:World):Prop where
 lt:g<W.heap.size
 row:∀r,rowIn W g=some r→r<W.heap.size
structure Safe (g:Nat) (W:World) (k:Nat):Prop where
 cells:∃o,W.heap[k]?=some o∧o.isCells=true
 box:k≠g
 row:rowIn W g≠some k
section
variable {g k:Nat} {W W' X Y Z:World}
theorem KeepB.refl(g:Nat)(W:World):KeepB g W W:=⟨Nat.le_refl _,fun _ _ h _ _ _=>h,.inl rfl⟩
theorem Safe.lt(h:Safe g W k):k<W.heap.size:=by
 obtain⟨o,ho,_⟩:=h.cells
 exact(Array.getElem?_eq_some_iff.1 ho).1
theorem KeepB.trans(h:KeepB g X Y)(h':KeepB g Y Z):KeepB g X Z:=by
 refine⟨Nat.le_trans h.size h'.size,fun k o h1 h2 h3 h4 =>?_,?_⟩
 ·have h5:=h.same k o h1 h2 h3 h4
  refine h'.same k o h5 h2 h3 (fun e =>?_)
  rcases h.row with hr|hr
  ·exact h4 (hr ▸ e)
  ·have:=(hr k e).1
   have:=(Array.getElem?_eq_some_iff.1 h1).1
   omega
 ·rcases h'.row with hr|hr
  ·rcases h.row with hq|hq
   ·exact .inl (hr.trans hq)
   ·exact .inr (fun r e=>by
     have:=hq r (hr ▸ e)
     have:=h'.size
     omega)
  ·exact .inr (fun r e=>by
    have:=hr r e
    have:=h.size
    omega)
theorem RowOk.keep(h:RowOk g W)(hk:KeepB g W W'):RowOk g W':=⟨by have:=h.lt;have:=hk.size;omega,fun r e=>by
 rcases hk.row with hr|hr
 ·have:=h.row r (hr ▸ e)
  have:=hk.size
  omega
 ·exact(hr r e).2⟩
theorem Safe.keep(h:Safe g W k)(hk:KeepB g W W'):W'.heap[k]?=W.heap[k]?∧Safe g W' k:=by
 obtain⟨o,ho,hc⟩:=h.cells
 have h1:=hk.same k o ho hc h.box h.row
 refine⟨h1.trans ho.symm,⟨o,h1,hc⟩,h.box,fun e =>?_⟩
 rcases hk.row with hr|hr
 ·exact h.row (hr ▸ e)
 ·have:=(hr k e).1
  have:=h.lt
  omega
theorem Safe.cell(h:Safe g W k)(hk:KeepB g W W'){i:Nat}{v:Value}(hc:W.cell? ⟨k,i,none⟩=some v):W'.cell? ⟨k,i,none⟩=some v:=(World.cell?_of_block (a:=⟨k,i,none⟩) (h.keep hk).1).trans hc
theorem rowIn_below{n:Nat}(h:g<n)(hb:Below n W W'):rowIn W' g=rowIn W g:=by
 unfold rowIn
 rw[hb.cell (p:=⟨g,0,none⟩) h]
theorem KeepB.below(h:RowOk g W)(hb:Below W.heap.size W W'):KeepB g W W':=⟨hb.size,fun k _ h1 _ _ _=>(hb.block k (Array.getElem?_eq_some_iff.1 h1).1).trans h1,.inl (rowIn_below h.lt hb)⟩
theorem KeepB.put(l:Nat)(o o':Obj)(ho:W.heap[l]?=some o)(hc:o.isCells=false)(hl:l≠g):KeepB g W (W.putObj l o'):=by
 refine⟨by simp,fun k u h1 h2 _ _ =>?_,.inl ?_⟩
 ·by_cases e:l=k
  ·subst e
   rw[ho]at h1
   cases h1
   rw[hc]at h2
   cases h2
  ·exact(World.putObj_heap_other (fun h=>e h.symm)).trans h1
 ·unfold rowIn
  rw[World.cell?_of_block (a:=⟨g,0,none⟩) (World.putObj_heap_other (fun e=>hl e.symm))]
theorem Safe.new(h:RowOk g W)(cs:Array Value)(t:TypeId):Safe g (W.alloc (.cells cs t)) W.heap.size:=by
 refine⟨⟨_,World.alloc_heap_new W _,rfl⟩,by have:=h.lt;omega,fun e =>?_⟩
 rw[rowIn_below h.lt (below_new (Below.refl _ _) _)]at e
 have:=h.row _ e
 omega
theorem RowOk.below(h:RowOk g W)(hb:Below W.heap.size W W'):RowOk g W':=h.keep (KeepB.below h hb)
theorem Safe.below(h:Safe g W k)(hr:RowOk g W)(hb:Below W.heap.size W W'):Safe g W' k:=(h.keep (KeepB.below hr hb)).2
theorem Safe.old{n:Nat}(hn:n≤g)(hr:∀r,rowIn W g=some r→n≤r){k:Nat}(hk:k<n)(hc:∃o,W.heap[k]?=some o∧o.isCells=true):Safe g W k:=⟨hc,by omega,fun e=>by have:=hr k e;omega⟩
end
end Go.Proofs.YtjlfehpockfkdaaGreat
