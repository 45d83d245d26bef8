/-
  For any view, any body and any number, the law ViewBodies returns true and leaves its arguments as they were. No condition.
-/
import Derived.Test.YtjlfehpockfkdaaGreatB01
import Derived.Lib.SmallJoins
import Derived.Test.YtjlfehpockfkdaaGreatRows
import Derived.OpenShut
import Derived.WalkKit
import Derived.ProofKit
import Derived.SizedLaws
import Derived.Test.YtjlfehpockfkdaaGreatSViewBodiesB
import Derived.Test.YtjlfehpockfkdaaGreatSViewBodiesA
import Derived.Lib.SlBytesConst
import Derived.Test.YtjlfehpockfkdaaGreatB02
import Derived.Test.YtjlfehpockfkdaaGreatB05
import Derived.Test.YtjlfehpockfkdaaGreatB07
namespace Go.Proofs.YtjlfehpockfkdaaGreat
open Go.ChangeShapes Go.WideShapes Go.RowKit Go.Deep
set_option maxRecDepth 100000
theorem ca_list4{cs:List Value}(h:cs.length=4):∃a0 a1 a2 a3,cs=[a0,a1,a2,a3]:=by
 match cs,h with
 | [a0,a1,a2,a3],_=>exact⟨a0,a1,a2,a3,rfl⟩
section
variable {H:Type} {enc:TypeId × Value→H} {w:World}
theorem caInt:Tryz.prog.cellsOf 3=1:=by kernel_rfl
theorem caB:Tryz.prog.cellsOf 5=1:=by kernel_rfl
theorem caLB:Tryz.prog.cellsOf 47=1:=by kernel_rfl
theorem caSt:Tryz.prog.cellsOf 46=2:=by kernel_rfl
theorem caBd:Tryz.prog.cellsOf 49=4:=by kernel_rfl
theorem caBytesB:Tryz.prog.bytesOf 5=1:=by kernel_rfl
theorem caBytesBd:Tryz.prog.bytesOf 49=48:=by kernel_rfl
theorem ca_byteE(fuel:Nat)(cs:List Value)(x:DataW H × List MemPlace)(h:DataW.trod enc Tryz.prog w 0 (fun _=>true) true fuel 5 cs=some x):∃a:Int,cs=[.int .u8 a]∧isB a:=by
 obtain⟨a,e0,rfl,wa⟩:=DataW.trod_int Tryz.underlying5 h
 refine⟨a,e0,?_⟩
 have hb:IntKind.u8.min≤a∧a≤IntKind.u8.max:=by simpa[Lit.wf] using wa
 have e1:IntKind.u8.min=0:=by decide
 have e2:IntKind.u8.max=255:=by decide
 rw[e1,e2]at hb
 exact⟨hb.1,by omega⟩
theorem ca_flat(l:List Int):l.flatMap (fun n=>[Value.int .u8 n])=bCells l:=by
 induction l with
 |nil=>rfl
 |cons s r ih=>
  rw[List.flatMap_cons,ih]
  rfl
theorem ca_bytesE{fuel:Nat}{cs:List Value}{x:DataW H × List MemPlace}(h:DataW.trod enc Tryz.prog w 0 (fun _=>true) true fuel 47 cs=some x):∃A c l,cs=[.slice A (List.length l) c]∧OneB w A c l∧LenG x.1 l.length:=by
 obtain⟨A,c,l,h1,h2,h3,h4,h5,h6⟩:=open_list_with (0:Int) (fun n=>[Value.int .u8 n]) (fun a _=>isB a) (size:=1) (fun _=>rfl) Tryz.underlying47 caB (by decide) (fun fuel cs x h=>ca_byteE fuel cs x h) h
 rw[ca_flat]at h5
 refine⟨A,c,l,h1,⟨h2,h3,h4,h5,fun x hx =>?_⟩,?_⟩
 ·rcases h6 with rfl|⟨_,_,_,_,h7⟩
  ·cases hx
  ·obtain⟨_,_,h8⟩:=h7 x hx
   exact h8
 ·rcases h6 with rfl|⟨el,sp,h7,h8,_⟩
  ·exact .inl rfl
  ·exact .inr ⟨el,sp,h7,h8⟩
def BodyG(w:World)(f:Bc)(d:DataW H):Prop:=OneB w f.X f.d f.b.v∧∃d0 d1 d2,d = .agg [d0,d1,d2]∧LenG d2 f.b.v.length
theorem ca_bodyE(fuel:Nat)(cs:List Value)(x:DataW H × List MemPlace)(h:DataW.trod enc Tryz.prog w 0 (fun _=>true) true fuel 49 cs=some x):∃f:Bc,cs=Ca.cell f∧BodyG w f x.1:=by
 obtain⟨y0,y1,y2,m,hx,hl,q0,q1,q2⟩:=trod_struct3 Tryz.underlying49 h
 rw[caBd]at hl
 obtain⟨a0,a1,a2,a3,rfl⟩:=ca_list4 hl
 dsimp only at q0 q1 q2
 rw[caInt]at q0
 rw[caSt]at q1
 rw[caLB]at q2
 obtain⟨o,e0,_,_⟩:=DataW.trod_int Tryz.underlying3 q0
 obtain⟨c,n,e1,_,_,_,_⟩:=stamp_cells Tryz.underlying46 (by kernel_rfl) (by kernel_rfl) rfl rfl Tryz.underlying3 q1
 obtain⟨X,d,l,e2,o2,z2⟩:=ca_bytesE q2
 simp at e0 e1 e2
 obtain⟨rfl,rfl⟩:=e1
 subst e0 e2
 exact⟨⟨X,d,⟨o,c,n,l⟩⟩,rfl,o2,_,_,_,congrArg Prod.fst hx,z2⟩
theorem ca_cells_flat(l:List Bc):l.flatMap Ca.cell=Ca.cells l:=by
 induction l with
 |nil=>rfl
 |cons s r ih=>
  rw[List.flatMap_cons,ih]
  rfl
def BodiesG(w:World)(L:List Bc)(d:DataW H):Prop:=L=[]∨∃elems spare,d = .slice elems spare∧elems.length=L.length∧∀z∈L,∃x∈elems,BodyG w z x
theorem open_one_body{r:Reach}{b0:Nat}{v:Value}{d:DataW H}{p:List MemPlace}(hv:Value.okWide Tryz.prog w r b0 49 v)(h:DataW.Trod enc Tryz.prog w 0 (fun _=>true) true 49 v d p) :
  ∃(X:Option Addr) (c:Nat) (y:Bd),v = .agg (bdCells X c y)∧OneB w X c y.v∧BodyG w ⟨X,c,y⟩ d:=by
 obtain⟨cs,rfl,_⟩:=okWide_struct Tryz.underlying49 hv
 obtain⟨fuel,hf⟩:=h
 obtain⟨⟨X,c,y⟩,h1,h2⟩:=ca_bodyE _ _ _ hf
 exact⟨X,c,y,congrArg Value.agg (Array.toList_inj.1 (show cs.toList=(bdCells X c y).toList from h1)),h2.1,h2⟩
theorem fit_datum{z:Bc}{x:DataW H}(hx:BodyG w z x)(hk:∀k,k∈DataW.weights Tryz.prog 49 x→k≤reachBytes):z.b.v.length≤140737488355328:=by
 obtain⟨-,q0,q1,q2,rfl,z2⟩:=hx
 rcases z2 with z2|⟨el,sp,rfl,z2⟩
 ·omega
 ·have h1:=hk ((el.length+sp.length)*Tryz.prog.bytesOf 5) (by
   unfold DataW.weights
   rw[Tryz.underlying49]
   refine DataW.weights_mem_each (j:=2) rfl rfl _ ?_
   unfold DataW.weights
   rw[Tryz.underlying47]
   exact List.mem_cons_self ..)
  rw[caBytesB]at h1
  simp only[reachBytes]at h1
  omega
theorem fit_bodies{ts:List TypeId}{ds:List (DataW H)}(h:(DataW.weightsEach Tryz.prog ts ds).all (· ≤ reachBytes)=true){j:Nat}{d:DataW H}{L:List Bc}(ht:ts[j]?=some 25)(hd:ds[j]?=some d)(h6:BodiesG w L d) :
  L.length*48≤140737488355328∧∀z∈L,z.b.v.length≤140737488355328:=by
 rcases h6 with rfl|⟨elems,spare,rfl,hl,h7⟩
 ·exact⟨by simp,fun _ h=>by cases h⟩
 ·have top:∀k,k∈DataW.weights Tryz.prog 25 (.slice elems spare)→k≤reachBytes:=fun k hk=>by
   simpa using List.all_eq_true.1 h _ (DataW.weights_mem_each ht hd _ hk)
  refine⟨?_,fun z hz =>?_⟩
  ·have h1:=top ((elems.length+spare.length)*Tryz.prog.bytesOf 49) (by unfold DataW.weights;rw[Tryz.underlying25];exact List.mem_cons_self ..)
   rw[caBytesBd]at h1
   simp only[reachBytes]at h1
   omega
  ·obtain⟨x,hx,hg⟩:=h7 z hz
   refine fit_datum hg (fun k hk=>top k ?_)
   unfold DataW.weights
   rw[Tryz.underlying25]
   refine List.mem_cons_of_mem _ (List.mem_append_left _ ?_)
   rw[dk_weightsAll]
   exact List.mem_flatMap.2 ⟨_,hx,hk⟩
end
end Go.Proofs.YtjlfehpockfkdaaGreat
namespace Go.Proofs.YtjlfehpockfkdaaGreat
open Go.ChangeShapes Go.WideShapes Go.RowKit Go.Deep
section
variable {H:Type} {enc:TypeId × Value→H} {P:Program} {w:World}
theorem write_cells{base:Nat}{spare:Nat→Bool}{held:Bool}{fuel:Nat}{t ti:TypeId}{g0 g1 g2 s0 s1:Field}{cs:List Value}{x:DataW H × List MemPlace}
  (hs:P.underlying t=some (.struct #[g0,g1,g2]))(hC:P.cellsOf t=4)(k0:P.cellsOf g0.type=2)(o0:g0.offset=0)(k1:P.cellsOf g1.type=1)(o1:g1.offset=2)(k2:P.cellsOf g2.type=1)(o2:g2.offset=3)
  (hss:P.underlying g0.type=some (.struct #[s0,s1]))(hone:Deep.oneCellFields P #[s0,s1]=true)(hi0:s0.type=ti)(hi1:s1.type=ti)(hi:P.underlying ti=some (.int .i64))(h1:P.underlying g1.type=some (.int .i64))(hb:P.underlying g2.type=some .bool)
  (h:DataW.trod enc P w base spare held fuel t cs=some x):∃y:Wr,cs=Nt.wrCell y:=by
 obtain⟨y0,y1,y2,m,rfl,hl,q0,q1,q2⟩:=trod_struct3 hs h
 rw[hC]at hl
 obtain⟨a0,a1,a2,a3,rfl⟩:∃a0 a1 a2 a3,cs=[a0,a1,a2,a3]:=by
  match cs,hl with
  | [a0,a1,a2,a3],_=>exact⟨a0,a1,a2,a3,rfl⟩
 rw[o0,k0]at q0
 rw[o1,k1]at q1
 rw[o2,k2]at q2
 obtain⟨c,n,e0,_⟩:=stamp_cells hss hone k0 hi0 hi1 hi q0
 obtain⟨o,e1,_,_⟩:=DataW.trod_int h1 q1
 obtain⟨g,e2,_⟩:=DataW.trod_bool hb q2
 simp at e0 e1 e2
 obtain⟨rfl,rfl⟩:=e0
 subst e1 e2
 exact⟨(c,n,o,g),rfl⟩
end
set_option maxRecDepth 100000
section
variable {H:Type} {enc:TypeId × Value→H} {w:World}
theorem trod_struct5{P:Program}{base:Nat}{spare:Nat→Bool}{held:Bool}{t:TypeId}{f0 f1 f2 f3 f4:Field}{fuel:Nat}{cs:List Value}{x:DataW H × List MemPlace}(ht:P.underlying t=some (.struct #[f0,f1,f2,f3,f4]))(h:DataW.trod enc P w base spare held fuel t cs=some x) :
  ∃y0 y1 y2 y3 y4 n,x=(.agg [y0.1,y1.1,y2.1,y3.1,y4.1],y0.2++(y1.2++(y2.2++(y3.2++y4.2))))∧cs.length=P.cellsOf t∧DataW.trod enc P w base spare held n f0.type ((cs.drop f0.offset).take (P.cellsOf f0.type))=some y0 ∧
   DataW.trod enc P w base spare held n f1.type ((cs.drop f1.offset).take (P.cellsOf f1.type))=some y1∧DataW.trod enc P w base spare held n f2.type ((cs.drop f2.offset).take (P.cellsOf f2.type))=some y2 ∧
   DataW.trod enc P w base spare held n f3.type ((cs.drop f3.offset).take (P.cellsOf f3.type))=some y3∧DataW.trod enc P w base spare held n f4.type ((cs.drop f4.offset).take (P.cellsOf f4.type))=some y4:=by
 obtain⟨xs,n,_,rfl,hl,hlen,hf⟩:=DataW.trod_struct ht h
 match xs,hlen with
 | [y0,y1,y2,y3,y4],_=>exact⟨y0,y1,y2,y3,y4,n,by simp,hl,by simpa using hf 0 f0 rfl,by simpa using hf 1 f1 rfl,by simpa using hf 2 f2 rfl,by simpa using hf 3 f3 rfl,by simpa using hf 4 f4 rfl⟩
theorem vw_list5{cs:List Value}(h:cs.length=5):∃a0 a1 a2 a3 a4,cs=[a0,a1,a2,a3,a4]:=by
 match cs,h with
 | [a0,a1,a2,a3,a4],_=>exact⟨a0,a1,a2,a3,a4,rfl⟩
theorem vwWr:Tryz.prog.cellsOf 52=4:=by kernel_rfl
theorem vwLW:Tryz.prog.cellsOf 24=1:=by kernel_rfl
theorem vwLB:Tryz.prog.cellsOf 25=1:=by kernel_rfl
theorem vwVw:Tryz.prog.cellsOf 27=5:=by kernel_rfl
theorem vwBytesW:Tryz.prog.bytesOf 52=32:=by kernel_rfl
theorem vw_writeE(fuel:Nat)(cs:List Value)(x:DataW H × List MemPlace)(h:DataW.trod enc Tryz.prog w 0 (fun _=>true) true fuel 52 cs=some x):∃a,cs=Nt.wrCell a:=
 write_cells Tryz.underlying52 (by kernel_rfl) (by kernel_rfl) rfl (by kernel_rfl) rfl (by kernel_rfl) rfl Tryz.underlying46 (by kernel_rfl) rfl rfl Tryz.underlying3 Tryz.underlying3 Tryz.underlying4 h
theorem vw_writesE{fuel:Nat}{cs:List Value}{x:DataW H × List MemPlace}(h:DataW.trod enc Tryz.prog w 0 (fun _=>true) true fuel 24 cs=some x):∃A c l,cs=[.slice A (List.length l) c]∧OneW w A c l∧LenG x.1 l.length:=by
 obtain⟨A,c,l,h1,h2,h3,h4,h5,h6⟩:=open_list_with Nt.zeroW Nt.wrCell (fun _ _=>True) (size:=4) (fun _=>rfl) Tryz.underlying24 vwWr (by decide) (fun fuel cs x h=>(vw_writeE fuel cs x h).imp fun _ h=>⟨h,trivial⟩) h
 refine⟨A,c,l,h1,⟨h2,h3,h4,h5⟩,?_⟩
 rcases h6 with rfl|⟨el,sp,h7,h8,_⟩
 ·exact .inl rfl
 ·exact .inr ⟨el,sp,h7,h8⟩
def ZonesG(w:World)(L:List Zc)(d:DataW H):Prop:=L=[]∨∃elems spare,d = .slice elems spare∧elems.length=L.length∧∀f∈L,∃x∈elems,ZoneG w f x
theorem vw_zonesE{fuel:Nat}{cs:List Value}{x:DataW H × List MemPlace}(h:DataW.trod enc Tryz.prog w 0 (fun _=>true) true fuel 23 cs=some x):∃A c L,cs=[.slice A (List.length L) c]∧OneZ w A c L∧ZonesG w L x.1:=by
 obtain⟨A,c,L,e1,h2,h3,h4,h5,h6⟩:=open_list_with Zc.zero (fun f=>zCells [f]) (fun f d=>ZoneG w f d) (size:=3) (fun _=>rfl) Tryz.underlying23 znZn (by decide) (fun fuel cs x h=>zn_zoneE fuel cs x h) h
 rw[zCells_flat]at h5
 refine⟨A,c,L,e1,⟨h2,h3,h4,h5,fun f hf2 =>?_⟩,h6⟩
 rcases h6 with rfl|⟨_,_,_,_,h7⟩
 ·cases hf2
 ·obtain⟨_,_,h8⟩:=h7 f hf2
  exact h8.1
theorem vw_bodiesE{fuel:Nat}{cs:List Value}{x:DataW H × List MemPlace}(h:DataW.trod enc Tryz.prog w 0 (fun _=>true) true fuel 25 cs=some x):∃A c L,cs=[.slice A (List.length L) c]∧OneC w A c L∧BodiesG w L x.1:=by
 obtain⟨A,c,L,h1,h2,h3,h4,h5,h6⟩:=open_list_with Bc.zero Ca.cell (fun z d=>BodyG w z d) (size:=4) (fun _=>rfl) Tryz.underlying25 caBd (by decide) (fun fuel cs x h=>ca_bodyE fuel cs x h) h
 rw[ca_cells_flat]at h5
 refine⟨A,c,L,h1,⟨h2,h3,h4,h5,fun z hz =>?_⟩,h6⟩
 rcases h6 with rfl|⟨_,_,_,_,h7⟩
 ·cases hz
 ·obtain⟨_,_,h8⟩:=h7 z hz
  exact h8.1
def ViewG(w:World)(q:Vl)(d:DataW H):Prop:=∃d0 d1 d2 d3 d4,d = .agg [d0,d1,d2,d3,d4]∧LenG d0 q.k.length∧ZonesG w q.z d1∧LenG d2 q.h.length∧BodiesG w q.b d3
theorem open_view{r:Reach}{b0:Nat}{v:Value}{d:DataW H}{p:List MemPlace}(hv:Value.okWide Tryz.prog w r b0 27 v)(h:DataW.Trod enc Tryz.prog w 0 (fun _=>true) true 27 v d p) :
  ∃q:Vl,v = .agg (vwCells q)∧VwAt w q∧ViewG w q d:=by
 obtain⟨cs,rfl,_⟩:=okWide_struct Tryz.underlying27 hv
 obtain⟨fuel,hf⟩:=h
 obtain⟨y0,y1,y2,y3,y4,m,hx,hl,q0,q1,q2,q3,q4⟩:=trod_struct5 Tryz.underlying27 hf
 have hcc:(Value.agg cs).cells.toList=cs.toList:=rfl
 rw[hcc]at hl q0 q1 q2 q3 q4
 rw[vwVw]at hl
 obtain⟨a0,a1,a2,a3,a4,hcl⟩:=vw_list5 hl
 rw[hcl]at q0 q1 q2 q3 q4
 dsimp only at q0 q1 q2 q3 q4
 rw[znLS]at q0
 rw[znLZ]at q1
 rw[vwLW]at q2
 rw[vwLB]at q3
 rw[znInt]at q4
 obtain⟨K,ck,k,e0,o0,g0⟩:=zn_vecE q0
 obtain⟨Z,cz,z,e1,o1,g1⟩:=vw_zonesE q1
 obtain⟨A,ch,hh,e2,o2,g2⟩:=vw_writesE q2
 obtain⟨B,cb,b,e3,o3,g3⟩:=vw_bodiesE q3
 obtain⟨n,e4,_,_⟩:=DataW.trod_int Tryz.underlying3 q4
 simp at e0 e1 e2 e3 e4
 subst e0 e1 e2 e3 e4
 exact⟨⟨K,ck,k,Z,cz,z,A,ch,hh,B,cb,b,n⟩,congrArg Value.agg (Array.toList_inj.1 hcl),⟨o0,o1,o2,o3⟩,_,_,_,_,_,congrArg Prod.fst hx,g0,g1,g2,g3⟩
theorem fit_len{ts:List TypeId}{ds:List (DataW H)}(h:(DataW.weightsEach Tryz.prog ts ds).all (· ≤ reachBytes)=true){j:Nat}{d:DataW H}{n b:Nat}{t e:TypeId}(hu:Tryz.prog.underlying t=some (.slice e))(hb:Tryz.prog.bytesOf e=b)(ht:ts[j]?=some t)(hd:ds[j]?=some d)(hl:LenG d n):n*b≤140737488355328:=by
 rcases hl with rfl|⟨el,sp,rfl,hl⟩
 ·simp
 ·have h1:(el.length+sp.length)*Tryz.prog.bytesOf e≤reachBytes:=by
   simpa using List.all_eq_true.1 h _ (DataW.weights_mem_each ht hd _ (by unfold DataW.weights;rw[hu];exact List.mem_cons_self ..))
  rw[hb,hl]at h1
  simp only[reachBytes]at h1
  have h2:n*b≤(n+sp.length)*b:=Nat.mul_le_mul_right _ (Nat.le_add_right _ _)
  omega
theorem fit_view{ts:List TypeId}{ds:List (DataW H)}(h:(DataW.weightsEach Tryz.prog ts ds).all (· ≤ reachBytes)=true){j:Nat}{d:DataW H}{q:Vl}(ht:ts[j]?=some 27)(hd:ds[j]?=some d)(hg:ViewG w q d):VwFit q:=by
 obtain⟨d0,d1,d2,d3,d4,rfl,g0,g1,g2,g3⟩:=hg
 have hin:(DataW.weightsEach Tryz.prog [22,23,24,25,3] [d0,d1,d2,d3,d4]).all (· ≤ reachBytes)=true:=List.all_eq_true.2 (fun k hk=>List.all_eq_true.1 h k (DataW.weights_mem_each ht hd k (by
  unfold DataW.weights
  rw[Tryz.underlying27]
  exact hk)))
 have z1:=fit_zones hin (j:=1) rfl rfl g1
 have z3:=fit_bodies hin (j:=3) rfl rfl g3
 exact⟨fit_len hin (j:=0) Tryz.underlying22 znBytesS rfl rfl g0,z1.1,z1.2,fit_len hin (j:=2) Tryz.underlying24 vwBytesW rfl rfl g2,⟨z3.1,z3.2⟩⟩
end
end Go.Proofs.YtjlfehpockfkdaaGreat
namespace Go.Proofs.YtjlfehpockfkdaaGreat
open Go.RowKit Fb
set_option maxRecDepth 100000 in
set_option maxHeartbeats 6400000 in
theorem lawVBodies_any(S:ViewSpec)(q:Vl)(X:Option Addr)(d:Nat)(x:Bd)(o:Int)(w:World)(h:VwAt w q)(hft:VwFit q)(hx:OneB w X d x.v) :
  Calls Tryz.prog 5 #[.agg (vwCells q),.agg (bdCells X d x),.int .i64 o] w (Says (.bool true) w):=by
 have SS:=Hd S
 have AL:=Hd (fun wx=>valive_any S wx)
 have cp:=fun wx (hb:Below w.heap.size w wx)=>vcopy_any q wx (h.later hb) hft
 have hvw:=fun wx (hb:Below w.heap.size w wx)=>h.later hb
 have hxb:=fun wx (hb:Below w.heap.size w wx)=>hx.later hb
 obtain⟨⟨nv,ne⟩,hnn⟩:∃p,Vw.bodyR q.vw x=p:=⟨_,rfl⟩
 have hok:=fun (h0:ne=0)=>show Vw.fmd nv=true from(Vw.ok_iff nv).2 (by have:=Vw.body_ok (v:=q.vw) (x:=x) (by rw[hnn];exact h0);rw[hnn]at this;exact this)
 obtain⟨⟨rb,⟨a0,a1,a2,a3⟩,re⟩,hrd⟩:∃p,Vw.readR q.vw o=p:=⟨_,rfl⟩
 clear S h hft hx
 obtain⟨K,ck,kn,Z,cz,zs,H,ch,hs,B,cb,bs,room⟩:=q
 obtain⟨x0,x1,x2,xv⟩:=x
 unfold vwCells at cp ⊢
 unfold bdCells
 dsimp only at cp hxb ⊢
 have HNN:=Hd hnn
 have HRD:=Hd hrd
 have HOK:=Hd hok
 have CP:=Hd cp
 have HVW:=Hd hvw
 have HXB:=Hd hxb
 clear cp hvw hxb hnn hrd hok
 have hb0:=below_new (below_new (Below.refl w.heap.size w) (.cells #[.slice K kn.length ck,.slice Z zs.length cz,.slice H hs.length ch,.slice B bs.length cb,.int .i64 room] 27)) (.cells #[.int .i64 x0,.int .i64 x1,.int .i64 x2,.slice X xv.length d] 49)
 have hV:=(Blk.new w 27 #[.slice K kn.length ck,.slice Z zs.length cz,.slice H hs.length ch,.slice B bs.length cb,.int .i64 room]).alloc (.cells #[.int .i64 x0,.int .i64 x1,.int .i64 x2,.slice X xv.length d] 49)
 have hX:=Blk.new (w.alloc (.cells #[.slice K kn.length ck,.slice Z zs.length cz,.slice H hs.length ch,.slice B bs.length cb,.int .i64 room] 27)) 49 #[.int .i64 x0,.int .i64 x1,.int .i64 x2,.slice X xv.length d]
 simp only[World.size_alloc]at hX
 obtain⟨W,hW⟩:∃W,(w.alloc (.cells #[.slice K kn.length ck,.slice Z zs.length cz,.slice H hs.length ch,.slice B bs.length cb,.int .i64 room] 27)).alloc (.cells #[.int .i64 x0,.int .i64 x1,.int .i64 x2,.slice X xv.length d] 49)=W:=⟨_,rfl⟩
 rw[hW]at hb0 hV hX
 have HW:=Hd hW
 obtain⟨g,hgg⟩:∃g,w.heap.size=g:=⟨_,rfl⟩
 rw[hgg]at hV hX
 have HV:=Hd (show Blk W (g) 27 #[.slice K kn.length ck,.slice Z zs.length cz,.slice H hs.length ch,.slice B bs.length cb,.int .i64 room] from hV)
 have HX:=Hd (show Blk W (g+1) 49 #[.int .i64 x0,.int .i64 x1,.int .i64 x2,.slice X xv.length d] from hX)
 have HB0:=Hd hb0
 clear hW hb0 hV hX
 go_enter Tryz.func5,Tryz.ntmps5
 go_upto_region 1 with (fail)
 rw[HW.out]
 clear HW
 go_wp2_with fail
 refine(AL.out _).mono ?_
 rintro e w1 ⟨rfl,b1⟩
 replace HV:=Hd (HV.out.later b1)
 replace HX:=Hd (HX.out.later b1)
 have HB1:=Hd (below_on HB0.out b1)
 clear HB0
 clear b1 AL
 have V_0:=HV.out.cell (i:=0) rfl
 have V_1:=HV.out.cell (i:=1) rfl
 have V_2:=HV.out.cell (i:=2) rfl
 have V_3:=HV.out.cell (i:=3) rfl
 have V_4:=HV.out.cell (i:=4) rfl
 go_wp2_with fail
 refine(CP.out _ HB1.out).mono ?_
 rintro e w2 ⟨q2,rfl,hq2,hV2,b2⟩
 clear V_0 V_1 V_2 V_3 V_4
 replace HV:=Hd (HV.out.later b2)
 replace HX:=Hd (HX.out.later b2)
 have HB2:=Hd (below_on HB1.out b2)
 clear HB1
 clear b2 CP
 obtain⟨K2,ck2,k2,Z2,cz2,z2,H2,ch2,h2,B2,cb2,b2,r2⟩:=q2
 have HQ2:=Hd hq2
 have XV2:=Hd hV2
 clear hq2 hV2
 unfold vwCells
 dsimp only
 obtain⟨g2,hgg2⟩:∃g2,w2.heap.size=g2:=⟨_,rfl⟩
 have lt_V_g2:g<g2:=by have:=HV.out.lt;rw[hgg2]at this;exact this
 have lt_X_g2:g+1<g2:=by have:=HX.out.lt;rw[hgg2]at this;exact this
 have le_g2:w.heap.size≤g2:=by have:=HB2.out.size;rw[hgg2]at this;exact this
 go_upto_region 4 with (fail)
 have b3:=below_new (Below.refl w2.heap.size w2) (.cells #[.slice K2 k2.length ck2,.slice Z2 z2.length cz2,.slice H2 h2.length ch2,.slice B2 b2.length cb2,.int .i64 r2] 27)
 have hO:=Blk.new w2 27 #[.slice K2 k2.length ck2,.slice Z2 z2.length cz2,.slice H2 h2.length ch2,.slice B2 b2.length cb2,.int .i64 r2]
 obtain⟨w3,hw3⟩:∃x,w2.alloc (.cells #[.slice K2 k2.length ck2,.slice Z2 z2.length cz2,.slice H2 h2.length ch2,.slice B2 b2.length cb2,.int .i64 r2] 27)=x:=⟨_,rfl⟩
 rw[hw3]at b3 hO
 rw[hw3]
 replace HV:=Hd (HV.out.later b3)
 replace HX:=Hd (HX.out.later b3)
 have HB3:=Hd (below_on HB2.out b3)
 clear HB2
 replace XV2:=Hd (XV2.out.later b3)
 rw[hgg2]at hO
 have HO:=Hd hO
 clear b3 hw3 hO
 have O_0:=HO.out.cell (i:=0) rfl
 have O_1:=HO.out.cell (i:=1) rfl
 have O_2:=HO.out.cell (i:=2) rfl
 have O_3:=HO.out.cell (i:=3) rfl
 have O_4:=HO.out.cell (i:=4) rfl
 have X_0:=HX.out.cell (i:=0) rfl
 have X_1:=HX.out.cell (i:=1) rfl
 have X_2:=HX.out.cell (i:=2) rfl
 have X_3:=HX.out.cell (i:=3) rfl
 go_wp2_with fail
 refine((show Calls Tryz.prog 25 #[.agg #[.slice K2 k2.length ck2,.slice Z2 z2.length cz2,.slice H2 h2.length ch2,.slice B2 b2.length cb2,.int .i64 r2],.agg #[.int .i64 x0,.int .i64 x1,.int .i64 x2,.slice X xv.length d]] w3 (GivesVwE nv ne w3) from by have n:=SS.out.body ⟨K2,ck2,k2,Z2,cz2,z2,H2,ch2,h2,B2,cb2,b2,r2⟩ X d ⟨x0,x1,x2,xv⟩ w3 XV2.out (HXB.out _ HB3.out);rw[HQ2.out,HNN.out]at n;exact n)).mono ?_
 rintro e w4 ⟨q3,rfl,hq3,hV3,b4⟩
 clear O_0 O_1 O_2 O_3 O_4 X_0 X_1 X_2 X_3
 replace HV:=Hd (HV.out.later b4)
 replace HX:=Hd (HX.out.later b4)
 replace HO:=Hd (HO.out.later b4)
 have HB4:=Hd (below_on HB3.out b4)
 clear HB3
 replace XV2:=Hd (XV2.out.later b4)
 clear b4
 obtain⟨K3,ck3,k3,Z3,cz3,z3,H3,ch3,h3,B3,cb3,b3,r3⟩:=q3
 have HQ3:=Hd hq3
 have XV3:=Hd hV3
 clear hq3 hV3
 unfold vwCells
 dsimp only
 obtain⟨g3,hgg3⟩:∃g3,w4.heap.size=g3:=⟨_,rfl⟩
 have lt_V_g3:g<g3:=by have:=HV.out.lt;rw[hgg3]at this;exact this
 have lt_X_g3:g+1<g3:=by have:=HX.out.lt;rw[hgg3]at this;exact this
 have lt_O_g3:g2<g3:=by have:=HO.out.lt;rw[hgg3]at this;exact this
 have le_g3:w.heap.size≤g3:=by have:=HB4.out.size;rw[hgg3]at this;exact this
 go_upto_region 5 with (fail)
 have b5:=below_new (Below.refl w4.heap.size w4) (.cells #[.slice K3 k3.length ck3,.slice Z3 z3.length cz3,.slice H3 h3.length ch3,.slice B3 b3.length cb3,.int .i64 r3] 27)
 have hP:=Blk.new w4 27 #[.slice K3 k3.length ck3,.slice Z3 z3.length cz3,.slice H3 h3.length ch3,.slice B3 b3.length cb3,.int .i64 r3]
 obtain⟨w5,hw5⟩:∃x,w4.alloc (.cells #[.slice K3 k3.length ck3,.slice Z3 z3.length cz3,.slice H3 h3.length ch3,.slice B3 b3.length cb3,.int .i64 r3] 27)=x:=⟨_,rfl⟩
 rw[hw5]at b5 hP
 rw[hw5]
 replace HV:=Hd (HV.out.later b5)
 replace HX:=Hd (HX.out.later b5)
 replace HO:=Hd (HO.out.later b5)
 have HB5:=Hd (below_on HB4.out b5)
 clear HB4
 replace XV2:=Hd (XV2.out.later b5)
 replace XV3:=Hd (XV3.out.later b5)
 rw[hgg3]at hP
 have HP:=Hd hP
 clear b5 hw5 hP
 have V_0:=HV.out.cell (i:=0) rfl
 have V_1:=HV.out.cell (i:=1) rfl
 have V_2:=HV.out.cell (i:=2) rfl
 have V_3:=HV.out.cell (i:=3) rfl
 have V_4:=HV.out.cell (i:=4) rfl
 have X_0:=HX.out.cell (i:=0) rfl
 have X_1:=HX.out.cell (i:=1) rfl
 have X_2:=HX.out.cell (i:=2) rfl
 have X_3:=HX.out.cell (i:=3) rfl
 go_wp2_with fail
 refine((show Calls Tryz.prog 26 #[.agg #[.slice K kn.length ck,.slice Z zs.length cz,.slice H hs.length ch,.slice B bs.length cb,.int .i64 room],.agg #[.int .i64 x0,.int .i64 x1,.int .i64 x2,.slice X xv.length d]] w5 (GivesVwE nv ne w5) from by have n:=vbody_any ⟨K,ck,kn,Z,cz,zs,H,ch,hs,B,cb,bs,room⟩ X d ⟨x0,x1,x2,xv⟩ w5 (HVW.out _ HB5.out) (HXB.out _ HB5.out);rw[HNN.out]at n;exact n)).mono ?_
 rintro e w6 ⟨q4,rfl,hq4,hV4,b6⟩
 clear V_0 V_1 V_2 V_3 V_4 X_0 X_1 X_2 X_3
 replace HV:=Hd (HV.out.later b6)
 replace HX:=Hd (HX.out.later b6)
 replace HO:=Hd (HO.out.later b6)
 replace HP:=Hd (HP.out.later b6)
 have HB6:=Hd (below_on HB5.out b6)
 clear HB5
 replace XV2:=Hd (XV2.out.later b6)
 replace XV3:=Hd (XV3.out.later b6)
 clear b6
 obtain⟨K4,ck4,k4,Z4,cz4,z4,H4,ch4,h4,B4,cb4,b4,r4⟩:=q4
 have HQ4:=Hd hq4
 have XV4:=Hd hV4
 clear hq4 hV4
 unfold vwCells
 dsimp only
 obtain⟨g4,hgg4⟩:∃g4,w6.heap.size=g4:=⟨_,rfl⟩
 have lt_V_g4:g<g4:=by have:=HV.out.lt;rw[hgg4]at this;exact this
 have lt_X_g4:g+1<g4:=by have:=HX.out.lt;rw[hgg4]at this;exact this
 have lt_O_g4:g2<g4:=by have:=HO.out.lt;rw[hgg4]at this;exact this
 have lt_P_g4:g3<g4:=by have:=HP.out.lt;rw[hgg4]at this;exact this
 have le_g4:w.heap.size≤g4:=by have:=HB6.out.size;rw[hgg4]at this;exact this
 go_upto_region 6 with (fail)
 have b7:=below_new (Below.refl w6.heap.size w6) (.cells #[.slice K4 k4.length ck4,.slice Z4 z4.length cz4,.slice H4 h4.length ch4,.slice B4 b4.length cb4,.int .i64 r4] 27)
 have hQ:=Blk.new w6 27 #[.slice K4 k4.length ck4,.slice Z4 z4.length cz4,.slice H4 h4.length ch4,.slice B4 b4.length cb4,.int .i64 r4]
 obtain⟨w7,hw7⟩:∃x,w6.alloc (.cells #[.slice K4 k4.length ck4,.slice Z4 z4.length cz4,.slice H4 h4.length ch4,.slice B4 b4.length cb4,.int .i64 r4] 27)=x:=⟨_,rfl⟩
 rw[hw7]at b7 hQ
 rw[hw7]
 replace HV:=Hd (HV.out.later b7)
 replace HX:=Hd (HX.out.later b7)
 replace HO:=Hd (HO.out.later b7)
 replace HP:=Hd (HP.out.later b7)
 have HB7:=Hd (below_on HB6.out b7)
 clear HB6
 replace XV2:=Hd (XV2.out.later b7)
 replace XV3:=Hd (XV3.out.later b7)
 replace XV4:=Hd (XV4.out.later b7)
 rw[hgg4]at hQ
 have HQ:=Hd hQ
 clear b7 hw7 hQ
 have O_0:=HO.out.cell (i:=0) rfl
 have O_1:=HO.out.cell (i:=1) rfl
 have O_2:=HO.out.cell (i:=2) rfl
 have O_3:=HO.out.cell (i:=3) rfl
 have O_4:=HO.out.cell (i:=4) rfl
 go_wp2_with fail
 refine((show Calls Tryz.prog 27 #[.agg #[.slice K2 k2.length ck2,.slice Z2 z2.length cz2,.slice H2 h2.length ch2,.slice B2 b2.length cb2,.int .i64 r2],.int .i64 o] w7 (GivesRd rb (a0,a1,a2,a3) re w7) from by have n:=SS.out.read ⟨K2,ck2,k2,Z2,cz2,z2,H2,ch2,h2,B2,cb2,b2,r2⟩ o w7 XV2.out;rw[HQ2.out,HRD.out]at n;exact n)).mono ?_
 rintro e w8 ⟨RA,rc,rfl,hR5,b8⟩
 clear O_0 O_1 O_2 O_3 O_4
 replace HV:=Hd (HV.out.later b8)
 replace HX:=Hd (HX.out.later b8)
 replace HO:=Hd (HO.out.later b8)
 replace HP:=Hd (HP.out.later b8)
 replace HQ:=Hd (HQ.out.later b8)
 have HB8:=Hd (below_on HB7.out b8)
 clear HB7
 replace XV2:=Hd (XV2.out.later b8)
 replace XV3:=Hd (XV3.out.later b8)
 replace XV4:=Hd (XV4.out.later b8)
 clear b8
 have XR5:=Hd hR5
 clear hR5
 unfold Nt.wrArr
 dsimp only
 obtain⟨g5,hgg5⟩:∃g5,w8.heap.size=g5:=⟨_,rfl⟩
 have lt_V_g5:g<g5:=by have:=HV.out.lt;rw[hgg5]at this;exact this
 have lt_X_g5:g+1<g5:=by have:=HX.out.lt;rw[hgg5]at this;exact this
 have lt_O_g5:g2<g5:=by have:=HO.out.lt;rw[hgg5]at this;exact this
 have lt_P_g5:g3<g5:=by have:=HP.out.lt;rw[hgg5]at this;exact this
 have lt_Q_g5:g4<g5:=by have:=HQ.out.lt;rw[hgg5]at this;exact this
 have le_g5:w.heap.size≤g5:=by have:=HB8.out.size;rw[hgg5]at this;exact this
 go_upto_region 7 with (fail)
 have b9:=below_new (Below.refl w8.heap.size w8) (.cells #[.int .i64 a0,.int .i64 a1,.int .i64 a2,.bool a3] 52)
 have hY:=Blk.new w8 52 #[.int .i64 a0,.int .i64 a1,.int .i64 a2,.bool a3]
 obtain⟨w9,hw9⟩:∃x,w8.alloc (.cells #[.int .i64 a0,.int .i64 a1,.int .i64 a2,.bool a3] 52)=x:=⟨_,rfl⟩
 rw[hw9]at b9 hY
 rw[hw9]
 replace HV:=Hd (HV.out.later b9)
 replace HX:=Hd (HX.out.later b9)
 replace HO:=Hd (HO.out.later b9)
 replace HP:=Hd (HP.out.later b9)
 replace HQ:=Hd (HQ.out.later b9)
 have HB9:=Hd (below_on HB8.out b9)
 clear HB8
 replace XV2:=Hd (XV2.out.later b9)
 replace XV3:=Hd (XV3.out.later b9)
 replace XV4:=Hd (XV4.out.later b9)
 replace XR5:=Hd (XR5.out.later b9)
 rw[hgg5]at hY
 have HY:=Hd hY
 clear b9 hw9 hY
 have V_0:=HV.out.cell (i:=0) rfl
 have V_1:=HV.out.cell (i:=1) rfl
 have V_2:=HV.out.cell (i:=2) rfl
 have V_3:=HV.out.cell (i:=3) rfl
 have V_4:=HV.out.cell (i:=4) rfl
 go_wp2_with fail
 refine((show Calls Tryz.prog 28 #[.agg #[.slice K kn.length ck,.slice Z zs.length cz,.slice H hs.length ch,.slice B bs.length cb,.int .i64 room],.int .i64 o] w9 (GivesRd rb (a0,a1,a2,a3) re w9) from by have n:=vread_any ⟨K,ck,kn,Z,cz,zs,H,ch,hs,B,cb,bs,room⟩ o w9 (HVW.out _ HB9.out);rw[HRD.out]at n;exact n)).mono ?_
 rintro e w10 ⟨RB,rd,rfl,hR6,b10⟩
 clear V_0 V_1 V_2 V_3 V_4
 replace HV:=Hd (HV.out.later b10)
 replace HX:=Hd (HX.out.later b10)
 replace HO:=Hd (HO.out.later b10)
 replace HP:=Hd (HP.out.later b10)
 replace HQ:=Hd (HQ.out.later b10)
 replace HY:=Hd (HY.out.later b10)
 have HB10:=Hd (below_on HB9.out b10)
 clear HB9
 replace XV2:=Hd (XV2.out.later b10)
 replace XV3:=Hd (XV3.out.later b10)
 replace XV4:=Hd (XV4.out.later b10)
 replace XR5:=Hd (XR5.out.later b10)
 clear b10
 have XR6:=Hd hR6
 clear hR6
 unfold Nt.wrArr
 dsimp only
 obtain⟨g6,hgg6⟩:∃g6,w10.heap.size=g6:=⟨_,rfl⟩
 have lt_V_g6:g<g6:=by have:=HV.out.lt;rw[hgg6]at this;exact this
 have lt_X_g6:g+1<g6:=by have:=HX.out.lt;rw[hgg6]at this;exact this
 have lt_O_g6:g2<g6:=by have:=HO.out.lt;rw[hgg6]at this;exact this
 have lt_P_g6:g3<g6:=by have:=HP.out.lt;rw[hgg6]at this;exact this
 have lt_Q_g6:g4<g6:=by have:=HQ.out.lt;rw[hgg6]at this;exact this
 have lt_Y_g6:g5<g6:=by have:=HY.out.lt;rw[hgg6]at this;exact this
 have le_g6:w.heap.size≤g6:=by have:=HB10.out.size;rw[hgg6]at this;exact this
 go_upto_region 8 with (fail)
 have b11:=below_new (Below.refl w10.heap.size w10) (.cells #[.int .i64 a0,.int .i64 a1,.int .i64 a2,.bool a3] 52)
 have hU:=Blk.new w10 52 #[.int .i64 a0,.int .i64 a1,.int .i64 a2,.bool a3]
 obtain⟨w11,hw11⟩:∃x,w10.alloc (.cells #[.int .i64 a0,.int .i64 a1,.int .i64 a2,.bool a3] 52)=x:=⟨_,rfl⟩
 rw[hw11]at b11 hU
 rw[hw11]
 replace HV:=Hd (HV.out.later b11)
 replace HX:=Hd (HX.out.later b11)
 replace HO:=Hd (HO.out.later b11)
 replace HP:=Hd (HP.out.later b11)
 replace HQ:=Hd (HQ.out.later b11)
 replace HY:=Hd (HY.out.later b11)
 have HB11:=Hd (below_on HB10.out b11)
 clear HB10
 replace XV2:=Hd (XV2.out.later b11)
 replace XV3:=Hd (XV3.out.later b11)
 replace XV4:=Hd (XV4.out.later b11)
 replace XR5:=Hd (XR5.out.later b11)
 replace XR6:=Hd (XR6.out.later b11)
 rw[hgg6]at hU
 have HU:=Hd hU
 clear b11 hw11 hU
 have XV1:=Hd (HVW.out _ HB11.out)
 have P_0:=HP.out.cell (i:=0) rfl
 have P_1:=HP.out.cell (i:=1) rfl
 have P_2:=HP.out.cell (i:=2) rfl
 have P_3:=HP.out.cell (i:=3) rfl
 have P_4:=HP.out.cell (i:=4) rfl
 have Q_0:=HQ.out.cell (i:=0) rfl
 have Q_1:=HQ.out.cell (i:=1) rfl
 have Q_2:=HQ.out.cell (i:=2) rfl
 have Q_3:=HQ.out.cell (i:=3) rfl
 have Q_4:=HQ.out.cell (i:=4) rfl
 go_wp2_with fail
 refine((show Calls Tryz.prog 17 #[.agg #[.slice K3 k3.length ck3,.slice Z3 z3.length cz3,.slice H3 h3.length ch3,.slice B3 b3.length cb3,.int .i64 r3],.agg #[.slice K4 k4.length ck4,.slice Z4 z4.length cz4,.slice H4 h4.length ch4,.slice B4 b4.length cb4,.int .i64 r4]] w11 (Says (.bool true) w11) from by have n:=vsame_any ⟨K3,ck3,k3,Z3,cz3,z3,H3,ch3,h3,B3,cb3,b3,r3⟩ ⟨K4,ck4,k4,Z4,cz4,z4,H4,ch4,h4,B4,cb4,b4,r4⟩ w11 XV3.out XV4.out;rw[HQ3.out,HQ4.out,decide_eq_true rfl]at n;exact n)).mono ?_
 rintro e w12 ⟨rfl,b12⟩
 clear P_0 P_1 P_2 P_3 P_4 Q_0 Q_1 Q_2 Q_3 Q_4
 replace HV:=Hd (HV.out.later b12)
 replace HX:=Hd (HX.out.later b12)
 replace HO:=Hd (HO.out.later b12)
 replace HP:=Hd (HP.out.later b12)
 replace HQ:=Hd (HQ.out.later b12)
 replace HY:=Hd (HY.out.later b12)
 replace HU:=Hd (HU.out.later b12)
 have HB12:=Hd (below_on HB11.out b12)
 clear HB11
 replace XV2:=Hd (XV2.out.later b12)
 replace XV3:=Hd (XV3.out.later b12)
 replace XV4:=Hd (XV4.out.later b12)
 replace XR5:=Hd (XR5.out.later b12)
 replace XR6:=Hd (XR6.out.later b12)
 replace XV1:=Hd (XV1.out.later b12)
 clear b12
 go_wp2_with fail
 refine((show Calls Tryz.prog 29 #[.slice RA rb.length rc,.slice RB rb.length rd] w12 (Says (.bool true) w12) from by have n:=bsame_any RA RB rc rd rb rb w12 XR5.out XR6.out;rw[decide_eq_true rfl]at n;exact n)).mono ?_
 rintro e w13 ⟨rfl,b13⟩
 replace HV:=Hd (HV.out.later b13)
 replace HX:=Hd (HX.out.later b13)
 replace HO:=Hd (HO.out.later b13)
 replace HP:=Hd (HP.out.later b13)
 replace HQ:=Hd (HQ.out.later b13)
 replace HY:=Hd (HY.out.later b13)
 replace HU:=Hd (HU.out.later b13)
 have HB13:=Hd (below_on HB12.out b13)
 clear HB12
 replace XV2:=Hd (XV2.out.later b13)
 replace XV3:=Hd (XV3.out.later b13)
 replace XV4:=Hd (XV4.out.later b13)
 replace XR5:=Hd (XR5.out.later b13)
 replace XR6:=Hd (XR6.out.later b13)
 replace XV1:=Hd (XV1.out.later b13)
 clear b13
 have Y_0:=HY.out.cell (i:=0) rfl
 have Y_1:=HY.out.cell (i:=1) rfl
 have Y_2:=HY.out.cell (i:=2) rfl
 have Y_3:=HY.out.cell (i:=3) rfl
 have U_0:=HU.out.cell (i:=0) rfl
 have U_1:=HU.out.cell (i:=1) rfl
 have U_2:=HU.out.cell (i:=2) rfl
 have U_3:=HU.out.cell (i:=3) rfl
 have O_0:=HO.out.cell (i:=0) rfl
 have O_1:=HO.out.cell (i:=1) rfl
 have O_2:=HO.out.cell (i:=2) rfl
 have O_3:=HO.out.cell (i:=3) rfl
 have O_4:=HO.out.cell (i:=4) rfl
 have V_0:=HV.out.cell (i:=0) rfl
 have V_1:=HV.out.cell (i:=1) rfl
 have V_2:=HV.out.cell (i:=2) rfl
 have V_3:=HV.out.cell (i:=3) rfl
 have V_4:=HV.out.cell (i:=4) rfl
 go_wp2_with fail
 refine((show Calls Tryz.prog 17 #[.agg #[.slice K2 k2.length ck2,.slice Z2 z2.length cz2,.slice H2 h2.length ch2,.slice B2 b2.length cb2,.int .i64 r2],.agg #[.slice K kn.length ck,.slice Z zs.length cz,.slice H hs.length ch,.slice B bs.length cb,.int .i64 room]] w13 (Says (.bool true) w13) from by have n:=vsame_any ⟨K2,ck2,k2,Z2,cz2,z2,H2,ch2,h2,B2,cb2,b2,r2⟩ ⟨K,ck,kn,Z,cz,zs,H,ch,hs,B,cb,bs,room⟩ w13 XV2.out XV1.out;rw[HQ2.out,decide_eq_true rfl]at n;exact n)).mono ?_
 rintro e w14 ⟨rfl,b14⟩
 clear Y_0 Y_1 Y_2 Y_3 U_0 U_1 U_2 U_3 O_0 O_1 O_2 O_3 O_4 V_0 V_1 V_2 V_3 V_4
 replace HV:=Hd (HV.out.later b14)
 replace HX:=Hd (HX.out.later b14)
 replace HO:=Hd (HO.out.later b14)
 replace HP:=Hd (HP.out.later b14)
 replace HQ:=Hd (HQ.out.later b14)
 replace HY:=Hd (HY.out.later b14)
 replace HU:=Hd (HU.out.later b14)
 have HB14:=Hd (below_on HB13.out b14)
 clear HB13
 replace XV2:=Hd (XV2.out.later b14)
 replace XV3:=Hd (XV3.out.later b14)
 replace XV4:=Hd (XV4.out.later b14)
 replace XR5:=Hd (XR5.out.later b14)
 replace XR6:=Hd (XR6.out.later b14)
 replace XV1:=Hd (XV1.out.later b14)
 clear b14
 by_cases c0:ne=0
 ·
  subst c0
  have P_0:=HP.out.cell (i:=0) rfl
  have P_1:=HP.out.cell (i:=1) rfl
  have P_2:=HP.out.cell (i:=2) rfl
  have P_3:=HP.out.cell (i:=3) rfl
  have P_4:=HP.out.cell (i:=4) rfl
  go_wp2_with fail
  refine((show Calls Tryz.prog 15 #[.agg #[.slice K3 k3.length ck3,.slice Z3 z3.length cz3,.slice H3 h3.length ch3,.slice B3 b3.length cb3,.int .i64 r3]] w14 (Says (.bool true) w14) from by have n:=SS.out.formed ⟨K3,ck3,k3,Z3,cz3,z3,H3,ch3,h3,B3,cb3,b3,r3⟩ w14 XV3.out;rw[HQ3.out,HOK.out (by first|rfl|trivial)]at n;exact n)).mono ?_
  rintro e w15 ⟨rfl,b15⟩
  clear P_0 P_1 P_2 P_3 P_4
  replace HV:=Hd (HV.out.later b15)
  replace HX:=Hd (HX.out.later b15)
  replace HO:=Hd (HO.out.later b15)
  replace HP:=Hd (HP.out.later b15)
  replace HQ:=Hd (HQ.out.later b15)
  replace HY:=Hd (HY.out.later b15)
  replace HU:=Hd (HU.out.later b15)
  have HB15:=Hd (below_on HB14.out b15)
  clear HB14
  replace XV2:=Hd (XV2.out.later b15)
  replace XV3:=Hd (XV3.out.later b15)
  replace XV4:=Hd (XV4.out.later b15)
  replace XR5:=Hd (XR5.out.later b15)
  replace XR6:=Hd (XR6.out.later b15)
  clear b15
  have HZ:=Hd HB15.out
  go_wp2
  go_ret
  exact⟨rfl,HZ.out⟩
 ·
  have d0:(ne != 0)=true:=by rw[bne_iff_ne];exact c0
  have HZ:=Hd HB14.out
  go_wp2
  go_ret
  exact⟨rfl,HZ.out⟩
end Go.Proofs.YtjlfehpockfkdaaGreat
namespace Go.Proofs.YtjlfehpockfkdaaGreat.viewBodies
open Go.ChangeShapes Go.WideShapes Go.ChangeAt Go.RowKit
theorem cellsStamp:Tryz.prog.cellsOf 46=2:=by kernel_rfl
theorem bytesStamp:Tryz.prog.bytesOf 46=16:=by kernel_rfl
theorem cellsSpan:Tryz.prog.cellsOf 97=2:=by kernel_rfl
theorem bytesSpan:Tryz.prog.bytesOf 97=16:=by kernel_rfl
theorem cellsWrite:Tryz.prog.cellsOf 52=4:=by kernel_rfl
theorem bytesWrite:Tryz.prog.bytesOf 52=32:=by kernel_rfl
theorem own:ownKnob Tryz.prog.godebug=none:=by kernel_rfl
theorem laidOut:laidOutB Tryz.prog=true:=by kernel_rfl
theorem reads:∀t∈Tryz.f5.params.toList,Tryz.prog.readableRec t=true∧t<Tryz.prog.types.size:=by
 intro t ht
 rw[Tryz.params5]at ht
 have:t=27∨t=49∨t=3:=by simpa using ht
 rcases this with rfl|rfl|rfl<;>exact⟨by kernel_rfl,of_decide_eq_true (by kernel_rfl)⟩
set_option maxRecDepth 100000 in
theorem lifted(os:Os)(started:os.Started)(H:Type)(enc:TypeId × Value→H) :
  ReturnsInHanded {} Tryz.checked os 5 .any (Rows.viewBodiesSpec.pre6 enc Tryz.prog Tryz.f5 Rows.viewBodiesRow.domain false) (Rows.viewBodiesSpec.post enc Tryz.prog Tryz.f5 false true false false):=by
 refine returnsInHanded_of_change_sized (C:=Tryz.checked) own started (by kernel_rfl) Tryz.func5
  (ChangeSpec.witness6 (enc:=enc) (C:=Tryz.checked) false ⟨#[],#[.agg #[.slice none 0 0,.slice none 0 0,.slice none 0 0,.slice none 0 0,.int .i64 0],.agg #[.int .i64 0,.int .i64 0,.int .i64 0,.slice none 0 0],.int .i64 0],[]⟩ 8 (by kernel_rfl) (by kernel_rfl) (by kernel_rfl) (by kernel_rfl)) ?_
 intro W base args ds gs before hval0 hW _ hsz0 _
 have hval:∀(j:Nat) t v,Tryz.f5.params[j]?=some t→args[j]?=some v→Value.okWide Tryz.prog W .any base t v:=hval0
 have hsz:(DataW.weightsEach Tryz.prog (Tryz.f5.params.toList++Rows.viewBodiesSpec.plain.varTypes Tryz.prog) (ds++gs)).all (· ≤ reachBytes)=true:=hsz0
 have hW':=hW
 obtain⟨p,q,hA0,hV,rfl,hfz,hnd⟩:=hW
 have hA:DataW.TrodAll enc Tryz.prog W 0 (fun _=>true) true Tryz.f5.params.toList args.toList ds p:=hA0
 rw[Tryz.params5]at hA hval hsz
 obtain⟨v0,vs0,d0,ds0,p0,q0,hargs,rfl,rfl,h0,r0⟩:=trodAll_cons hA
 obtain⟨v1,vs1,d1,ds1,p1,q1,rfl,rfl,rfl,h1,r1⟩:=trodAll_cons r0
 obtain⟨v2,vs2,d2,ds2,p2,q2,rfl,rfl,rfl,h2,r2⟩:=trodAll_cons r1
 obtain⟨rfl,rfl,rfl⟩:=trodAll_nil r2
 obtain rfl:args=#[v0,v1,v2]:=by cases args;simp_all
 obtain⟨rfl,rfl⟩:=trodVars_none hV
 obtain⟨q0,rfl,o0,g0⟩:=open_view (hval 0 27 v0 rfl rfl) h0
 have z0:=fit_view hsz (j:=0) rfl rfl g0
 obtain⟨X1,cap1,y1,rfl,o1,g1⟩:=open_one_body (hval 1 49 v1 rfl rfl) h1
 obtain⟨a2,rfl,rfl,rfl,w2⟩:=open_int Tryz.underlying3 (hval 2 3 v2 rfl rfl) h2
 clear hA0 hval0 hsz hsz0
 refine(lawVBodies_any viewSpec q0 X1 cap1 y1 a2 W o0 z0 o1).mono fun e W' ⟨he,hg⟩ =>?_
 subst he
 exact⟨_,rfl,law_post laidOut hW' rfl rfl (by kernel_rfl) Tryz.underlying4 reads hg⟩
theorem over:Rows.viewBodiesRow.holds Tryz.pinned (OpenSpec.ofChange Rows.viewBodiesSpec):=
 OpenClaim.holds_of_wide 5 Tryz.f5 rfl rfl rfl rfl rfl rfl rfl ⟨rfl,rfl,rfl,rfl,rfl⟩ rfl rfl rfl rfl rfl (by kernel_rfl) Tryz.func5 (by kernel_rfl)
  (of_decide_eq_true (by kernel_rfl)) (by unfold Func.isWrapper;first|(rw[if_pos (by decide +kernel)];kernel_rfl)|(rw[if_neg (by decide +kernel)];exact⟨rfl,rfl⟩))
  (fun os started H enc _=>lifted os started H enc)
theorem proved:Rows.ViewBodiesSaid:=
 over
end Go.Proofs.YtjlfehpockfkdaaGreat.viewBodies
