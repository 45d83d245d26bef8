/-
  For any view and any note, the law ViewTakes returns true and leaves its arguments as they were. No condition.
-/
import Derived.Test.YtjlfehpockfkdaaGreatB01
import Derived.ProofKit
import Derived.Below
import Derived.WideKeyArgs
import Derived.OpenShut
import Derived.Lib.SmallJoins
import Derived.Deep.Slices
import Derived.SizedLaws
import Derived.Test.YtjlfehpockfkdaaGreatRows
import Derived.WalkKit
import Derived.Test.YtjlfehpockfkdaaGreatSViewTakesA
import Derived.Lib.SlBytesConst
import Derived.Test.YtjlfehpockfkdaaGreatSViewTakesC
import Derived.Test.YtjlfehpockfkdaaGreatB07
set_option maxRecDepth 100000
set_option maxHeartbeats 102400000
namespace Go.Proofs.YtjlfehpockfkdaaGreat
open Go.ChangeShapes Go.WideShapes Go.RowKit
section
variable {H:Type} {enc:TypeId × Value→H} {P:Program}
theorem args_stay(hl:laidOutB P=true){W W':World}{sp:Nat→Bool}(hb:Below W.heap.size W W') :
  ∀{ts:List TypeId} {vs:List Value} {ds:List (DataW H)} {ps:List MemPlace},(∀t∈ts,P.readableRec t=true∧t<P.types.size) →
   DataW.TrodAll enc P W 0 (fun _=>true) true ts vs ds ps→(∀x∈ps,x.block<W.heap.size)→(∀x∈ps,sp x.block=true) →
   DataW.TrodAll enc P W' 0 sp true ts vs ds ps
 | [],_,_,_,_,h,_,_=>by
  obtain⟨rfl,rfl,rfl⟩:=trodAll_nil h;exact trodAll_mk0
 |t::ts,_,_,_,ht,h,hlt,hsp=>by
  obtain⟨v,vs1,d,ds1,a,b,rfl,rfl,rfl,h1,h2⟩:=trodAll_cons h;have htt:=ht t (List.mem_cons_self ..);refine⟨a,b,?_,?_,rfl⟩
  ·exact WideElems.Trod_stays hl htt.1 htt.2 h1 (fun x hx=>hb.same (hlt x (List.mem_append_left _ hx))) (fun x hx=>hsp x (List.mem_append_left _ hx))
  ·exact args_stay hl hb (fun t' h'=>ht t' (List.mem_cons_of_mem _ h')) h2 (fun x hx=>hlt x (List.mem_append_right _ hx)) (fun x hx=>hsp x (List.mem_append_right _ hx))
theorem law_post(hl:laidOutB P=true){f:Func}{s:ChangeSpec}{W W':World}{args:Array Value}{ds gs:List (DataW H)}{before:List MemPlace}{tb:TypeId}
  (hW:DataW.Whole enc P f.params.toList s.vars false W args.toList ds gs before)
  (hvars:s.vars=[])(hfn:s.fn H (ds++gs)={ results:=[.lit (.bool true)],args:=ds })
  (hres:f.resultTypes=#[tb])(htb:P.underlying tb=some .bool)
  (hts:∀t∈f.params.toList,P.readableRec t=true∧t<P.types.size)(hb:Below W.heap.size W W') :
  s.post enc P f false true false false W args (.bool true) W':=by
 have hlt:∀x∈before,x.block<W.heap.size:=fun x hx=>hW.lt x hx
 have hW0:=hW;obtain⟨p,q,hA,hV,hpq,_,_⟩:=hW0;rw[hvars]at hV;obtain⟨rfl,rfl⟩:=trodVars_none hV;obtain rfl:before=p:=by rw[hpq,List.append_nil]
 refine⟨ds,[],before,[],before,[],hW,?_,?_,?_,?_,fun h=>by cases h⟩
 ·rw[hfn,hres]
  exact trodAll_mk1 (shut_bool htb _)
 ·rw[hfn]
  exact args_stay hl hb hts hA hlt (fun x hx=>by simpa using hlt x hx)
 ·rw[hvars,hfn]
  rfl
 ·exact World.keptBut_mono (fun x hx=>hx.elim) (hb.frame (fun _=>False))
theorem stamp_cells{w:World}{base:Nat}{spare:Nat→Bool}{held:Bool}{fuel:Nat}{t ti:TypeId}{f0 f1:Field}{cs:List Value}{x:DataW H × List MemPlace}
  (hs:P.underlying t=some (.struct #[f0,f1]))(hone:Deep.oneCellFields P #[f0,f1]=true)(hC:P.cellsOf t=2)(hi0:f0.type=ti)(hi1:f1.type=ti)(hi:P.underlying ti=some (.int .i64))
  (h:DataW.trod enc P w base spare held fuel t cs=some x) :
  ∃c n:Int,cs=[.int .i64 c,.int .i64 n]∧x.2=[] ∧ -9223372036854775808≤c∧c≤9223372036854775807 ∧ -9223372036854775808≤n∧n≤9223372036854775807:=by
 obtain⟨y0,y1,m,rfl,hl,hy0,hy1⟩:=trod_struct2 hs h;obtain⟨o0,k0⟩:=Deep.hone_of hone 0 f0 rfl;obtain⟨o1,k1⟩:=Deep.hone_of hone 1 f1 rfl;rw[hC]at hl
 obtain⟨a0,a1,rfl⟩:∃a0 a1,cs=[a0,a1]:=by
  match cs,hl with
  | [a0,a1],_=>exact⟨a0,a1,rfl⟩
 rw[o0,k0,hi0]at hy0;rw[o1,k1,hi1]at hy1;obtain⟨a,e0,rfl,wa⟩:=DataW.trod_int hi hy0;obtain⟨b,e1,rfl,wb⟩:=DataW.trod_int hi hy1;simp at e0 e1;subst e0 e1;exact⟨a,b,rfl,rfl,(bounds_i64 wa).1,(bounds_i64 wa).2,(bounds_i64 wb).1,(bounds_i64 wb).2⟩
end
end Go.Proofs.YtjlfehpockfkdaaGreat
namespace Go.Proofs.YtjlfehpockfkdaaGreat
open Go.ChangeShapes Go.WideShapes Go.RowKit Go.Deep
theorem pick{α:Type}(z:α){n:Nat}{p:Nat→α→Prop}(h:∀i,i<n→∃s,p i s):∃f:Nat→α,∀i,i<n→p i (f i):=by
 refine⟨fun i=>if hi:i<n then Classical.choose (h i hi) else z,fun i hi =>?_⟩
 simp only[hi,dite_true];exact Classical.choose_spec (h i hi)
theorem flat_get{α:Type}{size:Nat}(f:α→List Value)(hf:∀a,(f a).length=size):∀(l:List α) (j:Nat) (u:Value),(l.flatMap f)[j]?=some u →
  ∃i r a,l[i]?=some a∧r<size∧j=i*size+r∧(f a)[r]?=some u
 | [],j,u,h=>by simp at h
 |a::l,j,u,h=>by
  rw[List.flatMap_cons]at h
  by_cases hj:j<size
  ·rw[List.getElem?_append_left (by rw[hf];exact hj)]at h
   exact⟨0,j,a,rfl,hj,by omega,h⟩
  ·rw[List.getElem?_append_right (by rw[hf];omega),hf]at h
   obtain⟨i,r,b,h1,h2,h3,h4⟩:=flat_get f hf l (j-size) u h;refine⟨i+1,r,b,by simpa using h1,h2,?_,h4⟩
   rw[Nat.add_mul];omega
section
variable {H:Type} {enc:TypeId × Value→H} {P:Program} {w:World}
def stCell(s:Int × Int):List Value:=[.int .i64 s.1,.int .i64 s.2]
theorem stCells_flat(l:List (Int × Int)):l.flatMap stCell=stCells l:=by
 induction l with
 |nil=>rfl
 |cons s r ih=>simp[stCells,stCell,ih]
end
set_option maxRecDepth 100000
theorem list3{cs:List Value}(h:cs.length=3):∃a0 a1 a2,cs=[a0,a1,a2]:=by
 match cs,h with
 | [a0,a1,a2],_=>exact⟨a0,a1,a2,rfl⟩
theorem list2{cs:List Value}(h:cs.length=2):∃a0 a1,cs=[a0,a1]:=by
 match cs,h with
 | [a0,a1],_=>exact⟨a0,a1,rfl⟩
section
variable {H:Type} {enc:TypeId × Value→H} {w:World}
def LenG(d:DataW H)(k:Nat):Prop:=k=0∨∃elems spare,d = .slice elems spare∧elems.length=k
theorem open_list_with{P:Program}{α:Type}(z:α)(f:α→List Value)(good:α→DataW H→Prop){size:Nat}(hf:∀a,(f a).length=size){t e:TypeId}{fuel0:Nat}{cs0:List Value}{y:DataW H × List MemPlace}
  (ht:P.underlying t=some (.slice e))(hC:P.cellsOf e=size)(hsz:0<size)
  (helem:∀(fuel:Nat) (cs:List Value) (x:DataW H × List MemPlace),DataW.trod enc P w 0 (fun _=>true) true fuel e cs=some x→∃a,cs=f a∧good a x.1)
  (hfu:DataW.trod enc P w 0 (fun _=>true) true fuel0 t cs0=some y) :
  ∃(A:Option Addr) (cap:Nat) (l:List α),cs0=[.slice A l.length cap]∧l.length≤cap∧cap≤maxLen∧(A=none→l.length=0∧cap=0)∧Lies w A (l.flatMap f) ∧
   (l=[]∨∃elems spare,y.1 = .slice elems spare∧elems.length=l.length∧∀a∈l,∃d∈elems,good a d):=by
 rcases open_slice ht hfu with ⟨hcs,hx⟩|⟨a,len,cap,m,n,D,Pl,hcs,_,hl,hm,hmm,hx,hi⟩
 ·subst hcs hx
  exact⟨none,0,[],rfl,Nat.le_refl _,Nat.zero_le _,fun _=>⟨rfl,rfl⟩,Lies.nil,.inl rfl⟩
 ·simp at hmm
  subst hmm
  obtain⟨g,hg⟩:=pick (n:=len) (p:=fun i s=>good s (D i)∧∀j,j<size→w.cell? (a.add (i*size+j))=(f s)[j]?) z (fun i hi'=>by
   obtain⟨cs',hc,ht'⟩:=hi i (by omega)
   rw[hC]at hc;obtain⟨s,rfl,hs⟩:=helem _ _ _ ht';obtain⟨_,_,hcell⟩:=World.cells?_some hc;refine⟨s,hs,fun j hj =>?_⟩
   rw[←hcell j hj,Go.Deep.add_add])
  refine⟨some a,m,(List.range len).map g,by simpa using hcs,by simpa using hl,hm,(fun h=>by cases h),(fun hne =>?_),.inr ⟨_,_,by rw[hx],by simp,fun s hs =>?_⟩⟩
  ·have hpos:0<len:=by
    rcases Nat.eq_zero_or_pos len with h0|h0
    ·subst h0;simp at hne
    ·exact h0
   obtain⟨b,off,spot⟩:=a;have h00:=(hg 0 hpos).2 0 hsz
   have hspot:spot=none:=by
    have hlen:=hf (g 0);rw[List.getElem?_eq_getElem (by omega)]at h00
    simpa[Addr.add] using World.cell?_spot h00
   subst hspot;refine⟨b,off,rfl,fun j u hu =>?_⟩
   obtain⟨i,r,s,h1,h2,h3,h4⟩:=flat_get f hf _ j u hu
   have hil:i<len:=by
    have:=(List.getElem?_eq_some_iff.1 h1).1
    simpa using this
   simp[hil]at h1;subst h1;rw[←Go.WideShapes.add_plain,h3,(hg i hil).2 r h2];exact h4
  ·simp at hs
   obtain⟨i,hil,rfl⟩:=hs;exact⟨D i,List.mem_map.2 ⟨i,List.mem_range.2 hil,rfl⟩,(hg i hil).1⟩
theorem dk_weightsAll(P:Program)(e:TypeId):∀l:List (DataW H),DataW.weightsAll P e l=l.flatMap (DataW.weights P e)
 | []=>rfl
 |d::r=>by rw[List.flatMap_cons,←dk_weightsAll P e r];rfl
end
end Go.Proofs.YtjlfehpockfkdaaGreat
namespace Go.Proofs.YtjlfehpockfkdaaGreat
open Go.ChangeShapes Go.WideShapes Go.RowKit Go.Deep
set_option maxRecDepth 100000
section
variable {H:Type} {enc:TypeId × Value→H} {w:World}
theorem znInt:Tryz.prog.cellsOf 3=1:=by kernel_rfl
theorem znSt:Tryz.prog.cellsOf 46=2:=by kernel_rfl
theorem znSp:Tryz.prog.cellsOf 97=2:=by kernel_rfl
theorem znLS:Tryz.prog.cellsOf 22=1:=by kernel_rfl
theorem znZn:Tryz.prog.cellsOf 99=3:=by kernel_rfl
theorem znLZ:Tryz.prog.cellsOf 23=1:=by kernel_rfl
theorem znBytesS:Tryz.prog.bytesOf 46=16:=by kernel_rfl
theorem znBytesZ:Tryz.prog.bytesOf 99=40:=by kernel_rfl
theorem zn_stampE(fuel:Nat)(cs:List Value)(x:DataW H × List MemPlace)(h:DataW.trod enc Tryz.prog w 0 (fun _=>true) true fuel 46 cs=some x):∃a:Int × Int,cs=stCells [a]:=by
 obtain⟨y0,y1,m,hx,hl,q0,q1⟩:=trod_struct2 Tryz.underlying46 h;rw[znSt]at hl;obtain⟨a0,a1,rfl⟩:=list2 hl;dsimp only at q0 q1;rw[znInt]at q0 q1;obtain⟨n,e0,_,_⟩:=DataW.trod_int Tryz.underlying3 q0;obtain⟨s,e1,_,_⟩:=DataW.trod_int Tryz.underlying3 q1;simp at e0 e1;subst e0 e1;exact⟨(n,s),rfl⟩
theorem zn_flat(l:List (Int × Int)):l.flatMap (fun n=>stCells [n])=stCells l:=by
 induction l with
 |nil=>rfl
 |cons s r ih=>
  rw[List.flatMap_cons,ih];rfl
theorem zn_vecE{fuel:Nat}{cs:List Value}{x:DataW H × List MemPlace}(h:DataW.trod enc Tryz.prog w 0 (fun _=>true) true fuel 22 cs=some x):∃A c l,cs=[.slice A (List.length l) c]∧OneL w A c l∧LenG x.1 l.length:=by
 obtain⟨A,c,l,h1,h2,h3,h4,h5,h6⟩:=open_list_with ((0,0):Int × Int) (fun n=>stCells [n]) (fun _ _=>True) (size:=2) (fun _=>rfl) Tryz.underlying22 znSt (by decide) (fun fuel cs x h=>(zn_stampE fuel cs x h).imp fun _ h=>⟨h,trivial⟩) h
 rw[zn_flat]at h5;refine⟨A,c,l,h1,⟨h2,h3,h4,h5⟩,?_⟩;rcases h6 with rfl|⟨el,sp,h7,h8,_⟩
 ·exact .inl rfl
 ·exact .inr ⟨el,sp,h7,h8⟩
def ZoneG(w:World)(z:Zc)(d:DataW H):Prop:=OneL w z.X z.c z.l∧∃d0 d1,d = .agg [d0,d1]∧LenG d1 z.l.length
def Zc.zero:Zc:=⟨0,0,Option.none,0,[]⟩
theorem zn_zoneE(fuel:Nat)(cs:List Value)(x:DataW H × List MemPlace)(h:DataW.trod enc Tryz.prog w 0 (fun _=>true) true fuel 99 cs=some x):∃z:Zc,cs=zCells [z]∧ZoneG w z x.1:=by
 obtain⟨y0,y1,m,hx,hl,q0,q1⟩:=trod_struct2 Tryz.underlying99 h;rw[znZn]at hl;obtain⟨a0,a1,a2,rfl⟩:=list3 hl;dsimp only at q0 q1;rw[znSp]at q0;rw[znLS]at q1;obtain⟨z0,z1,m2,hx2,hl2,r0,r1⟩:=trod_struct2 Tryz.underlying97 q0;dsimp only at r0 r1;rw[znInt]at r0 r1;obtain⟨n,e0,_,_⟩:=DataW.trod_int Tryz.underlying3 r0;obtain⟨s,e1,_,_⟩:=DataW.trod_int Tryz.underlying3 r1;obtain⟨X,c,l,e2,o1,g1⟩:=zn_vecE q1;simp at e0 e1 e2;subst e0 e1 e2;exact⟨⟨n,s,X,c,l⟩,rfl,o1,_,_,congrArg Prod.fst hx,g1⟩
theorem zCells_flat(l:List Zc):l.flatMap (fun f=>zCells [f])=zCells l:=by
 induction l with
 |nil=>rfl
 |cons s r ih=>
  rw[List.flatMap_cons,ih];rfl
theorem fit_zones{ts:List TypeId}{ds:List (DataW H)}(h:(DataW.weightsEach Tryz.prog ts ds).all (· ≤ reachBytes)=true){j:Nat}{d:DataW H}{L:List Zc}(ht:ts[j]?=some 23)(hd:ds[j]?=some d)
  (h6:L=[]∨∃elems spare,d = .slice elems spare∧elems.length=L.length∧∀f∈L,∃x∈elems,ZoneG w f x):L.length*40≤140737488355328∧∀z∈L,z.l.length*16≤140737488355328:=by
 rcases h6 with rfl|⟨elems,spare,rfl,hl,h7⟩
 ·exact⟨by simp,fun _ h=>by cases h⟩
 ·have top:∀k,k∈DataW.weights Tryz.prog 23 (.slice elems spare)→k≤reachBytes:=fun k hk=>by
   simpa using List.all_eq_true.1 h _ (DataW.weights_mem_each ht hd _ hk)
  refine⟨?_,fun f hf =>?_⟩
  ·have h1:=top ((elems.length+spare.length)*Tryz.prog.bytesOf 99) (by unfold DataW.weights;rw[Tryz.underlying23];exact List.mem_cons_self ..)
   rw[znBytesZ]at h1;simp only[reachBytes]at h1;omega
  ·obtain⟨x,hx,-,q0,q1,rfl,z⟩:=h7 f hf
   rcases z with z|⟨el,sp,rfl,z⟩
   ·omega
   ·have h1:=top ((el.length+sp.length)*Tryz.prog.bytesOf 46) (by
     unfold DataW.weights;rw[Tryz.underlying23];refine List.mem_cons_of_mem _ (List.mem_append_left _ ?_);rw[dk_weightsAll];refine List.mem_flatMap.2 ⟨_,hx,?_⟩;unfold DataW.weights;rw[Tryz.underlying99];refine DataW.weights_mem_each (j:=1) rfl rfl _ ?_;unfold DataW.weights;rw[Tryz.underlying22];exact List.mem_cons_self ..)
    rw[znBytesS]at h1;simp only[reachBytes]at h1;omega
end
end Go.Proofs.YtjlfehpockfkdaaGreat
namespace Go.Proofs.YtjlfehpockfkdaaGreat
open Go.ChangeShapes Go.WideShapes Go.RowKit Go.Deep
set_option maxRecDepth 100000
theorem ca_list4{cs:List Value}(h:cs.length=4):∃a0 a1 a2 a3,cs=[a0,a1,a2,a3]:=by
 match cs,h with
 | [a0,a1,a2,a3],_=>exact⟨a0,a1,a2,a3,rfl⟩
section
variable {H:Type} {enc:TypeId × Value→H} {w:World}
theorem caInt:Tryz.prog.cellsOf 3=1:=by kernel_rfl
theorem caB:Tryz.prog.cellsOf 5=1:=by kernel_rfl
theorem caLB:Tryz.prog.cellsOf 47=1:=by kernel_rfl
theorem caSt:Tryz.prog.cellsOf 46=2:=by kernel_rfl
theorem caBd:Tryz.prog.cellsOf 49=4:=by kernel_rfl
theorem caBytesB:Tryz.prog.bytesOf 5=1:=by kernel_rfl
theorem caBytesBd:Tryz.prog.bytesOf 49=48:=by kernel_rfl
theorem ca_byteE(fuel:Nat)(cs:List Value)(x:DataW H × List MemPlace)(h:DataW.trod enc Tryz.prog w 0 (fun _=>true) true fuel 5 cs=some x):∃a:Int,cs=[.int .u8 a]∧isB a:=by
 obtain⟨a,e0,rfl,wa⟩:=DataW.trod_int Tryz.underlying5 h;refine⟨a,e0,?_⟩;have hb:IntKind.u8.min≤a∧a≤IntKind.u8.max:=by simpa[Lit.wf] using wa
 have e1:IntKind.u8.min=0:=by decide
 have e2:IntKind.u8.max=255:=by decide
 rw[e1,e2]at hb;exact⟨hb.1,by omega⟩
theorem ca_flat(l:List Int):l.flatMap (fun n=>[Value.int .u8 n])=bCells l:=by
 induction l with
 |nil=>rfl
 |cons s r ih=>
  rw[List.flatMap_cons,ih];rfl
theorem ca_bytesE{fuel:Nat}{cs:List Value}{x:DataW H × List MemPlace}(h:DataW.trod enc Tryz.prog w 0 (fun _=>true) true fuel 47 cs=some x):∃A c l,cs=[.slice A (List.length l) c]∧OneB w A c l∧LenG x.1 l.length:=by
 obtain⟨A,c,l,h1,h2,h3,h4,h5,h6⟩:=open_list_with (0:Int) (fun n=>[Value.int .u8 n]) (fun a _=>isB a) (size:=1) (fun _=>rfl) Tryz.underlying47 caB (by decide) (fun fuel cs x h=>ca_byteE fuel cs x h) h
 rw[ca_flat]at h5;refine⟨A,c,l,h1,⟨h2,h3,h4,h5,fun x hx =>?_⟩,?_⟩
 ·rcases h6 with rfl|⟨_,_,_,_,h7⟩
  ·cases hx
  ·obtain⟨_,_,h8⟩:=h7 x hx
   exact h8
 ·rcases h6 with rfl|⟨el,sp,h7,h8,_⟩
  ·exact .inl rfl
  ·exact .inr ⟨el,sp,h7,h8⟩
def BodyG(w:World)(f:Bc)(d:DataW H):Prop:=OneB w f.X f.d f.b.v∧∃d0 d1 d2,d = .agg [d0,d1,d2]∧LenG d2 f.b.v.length
theorem ca_bodyE(fuel:Nat)(cs:List Value)(x:DataW H × List MemPlace)(h:DataW.trod enc Tryz.prog w 0 (fun _=>true) true fuel 49 cs=some x):∃f:Bc,cs=Ca.cell f∧BodyG w f x.1:=by
 obtain⟨y0,y1,y2,m,hx,hl,q0,q1,q2⟩:=trod_struct3 Tryz.underlying49 h;rw[caBd]at hl;obtain⟨a0,a1,a2,a3,rfl⟩:=ca_list4 hl;dsimp only at q0 q1 q2;rw[caInt]at q0;rw[caSt]at q1;rw[caLB]at q2;obtain⟨o,e0,_,_⟩:=DataW.trod_int Tryz.underlying3 q0;obtain⟨c,n,e1,_,_,_,_⟩:=stamp_cells Tryz.underlying46 (by kernel_rfl) (by kernel_rfl) rfl rfl Tryz.underlying3 q1
 obtain⟨X,d,l,e2,o2,z2⟩:=ca_bytesE q2;simp at e0 e1 e2;obtain⟨rfl,rfl⟩:=e1;subst e0 e2;exact⟨⟨X,d,⟨o,c,n,l⟩⟩,rfl,o2,_,_,_,congrArg Prod.fst hx,z2⟩
theorem ca_cells_flat(l:List Bc):l.flatMap Ca.cell=Ca.cells l:=by
 induction l with
 |nil=>rfl
 |cons s r ih=>
  rw[List.flatMap_cons,ih];rfl
def BodiesG(w:World)(L:List Bc)(d:DataW H):Prop:=L=[]∨∃elems spare,d = .slice elems spare∧elems.length=L.length∧∀z∈L,∃x∈elems,BodyG w z x
theorem fit_datum{z:Bc}{x:DataW H}(hx:BodyG w z x)(hk:∀k,k∈DataW.weights Tryz.prog 49 x→k≤reachBytes):z.b.v.length≤140737488355328:=by
 obtain⟨-,q0,q1,q2,rfl,z2⟩:=hx;rcases z2 with z2|⟨el,sp,rfl,z2⟩
 ·omega
 ·have h1:=hk ((el.length+sp.length)*Tryz.prog.bytesOf 5) (by
   unfold DataW.weights;rw[Tryz.underlying49];refine DataW.weights_mem_each (j:=2) rfl rfl _ ?_;unfold DataW.weights;rw[Tryz.underlying47];exact List.mem_cons_self ..)
  rw[caBytesB]at h1;simp only[reachBytes]at h1;omega
theorem fit_bodies{ts:List TypeId}{ds:List (DataW H)}(h:(DataW.weightsEach Tryz.prog ts ds).all (· ≤ reachBytes)=true){j:Nat}{d:DataW H}{L:List Bc}(ht:ts[j]?=some 25)(hd:ds[j]?=some d)(h6:BodiesG w L d) :
  L.length*48≤140737488355328∧∀z∈L,z.b.v.length≤140737488355328:=by
 rcases h6 with rfl|⟨elems,spare,rfl,hl,h7⟩
 ·exact⟨by simp,fun _ h=>by cases h⟩
 ·have top:∀k,k∈DataW.weights Tryz.prog 25 (.slice elems spare)→k≤reachBytes:=fun k hk=>by
   simpa using List.all_eq_true.1 h _ (DataW.weights_mem_each ht hd _ hk)
  refine⟨?_,fun z hz =>?_⟩
  ·have h1:=top ((elems.length+spare.length)*Tryz.prog.bytesOf 49) (by unfold DataW.weights;rw[Tryz.underlying25];exact List.mem_cons_self ..)
   rw[caBytesBd]at h1;simp only[reachBytes]at h1;omega
  ·obtain⟨x,hx,hg⟩:=h7 z hz
   refine fit_datum hg (fun k hk=>top k ?_)
   unfold DataW.weights;rw[Tryz.underlying25];refine List.mem_cons_of_mem _ (List.mem_append_left _ ?_);rw[dk_weightsAll];exact List.mem_flatMap.2 ⟨_,hx,hk⟩
end
end Go.Proofs.YtjlfehpockfkdaaGreat
namespace Go.Proofs.YtjlfehpockfkdaaGreat
open Go.ChangeShapes Go.WideShapes Go.RowKit Go.Deep
section
variable {H:Type} {enc:TypeId × Value→H} {P:Program} {w:World}
theorem open_list_at{α:Type}(z:α)(f:α→List Value){size:Nat}(hf:∀a,(f a).length=size){t e:TypeId}{fuel0:Nat}{cs0:List Value}{y:DataW H × List MemPlace}
  (ht:P.underlying t=some (.slice e))(hC:P.cellsOf e=size)(hsz:0<size)
  (helem:∀(fuel:Nat) (cs:List Value) (x:DataW H × List MemPlace),DataW.trod enc P w 0 (fun _=>true) true fuel e cs=some x→∃a,cs=f a)
  (hfu:DataW.trod enc P w 0 (fun _=>true) true fuel0 t cs0=some y) :
  ∃(A:Option Addr) (cap:Nat) (l:List α),cs0=[.slice A l.length cap]∧l.length≤cap∧cap≤maxLen∧(A=none→l.length=0∧cap=0)∧Lies w A (l.flatMap f) ∧
   ((y.1 = .nil∧l.length=0∧cap=0)∨∃elems spare,y.1 = .slice elems spare∧elems.length=l.length∧elems.length+spare.length=cap):=by
 rcases open_slice ht hfu with ⟨hcs,hx⟩|⟨a,len,cap,m,n,D,Pl,hcs,_,hl,hm,hmm,hx,hi⟩
 ·subst hcs hx
  exact⟨none,0,[],rfl,Nat.le_refl _,Nat.zero_le _,fun _=>⟨rfl,rfl⟩,Lies.nil,.inl ⟨rfl,rfl,rfl⟩⟩
 ·simp at hmm
  subst hmm
  obtain⟨g,hg⟩:=pick (n:=len) (p:=fun i s=>∀j,j<size→w.cell? (a.add (i*size+j))=(f s)[j]?) z (fun i hi'=>by
   obtain⟨cs',hc,ht'⟩:=hi i (by omega)
   rw[hC]at hc;obtain⟨s,rfl⟩:=helem _ _ _ ht';obtain⟨_,_,hcell⟩:=World.cells?_some hc;refine⟨s,fun j hj =>?_⟩
   rw[←hcell j hj,Go.Deep.add_add])
  refine⟨some a,m,(List.range len).map g,by simpa using hcs,by simpa using hl,hm,(fun h=>by cases h),(fun hne =>?_),.inr ⟨_,_,by rw[hx],by simp,by simp;omega⟩⟩
  have hpos:0<len:=by
   rcases Nat.eq_zero_or_pos len with h0|h0
   ·subst h0;simp at hne
   ·exact h0
  obtain⟨b,off,spot⟩:=a;have h00:=hg 0 hpos 0 hsz
  have hspot:spot=none:=by
   have hlen:=hf (g 0);rw[List.getElem?_eq_getElem (by omega)]at h00
   simpa[Addr.add] using World.cell?_spot h00
  subst hspot;refine⟨b,off,rfl,fun j u hu =>?_⟩
  obtain⟨i,r,s,h1,h2,h3,h4⟩:=flat_get f hf _ j u hu
  have hil:i<len:=by
   have:=(List.getElem?_eq_some_iff.1 h1).1
   simpa using this
  simp[hil]at h1;subst h1;rw[←Go.WideShapes.add_plain,h3,hg i hil r h2];exact h4
end
section
variable {H:Type} {enc:TypeId × Value→H} {P:Program} {w:World}
theorem write_cells{base:Nat}{spare:Nat→Bool}{held:Bool}{fuel:Nat}{t ti:TypeId}{g0 g1 g2 s0 s1:Field}{cs:List Value}{x:DataW H × List MemPlace}
  (hs:P.underlying t=some (.struct #[g0,g1,g2]))(hC:P.cellsOf t=4)(k0:P.cellsOf g0.type=2)(o0:g0.offset=0)(k1:P.cellsOf g1.type=1)(o1:g1.offset=2)(k2:P.cellsOf g2.type=1)(o2:g2.offset=3)
  (hss:P.underlying g0.type=some (.struct #[s0,s1]))(hone:Deep.oneCellFields P #[s0,s1]=true)(hi0:s0.type=ti)(hi1:s1.type=ti)(hi:P.underlying ti=some (.int .i64))(h1:P.underlying g1.type=some (.int .i64))(hb:P.underlying g2.type=some .bool)
  (h:DataW.trod enc P w base spare held fuel t cs=some x):∃y:Wr,cs=Nt.wrCell y:=by
 obtain⟨y0,y1,y2,m,rfl,hl,q0,q1,q2⟩:=trod_struct3 hs h;rw[hC]at hl
 obtain⟨a0,a1,a2,a3,rfl⟩:∃a0 a1 a2 a3,cs=[a0,a1,a2,a3]:=by
  match cs,hl with
  | [a0,a1,a2,a3],_=>exact⟨a0,a1,a2,a3,rfl⟩
 rw[o0,k0]at q0;rw[o1,k1]at q1;rw[o2,k2]at q2;obtain⟨c,n,e0,_⟩:=stamp_cells hss hone k0 hi0 hi1 hi q0;obtain⟨o,e1,_,_⟩:=DataW.trod_int h1 q1;obtain⟨g,e2,_⟩:=DataW.trod_bool hb q2;simp at e0 e1 e2;obtain⟨rfl,rfl⟩:=e0;subst e1 e2;exact⟨(c,n,o,g),rfl⟩
def LenD(d:DataW H)(k:Nat):Prop:=k=0∨∃elems spare,d = .slice elems spare∧elems.length=k
theorem open_note{b0:Nat}{r:Reach}{t es ep ew:TypeId}{f0 f1 f2 f3:Field}{v:Value}{d:DataW H}{p:List MemPlace}
  (hs:P.underlying t=some (.struct #[f0,f1,f2,f3]))(hone:Deep.oneCellFields P #[f0,f1,f2,f3]=true)(hC:P.cellsOf t=4)
  (u0:P.underlying f0.type=some (.slice es))(u1:P.underlying f1.type=some (.slice es))(u2:P.underlying f2.type=some (.slice ep))(u3:P.underlying f3.type=some (.slice ew))(cS:P.cellsOf es=2)(cP:P.cellsOf ep=2)(cW:P.cellsOf ew=4)
  (HS:∀(fuel:Nat) (cs:List Value) (x:DataW H × List MemPlace),DataW.trod enc P w 0 (fun _=>true) true fuel es cs=some x→∃a,cs=stCell a)
  (HP:∀(fuel:Nat) (cs:List Value) (x:DataW H × List MemPlace),DataW.trod enc P w 0 (fun _=>true) true fuel ep cs=some x→∃a,cs=stCell a)
  (HW:∀(fuel:Nat) (cs:List Value) (x:DataW H × List MemPlace),DataW.trod enc P w 0 (fun _=>true) true fuel ew cs=some x→∃a,cs=Nt.wrCell a)
  (hv:Value.okWide P w r b0 t v)(h:DataW.Trod enc P w 0 (fun _=>true) true t v d p) :
  ∃(S E B V:Option Addr) (cs ce cb cv:Nat) (n:Note),v = .agg (noteCells S E B V cs ce cb cv n)∧NoteAt w S E B V cs ce cb cv n ∧
   ∃d0 d1 d2 d3,d = .agg [d0,d1,d2,d3]∧LenD d0 n.s.length∧LenD d1 n.e.length∧LenD d2 n.b.length∧LenD d3 n.ws.length:=by
 obtain⟨cs,rfl,hsz⟩:=okWide_struct hs hv;obtain⟨fuel,hf⟩:=h;obtain⟨y0,y1,y2,y3,m,hx,_,q0,q1,q2,q3⟩:=Go.Joins.trod_struct4 hs hf;obtain⟨o0,k0⟩:=Deep.hone_of hone 0 f0 rfl;obtain⟨o1,k1⟩:=Deep.hone_of hone 1 f1 rfl;obtain⟨o2,k2⟩:=Deep.hone_of hone 2 f2 rfl;obtain⟨o3,k3⟩:=Deep.hone_of hone 3 f3 rfl;rw[hC]at hsz
 obtain⟨a0,a1,a2,a3,hcs⟩:∃a0 a1 a2 a3,cs.toList=[a0,a1,a2,a3]:=by
  have hl:cs.toList.length=4:=by simpa using hsz
  match cs.toList,hl with
  | [a0,a1,a2,a3],_=>exact⟨a0,a1,a2,a3,rfl⟩
 have hcc:(Value.agg cs).cells.toList=[a0,a1,a2,a3]:=hcs;rw[hcc]at q0 q1 q2 q3;rw[o0,k0]at q0;rw[o1,k1]at q1;rw[o2,k2]at q2;rw[o3,k3]at q3;simp at q0 q1 q2 q3;obtain⟨S,c0,l0,e0,g0,g0',g0'',L0,z0⟩:=open_list_at (0,0) stCell (size:=2) (fun _=>rfl) u0 cS (by decide) HS q0
 obtain⟨E,c1,l1,e1,g1,g1',g1'',L1,z1⟩:=open_list_at (0,0) stCell (size:=2) (fun _=>rfl) u1 cS (by decide) HS q1
 obtain⟨B,c2,l2,e2,g2,g2',g2'',L2,z2⟩:=open_list_at (0,0) stCell (size:=2) (fun _=>rfl) u2 cP (by decide) HP q2
 obtain⟨V,c3,l3,e3,g3,g3',g3'',L3,z3⟩:=open_list_at Nt.zeroW Nt.wrCell (size:=4) (fun _=>rfl) u3 cW (by decide) HW q3
 rw[stCells_flat]at L0 L1 L2;simp at e0 e1 e2 e3;subst e0 e1 e2 e3
 have hv2:cs=noteCells S E B V c0 c1 c2 c3 ⟨l0,l1,l2,l3⟩:=by
  apply Array.toList_inj.1;rw[hcs];rfl
 have hd:d = .agg [y0.1,y1.1,y2.1,y3.1]:=congrArg Prod.fst hx;refine⟨S,E,B,V,c0,c1,c2,c3,⟨l0,l1,l2,l3⟩,by rw[hv2],⟨⟨g0,g0',g0'',L0⟩,⟨g1,g1',g1'',L1⟩,⟨g2,g2',g2'',L2⟩,⟨g3,g3',g3'',L3⟩⟩,_,_,_,_,hd,?_,?_,?_,?_⟩
 ·rcases z0 with ⟨_,z,_⟩|⟨el,sp,z,z',_⟩
  ·exact .inl z
  ·exact .inr ⟨el,sp,z,z'⟩
 ·rcases z1 with ⟨_,z,_⟩|⟨el,sp,z,z',_⟩
  ·exact .inl z
  ·exact .inr ⟨el,sp,z,z'⟩
 ·rcases z2 with ⟨_,z,_⟩|⟨el,sp,z,z',_⟩
  ·exact .inl z
  ·exact .inr ⟨el,sp,z,z'⟩
 ·rcases z3 with ⟨_,z,_⟩|⟨el,sp,z,z',_⟩
  ·exact .inl z
  ·exact .inr ⟨el,sp,z,z'⟩
theorem sized_field{ts:List TypeId}{ds:List (DataW H)}(h:(DataW.weightsEach P ts ds).all (· ≤ reachBytes)=true){j:Nat}{t:TypeId}{fs:Array Field}{parts:List (DataW H)}(ht:ts[j]?=some t)(hd:ds[j]?=some (.agg parts))(hu:P.underlying t=some (.struct fs))
  {i:Nat}{tf e:TypeId}{x:DataW H}{k:Nat}(hti:(fs.toList.map (·.type))[i]?=some tf)(hpi:parts[i]?=some x)(hue:P.underlying tf=some (.slice e))(hx:LenD x k):k*P.bytesOf e≤reachBytes:=by
 rcases hx with rfl|⟨elems,spare,rfl,rfl⟩
 ·omega
 ·have hin:(elems.length+spare.length)*P.bytesOf e∈DataW.weights P tf (.slice elems spare):=by unfold DataW.weights;rw[hue];exact List.mem_cons_self ..
  have hmid:(elems.length+spare.length)*P.bytesOf e∈DataW.weights P t (.agg parts):=by
   unfold DataW.weights;rw[hu];exact DataW.weights_mem_each hti hpi _ hin
  have hall:=List.all_eq_true.1 h _ (DataW.weights_mem_each ht hd _ hmid);have h2:(elems.length+spare.length)*P.bytesOf e≤reachBytes:=by simpa using hall
  exact Nat.le_trans (Nat.mul_le_mul_right _ (Nat.le_add_right _ _)) h2
end
set_option maxRecDepth 100000
section
variable {H:Type} {enc:TypeId × Value→H} {w:World}
theorem trod_struct5{P:Program}{base:Nat}{spare:Nat→Bool}{held:Bool}{t:TypeId}{f0 f1 f2 f3 f4:Field}{fuel:Nat}{cs:List Value}{x:DataW H × List MemPlace}(ht:P.underlying t=some (.struct #[f0,f1,f2,f3,f4]))(h:DataW.trod enc P w base spare held fuel t cs=some x) :
  ∃y0 y1 y2 y3 y4 n,x=(.agg [y0.1,y1.1,y2.1,y3.1,y4.1],y0.2++(y1.2++(y2.2++(y3.2++y4.2))))∧cs.length=P.cellsOf t∧DataW.trod enc P w base spare held n f0.type ((cs.drop f0.offset).take (P.cellsOf f0.type))=some y0 ∧
   DataW.trod enc P w base spare held n f1.type ((cs.drop f1.offset).take (P.cellsOf f1.type))=some y1∧DataW.trod enc P w base spare held n f2.type ((cs.drop f2.offset).take (P.cellsOf f2.type))=some y2 ∧
   DataW.trod enc P w base spare held n f3.type ((cs.drop f3.offset).take (P.cellsOf f3.type))=some y3∧DataW.trod enc P w base spare held n f4.type ((cs.drop f4.offset).take (P.cellsOf f4.type))=some y4:=by
 obtain⟨xs,n,_,rfl,hl,hlen,hf⟩:=DataW.trod_struct ht h
 match xs,hlen with
 | [y0,y1,y2,y3,y4],_=>exact⟨y0,y1,y2,y3,y4,n,by simp,hl,by simpa using hf 0 f0 rfl,by simpa using hf 1 f1 rfl,by simpa using hf 2 f2 rfl,by simpa using hf 3 f3 rfl,by simpa using hf 4 f4 rfl⟩
theorem vw_list5{cs:List Value}(h:cs.length=5):∃a0 a1 a2 a3 a4,cs=[a0,a1,a2,a3,a4]:=by
 match cs,h with
 | [a0,a1,a2,a3,a4],_=>exact⟨a0,a1,a2,a3,a4,rfl⟩
theorem vwWr:Tryz.prog.cellsOf 52=4:=by kernel_rfl
theorem vwLW:Tryz.prog.cellsOf 24=1:=by kernel_rfl
theorem vwLB:Tryz.prog.cellsOf 25=1:=by kernel_rfl
theorem vwVw:Tryz.prog.cellsOf 27=5:=by kernel_rfl
theorem vwBytesW:Tryz.prog.bytesOf 52=32:=by kernel_rfl
theorem vw_writeE(fuel:Nat)(cs:List Value)(x:DataW H × List MemPlace)(h:DataW.trod enc Tryz.prog w 0 (fun _=>true) true fuel 52 cs=some x):∃a,cs=Nt.wrCell a:=
 write_cells Tryz.underlying52 (by kernel_rfl) (by kernel_rfl) rfl (by kernel_rfl) rfl (by kernel_rfl) rfl Tryz.underlying46 (by kernel_rfl) rfl rfl Tryz.underlying3 Tryz.underlying3 Tryz.underlying4 h
theorem vw_writesE{fuel:Nat}{cs:List Value}{x:DataW H × List MemPlace}(h:DataW.trod enc Tryz.prog w 0 (fun _=>true) true fuel 24 cs=some x):∃A c l,cs=[.slice A (List.length l) c]∧OneW w A c l∧LenG x.1 l.length:=by
 obtain⟨A,c,l,h1,h2,h3,h4,h5,h6⟩:=open_list_with Nt.zeroW Nt.wrCell (fun _ _=>True) (size:=4) (fun _=>rfl) Tryz.underlying24 vwWr (by decide) (fun fuel cs x h=>(vw_writeE fuel cs x h).imp fun _ h=>⟨h,trivial⟩) h
 refine⟨A,c,l,h1,⟨h2,h3,h4,h5⟩,?_⟩;rcases h6 with rfl|⟨el,sp,h7,h8,_⟩
 ·exact .inl rfl
 ·exact .inr ⟨el,sp,h7,h8⟩
def ZonesG(w:World)(L:List Zc)(d:DataW H):Prop:=L=[]∨∃elems spare,d = .slice elems spare∧elems.length=L.length∧∀f∈L,∃x∈elems,ZoneG w f x
theorem vw_zonesE{fuel:Nat}{cs:List Value}{x:DataW H × List MemPlace}(h:DataW.trod enc Tryz.prog w 0 (fun _=>true) true fuel 23 cs=some x):∃A c L,cs=[.slice A (List.length L) c]∧OneZ w A c L∧ZonesG w L x.1:=by
 obtain⟨A,c,L,e1,h2,h3,h4,h5,h6⟩:=open_list_with Zc.zero (fun f=>zCells [f]) (fun f d=>ZoneG w f d) (size:=3) (fun _=>rfl) Tryz.underlying23 znZn (by decide) (fun fuel cs x h=>zn_zoneE fuel cs x h) h
 rw[zCells_flat]at h5;refine⟨A,c,L,e1,⟨h2,h3,h4,h5,fun f hf2 =>?_⟩,h6⟩
 rcases h6 with rfl|⟨_,_,_,_,h7⟩
 ·cases hf2
 ·obtain⟨_,_,h8⟩:=h7 f hf2
  exact h8.1
theorem vw_bodiesE{fuel:Nat}{cs:List Value}{x:DataW H × List MemPlace}(h:DataW.trod enc Tryz.prog w 0 (fun _=>true) true fuel 25 cs=some x):∃A c L,cs=[.slice A (List.length L) c]∧OneC w A c L∧BodiesG w L x.1:=by
 obtain⟨A,c,L,h1,h2,h3,h4,h5,h6⟩:=open_list_with Bc.zero Ca.cell (fun z d=>BodyG w z d) (size:=4) (fun _=>rfl) Tryz.underlying25 caBd (by decide) (fun fuel cs x h=>ca_bodyE fuel cs x h) h
 rw[ca_cells_flat]at h5;refine⟨A,c,L,h1,⟨h2,h3,h4,h5,fun z hz =>?_⟩,h6⟩
 rcases h6 with rfl|⟨_,_,_,_,h7⟩
 ·cases hz
 ·obtain⟨_,_,h8⟩:=h7 z hz
  exact h8.1
def ViewG(w:World)(q:Vl)(d:DataW H):Prop:=∃d0 d1 d2 d3 d4,d = .agg [d0,d1,d2,d3,d4]∧LenG d0 q.k.length∧ZonesG w q.z d1∧LenG d2 q.h.length∧BodiesG w q.b d3
theorem open_view{r:Reach}{b0:Nat}{v:Value}{d:DataW H}{p:List MemPlace}(hv:Value.okWide Tryz.prog w r b0 27 v)(h:DataW.Trod enc Tryz.prog w 0 (fun _=>true) true 27 v d p) :
  ∃q:Vl,v = .agg (vwCells q)∧VwAt w q∧ViewG w q d:=by
 obtain⟨cs,rfl,_⟩:=okWide_struct Tryz.underlying27 hv;obtain⟨fuel,hf⟩:=h;obtain⟨y0,y1,y2,y3,y4,m,hx,hl,q0,q1,q2,q3,q4⟩:=trod_struct5 Tryz.underlying27 hf;have hcc:(Value.agg cs).cells.toList=cs.toList:=rfl;rw[hcc]at hl q0 q1 q2 q3 q4;rw[vwVw]at hl;obtain⟨a0,a1,a2,a3,a4,hcl⟩:=vw_list5 hl;rw[hcl]at q0 q1 q2 q3 q4;dsimp only at q0 q1 q2 q3 q4;rw[znLS]at q0;rw[znLZ]at q1;rw[vwLW]at q2;rw[vwLB]at q3;rw[znInt]at q4;obtain⟨K,ck,k,e0,o0,g0⟩:=zn_vecE q0;obtain⟨Z,cz,z,e1,o1,g1⟩:=vw_zonesE q1;obtain⟨A,ch,hh,e2,o2,g2⟩:=vw_writesE q2;obtain⟨B,cb,b,e3,o3,g3⟩:=vw_bodiesE q3;obtain⟨n,e4,_,_⟩:=DataW.trod_int Tryz.underlying3 q4;simp at e0 e1 e2 e3 e4;subst e0 e1 e2 e3 e4;exact⟨⟨K,ck,k,Z,cz,z,A,ch,hh,B,cb,b,n⟩,congrArg Value.agg (Array.toList_inj.1 hcl),⟨o0,o1,o2,o3⟩,_,_,_,_,_,congrArg Prod.fst hx,g0,g1,g2,g3⟩
theorem fit_len{ts:List TypeId}{ds:List (DataW H)}(h:(DataW.weightsEach Tryz.prog ts ds).all (· ≤ reachBytes)=true){j:Nat}{d:DataW H}{n b:Nat}{t e:TypeId}(hu:Tryz.prog.underlying t=some (.slice e))(hb:Tryz.prog.bytesOf e=b)(ht:ts[j]?=some t)(hd:ds[j]?=some d)(hl:LenG d n):n*b≤140737488355328:=by
 rcases hl with rfl|⟨el,sp,rfl,hl⟩
 ·simp
 ·have h1:(el.length+sp.length)*Tryz.prog.bytesOf e≤reachBytes:=by
   simpa using List.all_eq_true.1 h _ (DataW.weights_mem_each ht hd _ (by unfold DataW.weights;rw[hu];exact List.mem_cons_self ..))
  rw[hb,hl]at h1;simp only[reachBytes]at h1;have h2:n*b≤(n+sp.length)*b:=Nat.mul_le_mul_right _ (Nat.le_add_right _ _);omega
theorem fit_view{ts:List TypeId}{ds:List (DataW H)}(h:(DataW.weightsEach Tryz.prog ts ds).all (· ≤ reachBytes)=true){j:Nat}{d:DataW H}{q:Vl}(ht:ts[j]?=some 27)(hd:ds[j]?=some d)(hg:ViewG w q d):VwFit q:=by
 obtain⟨d0,d1,d2,d3,d4,rfl,g0,g1,g2,g3⟩:=hg
 have hin:(DataW.weightsEach Tryz.prog [22,23,24,25,3] [d0,d1,d2,d3,d4]).all (· ≤ reachBytes)=true:=List.all_eq_true.2 (fun k hk=>List.all_eq_true.1 h k (DataW.weights_mem_each ht hd k (by
  unfold DataW.weights;rw[Tryz.underlying27];exact hk)))
 have z1:=fit_zones hin (j:=1) rfl rfl g1;have z3:=fit_bodies hin (j:=3) rfl rfl g3;exact⟨fit_len hin (j:=0) Tryz.underlying22 znBytesS rfl rfl g0,z1.1,z1.2,fit_len hin (j:=2) Tryz.underlying24 vwBytesW rfl rfl g2,⟨z3.1,z3.2⟩⟩
end
end Go.Proofs.YtjlfehpockfkdaaGreat
namespace Go.Proofs.YtjlfehpockfkdaaGreat.viewTakes
open Go.ChangeShapes Go.WideShapes Go.ChangeAt Go.RowKit
theorem cellsStamp:Tryz.prog.cellsOf 46=2:=by kernel_rfl
theorem bytesStamp:Tryz.prog.bytesOf 46=16:=by kernel_rfl
theorem cellsSpan:Tryz.prog.cellsOf 97=2:=by kernel_rfl
theorem bytesSpan:Tryz.prog.bytesOf 97=16:=by kernel_rfl
theorem cellsWrite:Tryz.prog.cellsOf 52=4:=by kernel_rfl
theorem bytesWrite:Tryz.prog.bytesOf 52=32:=by kernel_rfl
theorem stampE{H:Type}{enc:TypeId × Value→H}{w:World}(fuel:Nat)(cs:List Value)(x:DataW H × List MemPlace)(h:DataW.trod enc Tryz.prog w 0 (fun _=>true) true fuel 46 cs=some x):∃a,cs=stCell a:=by
 obtain⟨c,n,rfl,_⟩:=stamp_cells Tryz.underlying46 (by kernel_rfl) (by kernel_rfl) rfl rfl Tryz.underlying3 h
 exact⟨(c,n),rfl⟩
theorem spanE{H:Type}{enc:TypeId × Value→H}{w:World}(fuel:Nat)(cs:List Value)(x:DataW H × List MemPlace)(h:DataW.trod enc Tryz.prog w 0 (fun _=>true) true fuel 97 cs=some x):∃a,cs=stCell a:=by
 obtain⟨c,n,rfl,_⟩:=stamp_cells Tryz.underlying97 (by kernel_rfl) (by kernel_rfl) rfl rfl Tryz.underlying3 h
 exact⟨(c,n),rfl⟩
theorem writeE{H:Type}{enc:TypeId × Value→H}{w:World}(fuel:Nat)(cs:List Value)(x:DataW H × List MemPlace)(h:DataW.trod enc Tryz.prog w 0 (fun _=>true) true fuel 52 cs=some x):∃a,cs=Nt.wrCell a:=
 write_cells Tryz.underlying52 (by kernel_rfl) (by kernel_rfl) rfl (by kernel_rfl) rfl (by kernel_rfl) rfl Tryz.underlying46 (by kernel_rfl) rfl rfl Tryz.underlying3 Tryz.underlying3 Tryz.underlying4 h
theorem own:ownKnob Tryz.prog.godebug=none:=by kernel_rfl
theorem laidOut:laidOutB Tryz.prog=true:=by kernel_rfl
theorem reads:∀t∈Tryz.f4.params.toList,Tryz.prog.readableRec t=true∧t<Tryz.prog.types.size:=by
 intro t ht;rw[Tryz.params4]at ht;have:t=27∨t=40:=by simpa using ht
 rcases this with rfl|rfl<;>exact⟨by kernel_rfl,of_decide_eq_true (by kernel_rfl)⟩
theorem lifted(os:Os)(started:os.Started)(H:Type)(enc:TypeId × Value→H) :
  ReturnsInHanded {} Tryz.checked os 4 .any (Rows.viewTakesSpec.pre6 enc Tryz.prog Tryz.f4 Rows.viewTakesRow.domain false) (Rows.viewTakesSpec.post enc Tryz.prog Tryz.f4 false true false false):=by
 refine returnsInHanded_of_change_sized (C:=Tryz.checked) own started (by kernel_rfl) Tryz.func4
  (ChangeSpec.witness6 (enc:=enc) (C:=Tryz.checked) false ⟨#[],#[.agg #[.slice none 0 0,.slice none 0 0,.slice none 0 0,.slice none 0 0,.int .i64 0],.agg #[.slice none 0 0,.slice none 0 0,.slice none 0 0,.slice none 0 0]],[]⟩ 8 (by kernel_rfl) (by kernel_rfl) (by kernel_rfl) (by kernel_rfl)) ?_
 intro W base args ds gs before hval0 hW _ hsz0 _;have hval:∀(j:Nat) t v,Tryz.f4.params[j]?=some t→args[j]?=some v→Value.okWide Tryz.prog W .any base t v:=hval0;have hsz:(DataW.weightsEach Tryz.prog (Tryz.f4.params.toList++Rows.viewTakesSpec.plain.varTypes Tryz.prog) (ds++gs)).all (· ≤ reachBytes)=true:=hsz0
 have hW':=hW;obtain⟨p,q,hA0,hV,rfl,hfz,hnd⟩:=hW;have hA:DataW.TrodAll enc Tryz.prog W 0 (fun _=>true) true Tryz.f4.params.toList args.toList ds p:=hA0
 rw[Tryz.params4]at hA hval hsz;obtain⟨v0,vs0,d0,ds0,p0,q0,hargs,rfl,rfl,h0,r0⟩:=trodAll_cons hA;obtain⟨v1,vs1,d1,ds1,p1,q1,rfl,rfl,rfl,h1,r1⟩:=trodAll_cons r0;obtain⟨rfl,rfl,rfl⟩:=trodAll_nil r1;obtain rfl:args=#[v0,v1]:=by cases args;simp_all
 obtain⟨rfl,rfl⟩:=trodVars_none hV;obtain⟨q0,rfl,o0,g0⟩:=open_view (hval 0 27 v0 rfl rfl) h0;have z0:=fit_view hsz (j:=0) rfl rfl g0;obtain⟨S1,E1,B1,V1,cs1,ce1,cb1,cv1,n1,rfl,o1,x10,x11,x12,x13,rfl,m10,m11,m12,m13⟩:=open_note Tryz.underlying40 (by kernel_rfl) (by kernel_rfl) Tryz.underlying22 Tryz.underlying22 Tryz.underlying28 Tryz.underlying24 (by kernel_rfl) (by kernel_rfl) (by kernel_rfl) stampE spanE writeE (hval 1 40 v1 rfl rfl) h1
 have z1s:n1.s.length*16≤140737488355328:=by
  have:=sized_field hsz (j:=1) (t:=40) rfl rfl Tryz.underlying40 (i:=0) (tf:=22) (e:=46) rfl rfl Tryz.underlying22 m10;rw[bytesStamp]at this;simp only[reachBytes]at this;omega
 have z1e:n1.e.length*16≤140737488355328:=by
  have:=sized_field hsz (j:=1) (t:=40) rfl rfl Tryz.underlying40 (i:=1) (tf:=22) (e:=46) rfl rfl Tryz.underlying22 m11;rw[bytesStamp]at this;simp only[reachBytes]at this;omega
 have z1b:n1.b.length*16≤140737488355328:=by
  have:=sized_field hsz (j:=1) (t:=40) rfl rfl Tryz.underlying40 (i:=2) (tf:=28) (e:=97) rfl rfl Tryz.underlying28 m12;rw[bytesSpan]at this;simp only[reachBytes]at this;omega
 have z1w:n1.ws.length*32≤140737488355328:=by
  have:=sized_field hsz (j:=1) (t:=40) rfl rfl Tryz.underlying40 (i:=3) (tf:=24) (e:=52) rfl rfl Tryz.underlying24 m13;rw[bytesWrite]at this;simp only[reachBytes]at this;omega
 clear hA0 hval0 hsz hsz0;refine(lawVTakes_any viewSpec q0 S1 E1 B1 V1 cs1 ce1 cb1 cv1 n1 W o0 z0 o1 z1s z1e z1b z1w).mono fun e W' ⟨he,hg⟩ =>?_
 subst he;exact⟨_,rfl,law_post laidOut hW' rfl rfl (by kernel_rfl) Tryz.underlying4 reads hg⟩
theorem over:Rows.viewTakesRow.holds Tryz.pinned (OpenSpec.ofChange Rows.viewTakesSpec):=
 OpenClaim.holds_of_wide 4 Tryz.f4 rfl rfl rfl rfl rfl rfl rfl ⟨rfl,rfl,rfl,rfl,rfl⟩ rfl rfl rfl rfl rfl (by kernel_rfl) Tryz.func4 (by kernel_rfl)
  (of_decide_eq_true (by kernel_rfl)) (by unfold Func.isWrapper;first|(rw[if_pos (by decide +kernel)];kernel_rfl)|(rw[if_neg (by decide +kernel)];exact⟨rfl,rfl⟩))
  (fun os started H enc _=>lifted os started H enc)
theorem proved:Rows.ViewTakesSaid:=
 over
end Go.Proofs.YtjlfehpockfkdaaGreat.viewTakes
