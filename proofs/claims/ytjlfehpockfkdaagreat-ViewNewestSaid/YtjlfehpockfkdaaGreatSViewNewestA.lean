/-
  What the row of this claim stands on: Law, StampPlain, Open, OpenWith, VecPlain, RefRight, RefCounts, RefVec, RefLists, RefFormed, TrPlain, OpenZones, ByPlain, ByRef, WrBody2, OpenCache, OpenNote, VwFar, TrForm, TrReach, SfMath, StampCalls, OpenView, WrMsg, Nls, CaRoomM, VwMath, VwMath2, VwSpec, VwMath3, VwMath4, VwTop, OpenAct, Acts, VwKeep, VwAlive, NwRows, NwMore, NwF.
-/
import Derived.Test.YtjlfehpockfkdaaGreatB01
import Derived.ProofKit
import Derived.Below
import Derived.WideKeyArgs
import Derived.OpenShut
import Derived.Lib.SmallJoins
import Derived.Laws.OwnMore
import Derived.Deep.Draws
import Derived.Laws.Rows
import Derived.Deep.Slices
import Derived.Test.YtjlfehpockfkdaaGreatProg
import Derived.Tactics
import Derived.Tactics2
import Derived.WalkKit
import Derived.WalkSpells
import Derived.OwnWalk
import Derived.Deep.QuietTactic
import Derived.BigQuiet
import Derived.Deep.RegionHeld3
import Derived.KernelRfl
import Derived.Lib.Hide
import Derived.Laws.Tables
import Derived.Laws.CopyOwn
import Derived.Laws.ResultCell
import Derived.Deep.DeepCutAuto
import Derived.RegionTactic
import Derived.BigRegion
import Derived.WalkSmall
import Derived.Lib.QuietBelow
import Derived.Laws.BytesArg
import Derived.Laws.StructEq
import Derived.MapKept
import Derived.Lib.SlBytesConst
import Derived.SizedLaws
import Derived.Test.YtjlfehpockfkdaaGreatB02
namespace Go.Proofs.YtjlfehpockfkdaaGreat
open Go.ChangeShapes Go.WideShapes Go.RowKit
section
variable {H:Type} {enc:TypeId × Value→H} {P:Program}
theorem args_stay(hl:laidOutB P=true){W W':World}{sp:Nat→Bool}(hb:Below W.heap.size W W') :
  ∀{ts:List TypeId} {vs:List Value} {ds:List (DataW H)} {ps:List MemPlace},(∀t∈ts,P.readableRec t=true∧t<P.types.size) →
   DataW.TrodAll enc P W 0 (fun _=>true) true ts vs ds ps→(∀x∈ps,x.block<W.heap.size)→(∀x∈ps,sp x.block=true) →
   DataW.TrodAll enc P W' 0 sp true ts vs ds ps
 | [],_,_,_,_,h,_,_=>by
  obtain⟨rfl,rfl,rfl⟩:=trodAll_nil h
  exact trodAll_mk0
 |t::ts,_,_,_,ht,h,hlt,hsp=>by
  obtain⟨v,vs1,d,ds1,a,b,rfl,rfl,rfl,h1,h2⟩:=trodAll_cons h
  have htt:=ht t (List.mem_cons_self ..)
  refine⟨a,b,?_,?_,rfl⟩
  ·exact WideElems.Trod_stays hl htt.1 htt.2 h1 (fun x hx=>hb.same (hlt x (List.mem_append_left _ hx))) (fun x hx=>hsp x (List.mem_append_left _ hx))
  ·exact args_stay hl hb (fun t' h'=>ht t' (List.mem_cons_of_mem _ h')) h2 (fun x hx=>hlt x (List.mem_append_right _ hx)) (fun x hx=>hsp x (List.mem_append_right _ hx))
theorem law_post(hl:laidOutB P=true){f:Func}{s:ChangeSpec}{W W':World}{args:Array Value}{ds gs:List (DataW H)}{before:List MemPlace}{tb:TypeId}
  (hW:DataW.Whole enc P f.params.toList s.vars false W args.toList ds gs before)
  (hvars:s.vars=[])(hfn:s.fn H (ds++gs)={ results:=[.lit (.bool true)],args:=ds })
  (hres:f.resultTypes=#[tb])(htb:P.underlying tb=some .bool)
  (hts:∀t∈f.params.toList,P.readableRec t=true∧t<P.types.size)(hb:Below W.heap.size W W') :
  s.post enc P f false true false false W args (.bool true) W':=by
 have hlt:∀x∈before,x.block<W.heap.size:=fun x hx=>hW.lt x hx
 have hW0:=hW
 obtain⟨p,q,hA,hV,hpq,_,_⟩:=hW0
 rw[hvars]at hV
 obtain⟨rfl,rfl⟩:=trodVars_none hV
 obtain rfl:before=p:=by rw[hpq,List.append_nil]
 refine⟨ds,[],before,[],before,[],hW,?_,?_,?_,?_,fun h=>by cases h⟩
 ·rw[hfn,hres]
  exact trodAll_mk1 (shut_bool htb _)
 ·rw[hfn]
  exact args_stay hl hb hts hA hlt (fun x hx=>by simpa using hlt x hx)
 ·rw[hvars,hfn]
  rfl
 ·exact World.keptBut_mono (fun x hx=>hx.elim) (hb.frame (fun _=>False))
theorem stamp_cells{w:World}{base:Nat}{spare:Nat→Bool}{held:Bool}{fuel:Nat}{t ti:TypeId}{f0 f1:Field}{cs:List Value}{x:DataW H × List MemPlace}
  (hs:P.underlying t=some (.struct #[f0,f1]))(hone:Deep.oneCellFields P #[f0,f1]=true)(hC:P.cellsOf t=2)(hi0:f0.type=ti)(hi1:f1.type=ti)(hi:P.underlying ti=some (.int .i64))
  (h:DataW.trod enc P w base spare held fuel t cs=some x) :
  ∃c n:Int,cs=[.int .i64 c,.int .i64 n]∧x.2=[] ∧ -9223372036854775808≤c∧c≤9223372036854775807 ∧ -9223372036854775808≤n∧n≤9223372036854775807:=by
 obtain⟨y0,y1,m,rfl,hl,hy0,hy1⟩:=trod_struct2 hs h
 obtain⟨o0,k0⟩:=Deep.hone_of hone 0 f0 rfl
 obtain⟨o1,k1⟩:=Deep.hone_of hone 1 f1 rfl
 rw[hC]at hl
 obtain⟨a0,a1,rfl⟩:∃a0 a1,cs=[a0,a1]:=by
  match cs,hl with
  | [a0,a1],_=>exact⟨a0,a1,rfl⟩
 rw[o0,k0,hi0]at hy0
 rw[o1,k1,hi1]at hy1
 obtain⟨a,e0,rfl,wa⟩:=DataW.trod_int hi hy0
 obtain⟨b,e1,rfl,wb⟩:=DataW.trod_int hi hy1
 simp at e0 e1
 subst e0 e1
 exact⟨a,b,rfl,rfl,(bounds_i64 wa).1,(bounds_i64 wa).2,(bounds_i64 wb).1,(bounds_i64 wb).2⟩
end
end Go.Proofs.YtjlfehpockfkdaaGreat
namespace Go.Proofs.YtjlfehpockfkdaaGreat
namespace St
theorem cmpI_zero{a b:Int}:cmpI a b=0↔a=b:=by unfold cmpI;split<;>(try split)<;>omega
theorem cmpS_zero{c n c' n':Int}:cmpS c n c' n'=0↔c=c'∧n=n':=by
 have :=@cmpI_zero n n'
 unfold cmpS;split<;>(try split)<;>omega
theorem cmpS_trans{c n c' n' c'' n'':Int}(h:cmpS c n c' n'≤0)(h':cmpS c' n' c'' n''≤0):cmpS c n c'' n''≤0:=by
 unfold cmpS cmpI at *;(repeat' split)<;>(repeat' (split at h))<;>(repeat' (split at h'))<;>omega
end St
end Go.Proofs.YtjlfehpockfkdaaGreat
namespace Go.Proofs.YtjlfehpockfkdaaGreat
open Go.ChangeShapes Go.WideShapes Go.RowKit Go.Deep
theorem pick{α:Type}(z:α){n:Nat}{p:Nat→α→Prop}(h:∀i,i<n→∃s,p i s):∃f:Nat→α,∀i,i<n→p i (f i):=by
 refine⟨fun i=>if hi:i<n then Classical.choose (h i hi) else z,fun i hi =>?_⟩
 simp only[hi,dite_true]
 exact Classical.choose_spec (h i hi)
theorem flat_get{α:Type}{size:Nat}(f:α→List Value)(hf:∀a,(f a).length=size):∀(l:List α) (j:Nat) (u:Value),(l.flatMap f)[j]?=some u →
  ∃i r a,l[i]?=some a∧r<size∧j=i*size+r∧(f a)[r]?=some u
 | [],j,u,h=>by simp at h
 |a::l,j,u,h=>by
  rw[List.flatMap_cons]at h
  by_cases hj:j<size
  ·rw[List.getElem?_append_left (by rw[hf];exact hj)]at h
   exact⟨0,j,a,rfl,hj,by omega,h⟩
  ·rw[List.getElem?_append_right (by rw[hf];omega),hf]at h
   obtain⟨i,r,b,h1,h2,h3,h4⟩:=flat_get f hf l (j-size) u h
   refine⟨i+1,r,b,by simpa using h1,h2,?_,h4⟩
   rw[Nat.add_mul]
   omega
set_option maxRecDepth 100000
theorem list2{cs:List Value}(h:cs.length=2):∃a0 a1,cs=[a0,a1]:=by
 match cs,h with
 | [a0,a1],_=>exact⟨a0,a1,rfl⟩
section
variable {H:Type} {enc:TypeId × Value→H} {w:World}
def LenG(d:DataW H)(k:Nat):Prop:=k=0∨∃elems spare,d = .slice elems spare∧elems.length=k
theorem open_list_with{P:Program}{α:Type}(z:α)(f:α→List Value)(good:α→DataW H→Prop){size:Nat}(hf:∀a,(f a).length=size){t e:TypeId}{fuel0:Nat}{cs0:List Value}{y:DataW H × List MemPlace}
  (ht:P.underlying t=some (.slice e))(hC:P.cellsOf e=size)(hsz:0<size)
  (helem:∀(fuel:Nat) (cs:List Value) (x:DataW H × List MemPlace),DataW.trod enc P w 0 (fun _=>true) true fuel e cs=some x→∃a,cs=f a∧good a x.1)
  (hfu:DataW.trod enc P w 0 (fun _=>true) true fuel0 t cs0=some y) :
  ∃(A:Option Addr) (cap:Nat) (l:List α),cs0=[.slice A l.length cap]∧l.length≤cap∧cap≤maxLen∧(A=none→l.length=0∧cap=0)∧Lies w A (l.flatMap f) ∧
   (l=[]∨∃elems spare,y.1 = .slice elems spare∧elems.length=l.length∧∀a∈l,∃d∈elems,good a d):=by
 rcases open_slice ht hfu with ⟨hcs,hx⟩|⟨a,len,cap,m,n,D,Pl,hcs,_,hl,hm,hmm,hx,hi⟩
 ·subst hcs hx
  exact⟨none,0,[],rfl,Nat.le_refl _,Nat.zero_le _,fun _=>⟨rfl,rfl⟩,Lies.nil,.inl rfl⟩
 ·simp at hmm
  subst hmm
  obtain⟨g,hg⟩:=pick (n:=len) (p:=fun i s=>good s (D i)∧∀j,j<size→w.cell? (a.add (i*size+j))=(f s)[j]?) z (fun i hi'=>by
   obtain⟨cs',hc,ht'⟩:=hi i (by omega)
   rw[hC]at hc
   obtain⟨s,rfl,hs⟩:=helem _ _ _ ht'
   obtain⟨_,_,hcell⟩:=World.cells?_some hc
   refine⟨s,hs,fun j hj =>?_⟩
   rw[←hcell j hj,Go.Deep.add_add])
  refine⟨some a,m,(List.range len).map g,by simpa using hcs,by simpa using hl,hm,(fun h=>by cases h),(fun hne =>?_),.inr ⟨_,_,by rw[hx],by simp,fun s hs =>?_⟩⟩
  ·have hpos:0<len:=by
    rcases Nat.eq_zero_or_pos len with h0|h0
    ·subst h0;simp at hne
    ·exact h0
   obtain⟨b,off,spot⟩:=a
   have h00:=(hg 0 hpos).2 0 hsz
   have hspot:spot=none:=by
    have hlen:=hf (g 0)
    rw[List.getElem?_eq_getElem (by omega)]at h00
    simpa[Addr.add] using World.cell?_spot h00
   subst hspot
   refine⟨b,off,rfl,fun j u hu =>?_⟩
   obtain⟨i,r,s,h1,h2,h3,h4⟩:=flat_get f hf _ j u hu
   have hil:i<len:=by
    have:=(List.getElem?_eq_some_iff.1 h1).1
    simpa using this
   simp[hil]at h1
   subst h1
   rw[←Go.WideShapes.add_plain,h3,(hg i hil).2 r h2]
   exact h4
  ·simp at hs
   obtain⟨i,hil,rfl⟩:=hs
   exact⟨D i,List.mem_map.2 ⟨i,List.mem_range.2 hil,rfl⟩,(hg i hil).1⟩
end
end Go.Proofs.YtjlfehpockfkdaaGreat
namespace Go.Proofs.YtjlfehpockfkdaaGreat
namespace Ve
theorem cnt_drop(l:List (Int × Int))(k:Nat)(h:k<l.length)(n:Nat):cnt (l.drop k) n=if St.rgt l[k].1 l[k].2=true∧l[k].2=(n:Int) then l[k].1 else cnt (l.drop (k+1)) n:=by
 rw[List.drop_eq_getElem_cons h]
 rfl
end Ve
end Go.Proofs.YtjlfehpockfkdaaGreat
namespace Go.Proofs.YtjlfehpockfkdaaGreat
open Go.RowKit
theorem rright_c(c n:Int)(w:World)(h:c<1) :
  Calls Tryz.prog 102 #[.agg #[.int .i64 c,.int .i64 n]] w fun e w'=>e = .returned (.bool (St.rgt c n))∧Below w.heap.size w w':=by
 have h0:St.rgt c n=false:=by unfold St.rgt;simp;omega
 have H0:=Hd h0;clear h0
 have hd0:decide (1≤c)=false:=decide_eq_false (by omega)
 go_enter Tryz.func102,Tryz.ntmps102
 go_wp2
 go_ret
 rw[H0.out]
 exact⟨rfl,by repeat (first|exact Below.refl _ _|exact Nat.le_refl _|(apply Below.drew)|(refine Below.alloc ?_ ?_ _)|(refine Below.setCell ?_ ?_ _)|(simp;done)|(simp;omega))⟩
theorem rright_n(c n:Int)(w:World)(h:1≤c)(hn:n<0) :
  Calls Tryz.prog 102 #[.agg #[.int .i64 c,.int .i64 n]] w fun e w'=>e = .returned (.bool (St.rgt c n))∧Below w.heap.size w w':=by
 have h0:St.rgt c n=false:=by unfold St.rgt;simp;omega
 have H0:=Hd h0;clear h0
 have hd0:decide (1≤c)=true:=decide_eq_true (by omega)
 have hd1:decide (0≤n)=false:=decide_eq_false (by omega)
 go_enter Tryz.func102,Tryz.ntmps102
 go_wp2
 go_ret
 rw[H0.out]
 exact⟨rfl,by repeat (first|exact Below.refl _ _|exact Nat.le_refl _|(apply Below.drew)|(refine Below.alloc ?_ ?_ _)|(refine Below.setCell ?_ ?_ _)|(simp;done)|(simp;omega))⟩
theorem rright_m(c n:Int)(w:World)(h:1≤c)(hn:63<n) :
  Calls Tryz.prog 102 #[.agg #[.int .i64 c,.int .i64 n]] w fun e w'=>e = .returned (.bool (St.rgt c n))∧Below w.heap.size w w':=by
 have h0:St.rgt c n=false:=by unfold St.rgt;simp;omega
 have H0:=Hd h0;clear h0
 have hd0:decide (1≤c)=true:=decide_eq_true (by omega)
 have hd1:decide (0≤n)=true:=decide_eq_true (by omega)
 have hd2:decide (n≤63)=false:=decide_eq_false (by omega)
 go_enter Tryz.func102,Tryz.ntmps102
 go_wp2
 go_ret
 rw[H0.out]
 exact⟨rfl,by repeat (first|exact Below.refl _ _|exact Nat.le_refl _|(apply Below.drew)|(refine Below.alloc ?_ ?_ _)|(refine Below.setCell ?_ ?_ _)|(simp;done)|(simp;omega))⟩
theorem rright_y(c n:Int)(w:World)(h:1≤c)(hn:0≤n)(hm:n≤63) :
  Calls Tryz.prog 102 #[.agg #[.int .i64 c,.int .i64 n]] w fun e w'=>e = .returned (.bool (St.rgt c n))∧Below w.heap.size w w':=by
 have h0:St.rgt c n=true:=by unfold St.rgt;simp;omega
 have H0:=Hd h0;clear h0
 have hd0:decide (1≤c)=true:=decide_eq_true (by omega)
 have hd1:decide (0≤n)=true:=decide_eq_true (by omega)
 have hd2:decide (n≤63)=true:=decide_eq_true (by omega)
 go_enter Tryz.func102,Tryz.ntmps102
 go_wp2
 go_ret
 rw[H0.out]
 exact⟨rfl,by repeat (first|exact Below.refl _ _|exact Nat.le_refl _|(apply Below.drew)|(refine Below.alloc ?_ ?_ _)|(refine Below.setCell ?_ ?_ _)|(simp;done)|(simp;omega))⟩
theorem rright_any(c n:Int)(w:World) :
  Calls Tryz.prog 102 #[.agg #[.int .i64 c,.int .i64 n]] w fun e w'=>e = .returned (.bool (St.rgt c n))∧Below w.heap.size w w':=by
 by_cases h:c<1
 ·exact rright_c c n w h
 by_cases h1:n<0
 ·exact rright_n c n w (by omega) h1
 by_cases h2:63<n
 ·exact rright_m c n w (by omega) h2
 ·exact rright_y c n w (by omega) (by omega) (by omega)
theorem info64:(Tryz.prog.info? 185).map (·.size)=some 64:=by kernel_rfl
set_option maxRecDepth 100000 in
set_option maxHeartbeats 1600000 in
theorem counts_any(A:Option Addr)(cap:Nat)(l:List (Int × Int))(w:World)(hl:l.length≤9223372036854775807)(h:Stamps w A l) :
  Calls Tryz.prog 157 #[.slice A l.length cap] w fun e w'=>e = .returned (.agg (Ve.arr (Ve.cnt l)))∧Below w.heap.size w w':=by
 have HS:=Hd h
 clear h
 go_enter Tryz.func157,Tryz.ntmps157
 go_wp2_with fail
 rw[←Ve.arr_zero]
 go_loopw [4] (fun s4 wr=>((s4 = .int .i64 (-1)∧Blk wr (w.heap.size+1) 185 (Ve.arr (Ve.cnt l)))∨(∃m:Nat,m<l.length∧s4 = .int .i64 (m:Int)∧Blk wr (w.heap.size+1) 185 (Ve.arr (Ve.cnt (l.drop (m+1)))))) ∧
   Blk wr w.heap.size 185 (Ve.arr fun _=>0)∧Below w.heap.size w wr) (fun s4 _=>(intOf s4+1).toNat)
 case atStart=>
  refine⟨?_,(Blk.new _ _ _).alloc _,below_new (below_new (Below.refl _ _) _) _⟩
  have hb:=Blk.new (w.alloc (.cells (Ve.arr fun _=>0) 185)) 185 (Ve.arr fun _=>0)
  rw[show(w.alloc (.cells (Ve.arr fun _=>0) 185)).heap.size=w.heap.size+1 from by simp]at hb
  cases hc:l.length with
  |zero=>
   have hln:l=[]:=List.eq_nil_of_length_eq_zero hc
   subst hln
   exact .inl ⟨rfl,hb⟩
  |succ m=>
   refine .inr ⟨m,by omega,by go_num,?_⟩
   rw[List.drop_of_length_le (by omega)]
   exact hb
 case round=>
  obtain⟨hm,hB0,hbw⟩:=hrel
  rcases hm with ⟨rfl,hB1⟩|⟨m,hml,rfl,hB1⟩
  ·go_wp2_with (first|(refine wpList_load_row rfl 185 _ rfl (w.heap.size+1) rfl 185 _ (0,0) _ hB1 Tryz.underlying185 rfl (by rw[Ve.arr_size];exact info64) ?_)|(refine wpList_store_row rfl 185 _ _ rfl w.heap.size _ rfl rfl 185 _ hB0 (by rw[Ve.arr_size];exact info64) (by rw[Ve.arr_size,Ve.arr_size]) (one_arr _) ?_))
   refine bodyPost_ret (v :=.agg (Ve.arr (Ve.cnt l))) (results_cell_row rfl _ _ w.heap.size 185 (Ve.arr (Ve.cnt l)) (0,0) _ rfl (setRow_heap _ _ _ _ _ _ hB0) Tryz.underlying185 rfl (by rw[Ve.arr_size];exact info64)) rfl ⟨rfl,below_setRow hbw (Nat.le_refl _) _⟩
  ·have hne:l≠[]:=fun e=>by subst e;simp at hml
   obtain⟨b,off,hA,hc⟩:=HS.out hne
   subst hA
   obtain⟨e0,e1⟩:=hc m hml
   have hb0:b<w.heap.size:=World.block_lt_of_cell? _ _ e0
   rw[List.getD_eq_getElem?_getD,List.getElem?_eq_getElem hml,Option.getD_some]at e0 e1
   have f0:=(hbw.cell (p:=⟨b,_,none⟩) hb0).trans e0
   have f1:=(hbw.cell (p:=⟨b,_,none⟩) hb0).trans e1
   have hcd:=Ve.cnt_drop l m hml
   have HCD:=Hd hcd
   have HB1:=Hd hB1
   have HB0:=Hd hB0
   clear e0 e1 hc hcd hB1 hB0
   have hi0:(0:Int)≤(m:Int):=by omega
   have hi1:(m:Int)<(l.length:Int):=by omega
   have fin:∀wx,Blk wx (w.heap.size+1) 185 (Ve.arr (Ve.cnt (l.drop m)))→Blk wx w.heap.size 185 (Ve.arr fun _=>0)→Below w.heap.size w wx →
     (((Value.int .i64 ((m:Int)-1) = .int .i64 (-1)∧Blk wx (w.heap.size+1) 185 (Ve.arr (Ve.cnt l)))∨(∃m':Nat,m'<l.length∧Value.int .i64 ((m:Int)-1) = .int .i64 (m':Int)∧Blk wx (w.heap.size+1) 185 (Ve.arr (Ve.cnt (l.drop (m'+1)))))) ∧
      Blk wx w.heap.size 185 (Ve.arr fun _=>0)∧Below w.heap.size w wx):=by
    intro wx h1 h2 h3
    refine⟨?_,h2,h3⟩
    cases m with
    |zero=>exact .inl ⟨by simp,by simpa using h1⟩
    |succ m=>exact .inr ⟨m,by omega,by rw[show((m+1:Nat):Int)-1=(m:Int) from by omega],h1⟩
   have FIN:=Hd fin
   clear fin
   go_wp2_with fail
   refine(rright_any _ _ _).mono ?_
   rintro e w1 ⟨rfl,hb1⟩
   have hbx:=below_on hbw hb1
   have B1:=HB1.out.later hb1
   have B0:=HB0.out.later hb1
   cases hr:St.rgt l[m].1 l[m].2
   ·have hs:∀i,i<64→Ve.cnt (l.drop (m+1)) i=Ve.cnt (l.drop m) i:=fun i _=>by rw[HCD.out i,if_neg (by rw[hr];simp)]
    have B2:=Hd (B1.same hs)
    have B3:=Hd B0
    clear B1 B0 hr hs
    go_wp2_with fail
    go_roundw
    case rel=>exact FIN.out _ B2.out B3.out hbx
    case measure=>simp[intOf]
   ·have hrr:1≤l[m].1∧0≤l[m].2∧l[m].2≤63:=by unfold St.rgt at hr;exact of_decide_eq_true hr
    obtain⟨nn,hnn⟩:∃nn:Nat,l[m].2=(nn:Int):=⟨l[m].2.toNat,by omega⟩
    have hn64:nn<64:=by omega
    have hs:∀i,i<64→(if i=nn then l[m].1 else Ve.cnt (l.drop (m+1)) i)=Ve.cnt (l.drop m) i:=fun i _=>by
     rw[HCD.out i,hr,hnn]
     by_cases hi:i=nn
     ·rw[if_pos hi,if_pos ⟨rfl,by rw[hi]⟩]
     ·rw[if_neg hi,if_neg (fun h=>hi (by have:=h.2;omega))]
    have g0:=cell_later hb1 f0
    have g1:=cell_later hb1 f1
    rw[hnn]at g1
    have c1:=B1.arr_cell nn hn64
    have c2:=B1.free nn
    have B2:=Hd ((B1.arr_put nn hn64 l[m].1).same hs)
    have B3:=Hd (B0.far (p:=⟨w.heap.size+1,nn,none⟩) (by simp) (.int .i64 l[m].1))
    have hj0:(0:Int)≤(nn:Int):=by omega
    have hj1:(nn:Int)<64:=by omega
    clear B1 B0 hr hs hrr hnn f0 f1
    go_wp2_with fail
    go_region
    go_wp2_with fail
    go_roundw
    case rel=>exact FIN.out _ B2.out.drew B3.out.drew (hbx.setCell (by simp) _).drew
    case measure=>simp[intOf]
theorem index_arr(f:Nat→Int)(k:Nat)(hk:k<64)(w:World):(Instr.index 185 (.agg (Ve.arr f)) (.int .i64 (k:Int))).run Tryz.prog w = .ok (.int .i64 (f k)) w:=by
 have h1:=Ve.arr_get f k hk
 simp[Instr.index,asIntOf,run_underlying Tryz.underlying185,part,Tryz.isAgg3,Tryz.sizeOf3,h1]
 intro h
 exact absurd h (by omega)
set_option maxHeartbeats 800000 in
theorem rcount_any(A:Option Addr)(c1:Nat)(l:List (Int × Int))(n:Int)(w:World)(hl:l.length≤9223372036854775807)(h1:Stamps w A l) :
  Calls Tryz.prog 103 #[.slice A l.length c1,.int .i64 n] w fun e w'=>e = .returned (.int .i64 (countOf l n))∧Below w.heap.size w w':=by
 have H1:=Hd h1
 clear h1
 by_cases h0:n<0
 ·have hc:countOf l n=0:=by unfold countOf;rw[if_neg (by omega)]
  have HC:=Hd hc
  clear hc
  have hd:decide (n<0)=true:=decide_eq_true h0
  go_enter Tryz.func103,Tryz.ntmps103
  go_wp2
  go_ret
  exact⟨by rw[HC.out];rfl,Below.refl _ _⟩
 ·have hd:decide (n<0)=false:=decide_eq_false h0
  by_cases h2:63<n
  ·have hc:countOf l n=0:=by unfold countOf;rw[if_neg (by omega)]
   have HC:=Hd hc
   clear hc
   have hd2:decide (63<n)=true:=decide_eq_true h2
   go_enter Tryz.func103,Tryz.ntmps103
   go_wp2
   go_ret
   exact⟨by rw[HC.out];rfl,Below.refl _ _⟩
  ·obtain⟨k,rfl⟩:∃k:Nat,n=(k:Int):=⟨n.toNat,by omega⟩
   have hk:k<64:=by omega
   have hc:countOf l (k:Int)=Ve.cnt l k:=by unfold countOf;rw[if_pos (by omega)];rfl
   have HC:=Hd hc
   have hd2:decide (63<(k:Int))=false:=decide_eq_false h2
   have n1:=fun w h=>counts_any A c1 l w hl h
   have N1:=Hd n1
   clear hc n1
   have hix:=fun w=>index_arr (Ve.cnt l) k hk w
   go_enter Tryz.func103,Tryz.ntmps103
   go_wp2_with fail
   refine(N1.out _ H1.out).mono ?_
   rintro e w2 ⟨rfl,hb2⟩
   go_wp2
   go_ret
   exact⟨by rw[HC.out];rfl,hb2⟩
set_option maxHeartbeats 1600000 in
theorem rhas_any(A:Option Addr)(c1:Nat)(l:List (Int × Int))(c n:Int)(w:World)(hl:l.length≤9223372036854775807)(h1:Stamps w A l) :
  Calls Tryz.prog 35 #[.slice A l.length c1,.agg #[.int .i64 c,.int .i64 n]] w fun e w'=>e = .returned (.bool (hasOf l c n))∧Below w.heap.size w w':=by
 have hb0:=below_new (Below.refl w.heap.size w) (.cells #[.int .i64 c,.int .i64 n] 46)
 have hB:=Blk.new w 46 #[.int .i64 c,.int .i64 n]
 have h1':=h1.later hb0
 clear h1
 obtain⟨W,hW⟩:∃W,w.alloc (.cells #[.int .i64 c,.int .i64 n] 46)=W:=⟨_,rfl⟩
 rw[hW]at hb0 hB h1'
 have HW:=Hd hW
 clear hW
 have k0:∀d os,(Sort.grow (redrawn W d) os).cell? ⟨w.heap.size,0,none⟩=some (.int .i64 c):=cell_regrown (hB.cell rfl)
 have k1:∀d os,(Sort.grow (redrawn W d) os).cell? ⟨w.heap.size,1,none⟩=some (.int .i64 n):=cell_regrown (hB.cell rfl)
 clear hB
 cases hr:St.rgt c n
 all_goals
  have hh:hasOf l c n=(St.rgt c n&&decide (c≤countOf l n)):=rfl
  rw[hr]at hh
  have HH:=Hd hh
  have cR:∀d os,Calls Tryz.prog 102 #[.agg #[.int .i64 c,.int .i64 n]] (Sort.grow (redrawn W d) os) fun e w''=>e = .returned (.bool (St.rgt c n))∧∃p:Regrown,w''=Sort.grow (redrawn W p.d) p.os:=fun d os=>Calls.regrown_of (rright_any c n _)
  have cC:∀d os,Calls Tryz.prog 103 #[.slice A l.length c1,.int .i64 n] (Sort.grow (redrawn W d) os) fun e w''=>e = .returned (.int .i64 (countOf l n))∧∃p:Regrown,w''=Sort.grow (redrawn W p.d) p.os:=fun d os=>Calls.regrown_of (rcount_any A c1 l n _ hl (h1'.later (below_regrown W d os)))
  rw[hr]at cR
  have CR:=Hd cR
  have CC:=Hd cC
  clear hh hr cR cC
  go_enter Tryz.func35,Tryz.ntmps35
  go_wp2_with fail
  rw[HW.out]
  refine wp_region_quiet_below (by kernel_rfl) (by kernel_rfl) ?_
  repeat (first|go_big_quiet_step (first|exact CR.out _ _|exact CC.out _ _)|quiet_step (first|exact CR.out _ _|exact CC.out _ _))
  refine wpQuiet_nil ?_
  intro _ hw'
  obtain⟨⟨dq,osq⟩,hw''⟩:=hw'
  subst hw''
  go_wp2
  go_ret
  exact⟨by rw[HH.out];rfl,below_on hb0 (below_regrown W dq osq)⟩
set_option maxHeartbeats 1600000 in
theorem rsame_any(A B:Option Addr)(c1 c2:Nat)(l r:List (Int × Int))(w:World)(hl:l.length≤9223372036854775807)(h1:Stamps w A l)(h2:Stamps w B r) :
  Calls Tryz.prog 18 #[.slice A l.length c1,.slice B r.length c2] w fun e w'=>e = .returned (.bool (decide (l=r)))∧Below w.heap.size w w':=by
 have H1:=Hd h1
 have H2:=Hd h2
 clear h1 h2
 by_cases hlen:l.length=r.length
 ·have hd0:((l.length:Int) != (r.length:Int))=false:=by rw[bne_eq_false_iff_eq];omega
  have HLEN:=Hd hlen
  have hr1:r.length≤l.length:=by omega
  have hr2:l.length≤r.length:=by omega
  clear hlen
  go_enter Tryz.func18,Tryz.ntmps18
  go_wp2_with fail
  go_loopw [5] (fun s5 wr=>∃k:Nat,k≤l.length∧s5 = .int .i64 (k:Int)∧(∀j,j<k→l.getD j (0,0)=r.getD j (0,0))∧Below w.heap.size w wr) (fun s5 _=>l.length-(intOf s5).toNat)
  case atStart=>exact⟨0,Nat.zero_le _,rfl,fun j hj=>by omega,Below.refl _ _⟩
  case round=>
   obtain⟨k,hk,rfl,heq,hbw⟩:=hrel
   have HEQ:=Hd heq
   clear heq
   by_cases hlt:k<l.length
   ·have hne:l≠[]:=fun e=>by subst e;simp at hlt
    have hne2:r≠[]:=fun e=>by have:=HLEN.out;subst e;simp at this;exact hne this
    obtain⟨b,off,hA,hcA⟩:=(H1.out.later hbw) hne
    obtain⟨b',off',hB,hcB⟩:=(H2.out.later hbw) hne2
    obtain⟨e0,e1⟩:=hcA k hlt
    obtain⟨f0,f1⟩:=hcB k (by omega)
    have H1':=H1
    have H2':=H2
    subst hA hB
    clear hcA hcB
    have hi0:(0:Int)≤(k:Int):=by omega
    have hi1:(k:Int)<(l.length:Int):=by omega
    have hi2:(k:Int)<(r.length:Int):=by omega
    obtain⟨x,hx⟩:∃x,l.getD k (0,0)=x:=⟨_,rfl⟩
    obtain⟨y,hy⟩:∃y,r.getD k (0,0)=y:=⟨_,rfl⟩
    rw[hx]at e0 e1
    rw[hy]at f0 f1
    have HX:=Hd hx
    have HY:=Hd hy
    clear hx hy
    by_cases hxy:x=y
    ·subst hxy
     go_wp2_with fail
     go_quiet (fail)
     go_wp2_with fail
     go_roundw
     case rel=>
      refine⟨k+1,by omega,by go_num,?_,below_drewN hbw _⟩
      intro j hj
      by_cases e:j=k
      ·subst e;rw[HX.out,HY.out]
      ·exact HEQ.out j (by omega)
     case measure=>simp[intOf];omega
    ·have hno:decide (l=r)=false:=decide_eq_false (fun e=>hxy (by rw[←HX.out,←HY.out,e]))
     have HNO:=Hd hno
     clear hno
     obtain⟨x1,x2⟩:=x
     obtain⟨y1,y2⟩:=y
     by_cases h1:x1=y1
     ·subst h1
      have h2:(x2 == y2)=false:=beq_eq_false_iff_ne.2 (fun e=>hxy (by rw[e]))
      clear hxy
      go_wp2_with fail
      go_quiet (fail)
      go_wp2
      go_ret
      exact⟨by rw[HNO.out];rfl,below_drewN hbw _⟩
     ·have h1b:(x1 == y1)=false:=beq_eq_false_iff_ne.2 h1
      clear hxy h1
      go_wp2_with fail
      go_quiet (fail)
      go_wp2
      go_ret
      exact⟨by rw[HNO.out];rfl,below_drewN hbw _⟩
   ·have hyes:decide (l=r)=true:=decide_eq_true (take_ext HLEN.out (fun j hj=>HEQ.out j (by omega)))
    have HY:=Hd hyes
    clear hyes
    go_wp2
    go_ret
    exact⟨by rw[HY.out];rfl,hbw⟩
 ·have hd0:((l.length:Int) != (r.length:Int))=true:=by rw[bne_iff_ne];omega
  have hno:decide (l=r)=false:=decide_eq_false (fun e=>hlen (by rw[e]))
  have HNO:=Hd hno
  clear hno
  go_enter Tryz.func18,Tryz.ntmps18
  go_wp2
  go_ret
  exact⟨by rw[HNO.out];rfl,Below.refl _ _⟩
set_option maxHeartbeats 800000 in
theorem rcopy_any(A:Option Addr)(c1:Nat)(l:List (Int × Int))(w:World)(hl:l.length*16≤140737488355328)(hA:A=none→l.length=0∧c1=0)(h1:Lies w A (stCells l)) :
  Calls Tryz.prog 46 #[.slice A l.length c1] w (Gives l w):=by
 obtain⟨i0,hi,hz0,hz1,hz2⟩:=info_parts infoSt
 have hown:(w.alloc (.cells #[] 46)).ownsRow w.heap.size 46 2 (.slice (some ⟨w.heap.size,0,none⟩) 0 0) 0 []:=
  ⟨rfl,.inr ⟨w.heap.size,0,#[],rfl,Nat.le_refl _,heap_alloc_new w _,Nat.le_refl _,Nat.zero_le _,rfl,rfl⟩⟩
 have HA:=Hd hA
 clear hA
 go_enter Tryz.func46,Tryz.ntmps46
 go_wp2_with (at_builtin;refine wpList_append_lies _ rfl _ _ 22 rfl w.heap.size 46 i0 (.agg #[.int .i64 0,.int .i64 0]) 2 16 Tryz.underlying22 hi hz0 hz1 hz2 rfl (by decide) _ 0 [] rfl hown A l.length c1 HA.out (stCells l) rfl (stCells_length l) (h1.alloc _) (stCells_one l) ?c3 ?c4 ?c5 ?_)
 case c3=>unfold maxLen;omega
 case c4=>omega
 case c5=>simp
 intro v' w1 hown1 hg1 _
 have hbw:Below w.heap.size w w1:=(below_new (Below.refl _ _) (.cells #[] 46)).grown hg1 (by simp) (by intro k hk;simp[Value.ownBlock]at hk;omega)
 try simp only[Nat.zero_add,List.nil_append]at hown1
 have HO:=Hd hown1
 clear hown hown1 hg1
 go_wp2
 go_ret
 exact⟨_,rfl,HO.out,hbw⟩
set_option maxHeartbeats 1600000 in
theorem rformed_any(A:Option Addr)(c1:Nat)(l:List (Int × Int))(w:World)(hl:l.length≤9223372036854775807)(h1:Stamps w A l) :
  Calls Tryz.prog 53 #[.slice A l.length c1] w fun e w'=>e = .returned (.bool (Ve.fmd l))∧Below w.heap.size w w':=by
 have H1:=Hd h1
 clear h1
 go_enter Tryz.func53,Tryz.ntmps53
 go_wp2_with fail
 go_loopw [3] (fun s3 wr=>∃k:Nat,k≤l.length∧s3 = .int .i64 (k:Int)∧Ve.fmTo l k∧Below w.heap.size w wr) (fun s3 _=>l.length-(intOf s3).toNat)
 case atStart=>exact⟨0,Nat.zero_le _,rfl,fun j hj=>by omega,Below.refl _ _⟩
 case round=>
  obtain⟨k,hk,rfl,heq,hbw⟩:=hrel
  have HEQ:=Hd heq
  clear heq
  by_cases hlt:k<l.length
  ·have hne:l≠[]:=fun e=>by subst e;simp at hlt
   obtain⟨b,off,hA,hcA⟩:=(H1.out.later hbw) hne
   subst hA
   obtain⟨e0,e1⟩:=hcA k hlt
   have hi0:(0:Int)≤(k:Int):=by omega
   have hi1:(k:Int)<(l.length:Int):=by omega
   obtain⟨x,hx⟩:∃x,l.getD k (0,0)=x:=⟨_,rfl⟩
   rw[hx]at e0 e1
   have k0:∀d os,(Sort.grow (redrawn wr d) os).cell? ⟨b,off+k*2,none⟩=some (.int .i64 x.1):=cell_regrown e0
   have k1:∀d os,(Sort.grow (redrawn wr d) os).cell? ⟨b,off+k*2+1,none⟩=some (.int .i64 x.2):=cell_regrown e1
   have cR:∀d os,Calls Tryz.prog 102 #[.agg #[.int .i64 x.1,.int .i64 x.2]] (Sort.grow (redrawn wr d) os) fun e w''=>e = .returned (.bool (St.rgt x.1 x.2))∧∃p:Regrown,w''=Sort.grow (redrawn wr p.d) p.os:=fun d os=>Calls.regrown_of (rright_any x.1 x.2 _)
   clear e0 e1
   cases hr:St.rgt x.1 x.2
   ·rw[hr]at cR
    have hno:Ve.fmd l=false:=Ve.fmd_no k hlt (fun h=>by rw[hx,hr]at h;exact absurd h.1 (by simp))
    have HNO:=Hd hno
    have CR:=Hd cR
    have HX:=Hd hx
    clear hno cR hx hcA hr
    go_wp2_with fail
    refine wp_region_quiet_below (by kernel_rfl) (by kernel_rfl) ?_
    repeat (first|go_big_quiet_step (exact CR.out _ _)|quiet_step (exact CR.out _ _))
    refine wpQuiet_nil ?_
    intro _ hw'
    obtain⟨⟨dq,osq⟩,hw''⟩:=hw'
    subst hw''
    go_wp2
    go_ret
    exact⟨by rw[HNO.out];rfl,below_on hbw (below_regrown wr dq osq)⟩
   ·rw[hr]at cR
    cases k with
    |zero=>
     simp only[Nat.zero_mul,Nat.add_zero]at k0 k1
     have HX:=Hd hx
     have HR:=Hd hr
     have CR:=Hd cR
     clear cR hx hcA hr
     go_wp2_with fail
     refine wp_region_quiet_below (by kernel_rfl) (by kernel_rfl) ?_
     repeat (first|go_big_quiet_step (exact CR.out _ _)|quiet_step (exact CR.out _ _))
     refine wpQuiet_nil ?_
     intro _ hw'
     obtain⟨⟨dq,osq⟩,hw''⟩:=hw'
     subst hw''
     go_wp2_with fail
     go_roundw
     case rel=>
      refine⟨1,by omega,by go_num,?_,below_on hbw (below_regrown wr dq osq)⟩
      intro j hj
      have hj0:j=0:=by omega
      subst hj0
      exact⟨by rw[HX.out];exact HR.out,fun h=>absurd h (by omega)⟩
     case measure=>simp[intOf];omega
    |succ m=>
     obtain⟨_,f1⟩:=hcA m (by omega)
     obtain⟨y,hy⟩:∃y,l.getD m (0,0)=y:=⟨_,rfl⟩
     rw[hy]at f1
     have k2:∀d os,(Sort.grow (redrawn wr d) os).cell? ⟨b,off+m*2+1,none⟩=some (.int .i64 y.2):=cell_regrown f1
     clear f1
     have hm1:((m+1:Nat):Int)-1=(m:Int):=by omega
     have hj0:(0:Int)≤(m:Int):=by omega
     have hj1:(m:Int)<(l.length:Int):=by omega
     have hg:decide (((m+1:Nat):Int)>0)=true:=decide_eq_true (by omega)
     by_cases hge:y.2<x.2
     ·have hd:decide (y.2<x.2)=true:=decide_eq_true hge
      have HX:=Hd hx
      have HY:=Hd hy
      have HR:=Hd hr
      have CR:=Hd cR
      clear cR hx hcA hr hy
      go_wp2_with fail
      refine wp_region_quiet_below (by kernel_rfl) (by kernel_rfl) ?_
      repeat (first|go_big_quiet_step (exact CR.out _ _)|quiet_step (exact CR.out _ _))
      refine wpQuiet_nil ?_
      intro _ hw'
      obtain⟨⟨dq,osq⟩,hw''⟩:=hw'
      subst hw''
      go_wp2_with fail
      go_roundw
      case rel=>
       refine⟨m+1+1,by omega,by go_num,?_,below_on hbw (below_regrown wr dq osq)⟩
       intro j hj
       by_cases e:j=m+1
       ·subst e
        exact⟨by rw[HX.out];exact HR.out,fun _=>by rw[show m+1-1=m from rfl,HX.out,HY.out];exact hge⟩
       ·exact HEQ.out j (by omega)
      case measure=>simp[intOf];omega
     ·have hd:decide (y.2<x.2)=false:=decide_eq_false hge
      have hno:Ve.fmd l=false:=Ve.fmd_no (m+1) hlt (fun h=>hge (by have:=h.2 (by omega);rw[show m+1-1=m from rfl,hx,hy]at this;exact this))
      have HNO:=Hd hno
      have HX:=Hd hx
      have HY:=Hd hy
      have CR:=Hd cR
      clear hno cR hx hcA hr hy
      go_wp2_with fail
      refine wp_region_quiet_below (by kernel_rfl) (by kernel_rfl) ?_
      repeat (first|go_big_quiet_step (exact CR.out _ _)|quiet_step (exact CR.out _ _))
      refine wpQuiet_nil ?_
      intro _ hw'
      obtain⟨⟨dq,osq⟩,hw''⟩:=hw'
      subst hw''
      go_wp2
      go_ret
      exact⟨by rw[HNO.out];rfl,below_on hbw (below_regrown wr dq osq)⟩
  ·have hkl:k=l.length:=by omega
   subst hkl
   have hyes:Ve.fmd l=true:=(Ve.fmd_iff l).2 HEQ.out
   have HY:=Hd hyes
   clear hyes
   go_wp2
   go_ret
   exact⟨by rw[HY.out];rfl,hbw⟩
namespace Tr
theorem atI_none{zs:List Zn}{o:Int}(h:∀j,j<zs.length→holds (zs.getD j (0,0,[])) o=false):atI zs o = -1:=by
 rcases at_ways zs o with ⟨h1,-,-⟩|⟨k,h1,-,-,h4,-⟩
 ·exact h1
 ·rw[h k h1]at h4;cases h4
theorem atI_some{zs:List Zn}{o:Int}{k:Nat}(hk:k<zs.length)(h:holds (zs.getD k (0,0,[])) o=true)(hb:∀j,j<k→holds (zs.getD j (0,0,[])) o=false):atI zs o=(k:Int):=by
 rcases at_ways zs o with ⟨-,-,h1⟩|⟨i,h1,h2,-,h4,h5⟩
 ·rw[h1 k hk]at h;cases h
 ·rcases Nat.lt_trichotomy i k with hl|rfl|hl
  ·rw[hb i hl]at h4;cases h4
  ·exact h2
  ·rw[h5 k hl]at h;cases h
end Tr
end Go.Proofs.YtjlfehpockfkdaaGreat
namespace Go.Proofs.YtjlfehpockfkdaaGreat
open Go.ChangeShapes Go.WideShapes Go.RowKit Go.Deep
set_option maxRecDepth 100000
section
variable {H:Type} {enc:TypeId × Value→H} {w:World}
theorem znInt:Tryz.prog.cellsOf 3=1:=by kernel_rfl
theorem znSt:Tryz.prog.cellsOf 46=2:=by kernel_rfl
theorem znSp:Tryz.prog.cellsOf 97=2:=by kernel_rfl
theorem znLS:Tryz.prog.cellsOf 22=1:=by kernel_rfl
theorem zn_stampE(fuel:Nat)(cs:List Value)(x:DataW H × List MemPlace)(h:DataW.trod enc Tryz.prog w 0 (fun _=>true) true fuel 46 cs=some x):∃a:Int × Int,cs=stCells [a]:=by
 obtain⟨y0,y1,m,hx,hl,q0,q1⟩:=trod_struct2 Tryz.underlying46 h
 rw[znSt]at hl
 obtain⟨a0,a1,rfl⟩:=list2 hl
 dsimp only at q0 q1
 rw[znInt]at q0 q1
 obtain⟨n,e0,_,_⟩:=DataW.trod_int Tryz.underlying3 q0
 obtain⟨s,e1,_,_⟩:=DataW.trod_int Tryz.underlying3 q1
 simp at e0 e1
 subst e0 e1
 exact⟨(n,s),rfl⟩
theorem zn_flat(l:List (Int × Int)):l.flatMap (fun n=>stCells [n])=stCells l:=by
 induction l with
 |nil=>rfl
 |cons s r ih=>
  rw[List.flatMap_cons,ih]
  rfl
theorem zn_vecE{fuel:Nat}{cs:List Value}{x:DataW H × List MemPlace}(h:DataW.trod enc Tryz.prog w 0 (fun _=>true) true fuel 22 cs=some x):∃A c l,cs=[.slice A (List.length l) c]∧OneL w A c l∧LenG x.1 l.length:=by
 obtain⟨A,c,l,h1,h2,h3,h4,h5,h6⟩:=open_list_with ((0,0):Int × Int) (fun n=>stCells [n]) (fun _ _=>True) (size:=2) (fun _=>rfl) Tryz.underlying22 znSt (by decide) (fun fuel cs x h=>(zn_stampE fuel cs x h).imp fun _ h=>⟨h,trivial⟩) h
 rw[zn_flat]at h5
 refine⟨A,c,l,h1,⟨h2,h3,h4,h5⟩,?_⟩
 rcases h6 with rfl|⟨el,sp,h7,h8,_⟩
 ·exact .inl rfl
 ·exact .inr ⟨el,sp,h7,h8⟩
theorem zn_spanE(fuel:Nat)(cs:List Value)(x:DataW H × List MemPlace)(h:DataW.trod enc Tryz.prog w 0 (fun _=>true) true fuel 97 cs=some x):∃a:Int × Int,cs=stCells [a]:=by
 obtain⟨y0,y1,m,hx,hl,q0,q1⟩:=trod_struct2 Tryz.underlying97 h
 rw[znSp]at hl
 obtain⟨a0,a1,rfl⟩:=list2 hl
 dsimp only at q0 q1
 rw[znInt]at q0 q1
 obtain⟨n,e0,_,_⟩:=DataW.trod_int Tryz.underlying3 q0
 obtain⟨s,e1,_,_⟩:=DataW.trod_int Tryz.underlying3 q1
 simp at e0 e1
 subst e0 e1
 exact⟨(n,s),rfl⟩
theorem zn_setE{fuel:Nat}{cs:List Value}{x:DataW H × List MemPlace}(h:DataW.trod enc Tryz.prog w 0 (fun _=>true) true fuel 28 cs=some x):∃A c l,cs=[.slice A (List.length l) c]∧OneL w A c l:=by
 obtain⟨A,c,l,h1,h2,h3,h4,h5,h6⟩:=open_list_with ((0,0):Int × Int) (fun n=>stCells [n]) (fun _ _=>True) (size:=2) (fun _=>rfl) Tryz.underlying28 znSp (by decide) (fun fuel cs x h=>(zn_spanE fuel cs x h).imp fun _ h=>⟨h,trivial⟩) h
 rw[zn_flat]at h5
 exact⟨A,c,l,h1,h2,h3,h4,h5⟩
end
end Go.Proofs.YtjlfehpockfkdaaGreat
namespace Go.Proofs.YtjlfehpockfkdaaGreat
open Go.RowKit
theorem bCells_get(l:List Int)(k:Nat)(hk:k<l.length):(bCells l)[k]?=some (.int .u8 (l.getD k 0)):=by
 unfold bCells
 rw[List.getElem?_map,List.getElem?_eq_getElem hk,List.getD_eq_getElem?_getD,List.getElem?_eq_getElem hk]
 rfl
theorem bCells_nil{l:List Int}:bCells l=[]↔l=[]:=by unfold bCells;exact List.map_eq_nil_iff
section
variable {w w':World} {A:Option Addr} {c:Nat} {l:List Int}
theorem OneB.at(h:OneB w A c l)(hne:l≠[]):∃b off,A=some ⟨b,off,none⟩∧∀k,k<l.length→w.cell? ⟨b,off+k,none⟩=some (.int .u8 (l.getD k 0)):=by
 obtain⟨b,off,hA,hc⟩:=h.lies (fun e=>hne (bCells_nil.1 e))
 exact⟨b,off,hA,fun k hk=>hc _ _ (bCells_get l k hk)⟩
theorem OneB.text{P:Program}(h:OneB w A c l){src e dst:TypeId}(hs:P.underlying src=some (.slice e))(he:P.underlying e=some (.int .u8))(hd:P.underlying dst=some .string) :
  (convert src dst (.slice A l.length c)).run P w = .ok (.string (strOfNums l)) w:=by
 by_cases hne:l=[]
 ·subst hne
  cases A with
  |none=>
   rw[run_convert_bytes_nil w src e hs he _ _ dst hd]
   rfl
  |some a=>
   rw[run_convert_bytes_string w src dst e _ _ _ hs he hd,run_bytesToString w a ([]:List Int).length c [] (by first|rfl|(simp[loadCells];rfl))]
   rfl
 ·obtain⟨b,off,rfl,hc⟩:=h.at hne
  exact run_convert_bytes_arg w src e hs he b off l.length c l rfl hc dst hd
end
theorem str_inj{l r:List Int}(hl:∀x∈l,isB x)(hr:∀x∈r,isB x)(h:strOfNums l=strOfNums r):l=r:=by
 have h1:(l.map fun n=>UInt8.ofNat n.toNat)=r.map fun n=>UInt8.ofNat n.toNat:=by
  have:=congrArg (fun s:ByteArray=>s.data.toList) h
  simpa[strOfNums_data] using this
 have back:∀m:List Int,(∀x∈m,isB x)→(m.map fun n=>UInt8.ofNat n.toNat).map (fun u:UInt8=>(u.toNat:Int))=m:=fun m hm=>by
  rw[List.map_map]
  refine(List.map_congr_left fun x hx =>?_).trans (List.map_id m)
  have hb:=hm x hx
  show((UInt8.ofNat x.toNat).toNat:Int)=x
  rw[UInt8.toNat_ofNat']
  unfold isB at hb
  omega
 rw[←back l hl,←back r hr,h1]
theorem str_eq{l r:List Int}(hl:∀x∈l,isB x)(hr:∀x∈r,isB x):((strOfNums l).toList == (strOfNums r).toList)=decide (l=r):=by
 rw[←beq_toListBytes,Bool.eq_iff_iff,decide_eq_true_eq]
 exact⟨fun h=>str_inj hl hr ((MapKept.bytes_beq _ _).1 h),fun h=>by rw[h];exact(MapKept.bytes_beq _ _).2 rfl⟩
set_option maxHeartbeats 800000 in
theorem bsame_any(A B:Option Addr)(c1 c2:Nat)(l r:List Int)(w:World)(h1:OneB w A c1 l)(h2:OneB w B c2 r) :
  Calls Tryz.prog 29 #[.slice A l.length c1,.slice B r.length c2] w fun e w'=>e = .returned (.bool (decide (l=r)))∧Below w.heap.size w w':=by
 have k1:=h1.text (P:=Tryz.prog) Tryz.underlying47 Tryz.underlying5 Tryz.underlying9
 have k2:=h2.text (P:=Tryz.prog) Tryz.underlying47 Tryz.underlying5 Tryz.underlying9
 have ke:=str_eq h1.byte h2.byte
 obtain⟨q,hq⟩:∃q,decide (l=r)=q:=⟨_,rfl⟩
 rw[hq]at ke ⊢
 obtain⟨s,hs⟩:∃s,strOfNums l=s:=⟨_,rfl⟩
 obtain⟨t,ht⟩:∃t,strOfNums r=t:=⟨_,rfl⟩
 rw[hs]at k1 ke
 rw[ht]at k2 ke
 clear h1 h2 hq hs ht
 go_enter Tryz.func29,Tryz.ntmps29
 go_wp2
 go_ret
 exact⟨by first|rfl|(rw[←ke];rfl),Below.refl _ _⟩
set_option maxHeartbeats 3200000 in
theorem bsamebody_any(D D':Option Addr)(d d':Nat)(x y:Bd)(w:World)(hx:OneB w D d x.v)(hy:OneB w D' d' y.v) :
  Calls Tryz.prog 39 #[.agg (bdCells D d x),.agg (bdCells D' d' y)] w (Says (.bool (Wi.bsame x y)) w):=by
 obtain⟨o,c,n,l⟩:=x
 obtain⟨o',c',n',l'⟩:=y
 unfold bdCells
 simp only at hx hy ⊢
 obtain⟨W,hW⟩:∃W,(w.alloc (.cells #[.int .i64 o,.int .i64 c,.int .i64 n,.slice D l.length d] 49)).alloc (.cells #[.int .i64 o',.int .i64 c',.int .i64 n',.slice D' l'.length d'] 49)=W:=⟨_,rfl⟩
 have b1:=below_new (Below.refl w.heap.size w) (.cells #[.int .i64 o,.int .i64 c,.int .i64 n,.slice D l.length d] 49)
 have hb0:Below w.heap.size w W:=by rw[←hW];exact below_new b1 _
 have NS:=Hd (bsame_any D D' d d' l l' W (hx.later hb0) (hy.later hb0))
 have hR:=Hd (show Wi.bsame ⟨o,c,n,l⟩ ⟨o',c',n',l'⟩=(decide (o=o')&&(decide (c=c'∧n=n')&&decide (l=l'))) from rfl)
 obtain⟨sm,hsm⟩:∃sm,decide (l=l')=sm:=⟨_,rfl⟩
 rw[hsm]at NS hR
 have HW:=Hd hW
 clear hW hsm hx hy b1
 by_cases h0:o=o'
 ·subst h0
  by_cases h1:c=c'
  ·subst h1
   by_cases h2:n=n'
   ·subst h2
    go_enter Tryz.func39,Tryz.ntmps39
    go_wp2_with fail
    rw[HW.out]
    refine NS.out.mono ?_
    rintro e w1 ⟨rfl,b1⟩
    go_wp2
    go_ret
    exact⟨by rw[hR.out];first|rfl|simp,below_on hb0 b1⟩
   ·have d1:decide (c=c∧n=n')=false:=decide_eq_false (fun h=>h2 h.2)
    rw[d1]at hR
    have e2:(n == n')=false:=beq_eq_false_iff_ne.2 h2
    clear d1
    go_enter Tryz.func39,Tryz.ntmps39
    go_wp2_with fail
    rw[HW.out]
    go_wp2
    go_ret
    exact⟨by rw[hR.out];first|rfl|simp,hb0⟩
  ·have d1:decide (c=c'∧n=n')=false:=decide_eq_false (fun h=>h1 h.1)
   rw[d1]at hR
   have e1:(c == c')=false:=beq_eq_false_iff_ne.2 h1
   clear d1
   go_enter Tryz.func39,Tryz.ntmps39
   go_wp2_with fail
   rw[HW.out]
   go_wp2
   go_ret
   exact⟨by rw[hR.out];first|rfl|simp,hb0⟩
 ·have d0:decide (o=o')=false:=decide_eq_false h0
  rw[d0]at hR
  have e0:(o == o')=false:=beq_eq_false_iff_ne.2 h0
  clear d0
  go_enter Tryz.func39,Tryz.ntmps39
  go_wp2_with fail
  rw[HW.out]
  go_wp2
  go_ret
  exact⟨by rw[hR.out];first|rfl|simp,hb0⟩
end Go.Proofs.YtjlfehpockfkdaaGreat
namespace Go.Proofs.YtjlfehpockfkdaaGreat
open Go.ChangeShapes Go.WideShapes Go.RowKit Go.Deep
set_option maxRecDepth 100000
theorem ca_list4{cs:List Value}(h:cs.length=4):∃a0 a1 a2 a3,cs=[a0,a1,a2,a3]:=by
 match cs,h with
 | [a0,a1,a2,a3],_=>exact⟨a0,a1,a2,a3,rfl⟩
section
variable {H:Type} {enc:TypeId × Value→H} {w:World}
theorem caInt:Tryz.prog.cellsOf 3=1:=by kernel_rfl
theorem caB:Tryz.prog.cellsOf 5=1:=by kernel_rfl
theorem caLB:Tryz.prog.cellsOf 47=1:=by kernel_rfl
theorem caSt:Tryz.prog.cellsOf 46=2:=by kernel_rfl
theorem caBd:Tryz.prog.cellsOf 49=4:=by kernel_rfl
theorem ca_byteE(fuel:Nat)(cs:List Value)(x:DataW H × List MemPlace)(h:DataW.trod enc Tryz.prog w 0 (fun _=>true) true fuel 5 cs=some x):∃a:Int,cs=[.int .u8 a]∧isB a:=by
 obtain⟨a,e0,rfl,wa⟩:=DataW.trod_int Tryz.underlying5 h
 refine⟨a,e0,?_⟩
 have hb:IntKind.u8.min≤a∧a≤IntKind.u8.max:=by simpa[Lit.wf] using wa
 have e1:IntKind.u8.min=0:=by decide
 have e2:IntKind.u8.max=255:=by decide
 rw[e1,e2]at hb
 exact⟨hb.1,by omega⟩
theorem ca_flat(l:List Int):l.flatMap (fun n=>[Value.int .u8 n])=bCells l:=by
 induction l with
 |nil=>rfl
 |cons s r ih=>
  rw[List.flatMap_cons,ih]
  rfl
theorem ca_bytesE{fuel:Nat}{cs:List Value}{x:DataW H × List MemPlace}(h:DataW.trod enc Tryz.prog w 0 (fun _=>true) true fuel 47 cs=some x):∃A c l,cs=[.slice A (List.length l) c]∧OneB w A c l∧LenG x.1 l.length:=by
 obtain⟨A,c,l,h1,h2,h3,h4,h5,h6⟩:=open_list_with (0:Int) (fun n=>[Value.int .u8 n]) (fun a _=>isB a) (size:=1) (fun _=>rfl) Tryz.underlying47 caB (by decide) (fun fuel cs x h=>ca_byteE fuel cs x h) h
 rw[ca_flat]at h5
 refine⟨A,c,l,h1,⟨h2,h3,h4,h5,fun x hx =>?_⟩,?_⟩
 ·rcases h6 with rfl|⟨_,_,_,_,h7⟩
  ·cases hx
  ·obtain⟨_,_,h8⟩:=h7 x hx
   exact h8
 ·rcases h6 with rfl|⟨el,sp,h7,h8,_⟩
  ·exact .inl rfl
  ·exact .inr ⟨el,sp,h7,h8⟩
def BodyG(w:World)(f:Bc)(d:DataW H):Prop:=OneB w f.X f.d f.b.v∧∃d0 d1 d2,d = .agg [d0,d1,d2]∧LenG d2 f.b.v.length
theorem ca_bodyE(fuel:Nat)(cs:List Value)(x:DataW H × List MemPlace)(h:DataW.trod enc Tryz.prog w 0 (fun _=>true) true fuel 49 cs=some x):∃f:Bc,cs=Ca.cell f∧BodyG w f x.1:=by
 obtain⟨y0,y1,y2,m,hx,hl,q0,q1,q2⟩:=trod_struct3 Tryz.underlying49 h
 rw[caBd]at hl
 obtain⟨a0,a1,a2,a3,rfl⟩:=ca_list4 hl
 dsimp only at q0 q1 q2
 rw[caInt]at q0
 rw[caSt]at q1
 rw[caLB]at q2
 obtain⟨o,e0,_,_⟩:=DataW.trod_int Tryz.underlying3 q0
 obtain⟨c,n,e1,_,_,_,_⟩:=stamp_cells Tryz.underlying46 (by kernel_rfl) (by kernel_rfl) rfl rfl Tryz.underlying3 q1
 obtain⟨X,d,l,e2,o2,z2⟩:=ca_bytesE q2
 simp at e0 e1 e2
 obtain⟨rfl,rfl⟩:=e1
 subst e0 e2
 exact⟨⟨X,d,⟨o,c,n,l⟩⟩,rfl,o2,_,_,_,congrArg Prod.fst hx,z2⟩
end
end Go.Proofs.YtjlfehpockfkdaaGreat
namespace Go.Proofs.YtjlfehpockfkdaaGreat
open Go.ChangeShapes Go.WideShapes Go.RowKit Go.Deep
section
variable {H:Type} {enc:TypeId × Value→H} {P:Program} {w:World}
theorem write_cells{base:Nat}{spare:Nat→Bool}{held:Bool}{fuel:Nat}{t ti:TypeId}{g0 g1 g2 s0 s1:Field}{cs:List Value}{x:DataW H × List MemPlace}
  (hs:P.underlying t=some (.struct #[g0,g1,g2]))(hC:P.cellsOf t=4)(k0:P.cellsOf g0.type=2)(o0:g0.offset=0)(k1:P.cellsOf g1.type=1)(o1:g1.offset=2)(k2:P.cellsOf g2.type=1)(o2:g2.offset=3)
  (hss:P.underlying g0.type=some (.struct #[s0,s1]))(hone:Deep.oneCellFields P #[s0,s1]=true)(hi0:s0.type=ti)(hi1:s1.type=ti)(hi:P.underlying ti=some (.int .i64))(h1:P.underlying g1.type=some (.int .i64))(hb:P.underlying g2.type=some .bool)
  (h:DataW.trod enc P w base spare held fuel t cs=some x):∃y:Wr,cs=Nt.wrCell y:=by
 obtain⟨y0,y1,y2,m,rfl,hl,q0,q1,q2⟩:=trod_struct3 hs h
 rw[hC]at hl
 obtain⟨a0,a1,a2,a3,rfl⟩:∃a0 a1 a2 a3,cs=[a0,a1,a2,a3]:=by
  match cs,hl with
  | [a0,a1,a2,a3],_=>exact⟨a0,a1,a2,a3,rfl⟩
 rw[o0,k0]at q0
 rw[o1,k1]at q1
 rw[o2,k2]at q2
 obtain⟨c,n,e0,_⟩:=stamp_cells hss hone k0 hi0 hi1 hi q0
 obtain⟨o,e1,_,_⟩:=DataW.trod_int h1 q1
 obtain⟨g,e2,_⟩:=DataW.trod_bool hb q2
 simp at e0 e1 e2
 obtain⟨rfl,rfl⟩:=e0
 subst e1 e2
 exact⟨(c,n,o,g),rfl⟩
end
end Go.Proofs.YtjlfehpockfkdaaGreat
namespace Go.Proofs.YtjlfehpockfkdaaGreat
open Go.RowKit
theorem int_slice(a:Option Addr)(n c:Nat):intAt (.slice a n c)=false:=rfl
theorem byte_slice(a:Option Addr)(n c:Nat):byteAt (.slice a n c)=false:=rfl
theorem int_i64(x:Int):intAt (.int .i64 x)=true:=rfl
theorem byte_i64(x:Int):byteAt (.int .i64 x)=false:=rfl
section
variable {w:World} {g:Nat} {t:TypeId} {cs:Array Value}
theorem VwAt.puts{q p:Vl}(h:VwAt w q)(hB:Blk w g t (vwCells p)){x0 x1 x2 x3 x4:Value}(hd:dull #[x0,x1,x2,x3,x4]=true)(h0:intAt x0=false∧intAt x1=false∧intAt x2=false∧intAt x3=false∧byteAt x4=false) :
  VwAt (((((w.setCell ⟨g,0,Option.none⟩ x0).setCell ⟨g,1,Option.none⟩ x1).setCell ⟨g,2,Option.none⟩ x2).setCell ⟨g,3,Option.none⟩ x3).setCell ⟨g,4,Option.none⟩ x4) q:=by
 obtain⟨a0,a1,a2,a3,a4⟩:=h0
 have hd2:=hd
 simp only[dull,dullL,headInt,a0,a1,a2,a3,Bool.false_and,Bool.not_false,Bool.true_and,Bool.and_true,Bool.and_eq_true,Bool.not_eq_true']at hd2
 obtain⟨e0,e1,e2,e3,e4⟩:=hd2
 have B1:=hB.put 0 x0
 have B2:=B1.put 1 x1
 have B3:=B2.put 2 x2
 have B4:=B3.put 3 x3
 refine((((h.far hB ?_ 0 x0).far B1 ?_ 1 x1).far B2 ?_ 2 x2).far B3 ?_ 3 x3).far B4 ?_ 4 x4
 all_goals simp[dull,dullL,headInt,int_slice,byte_slice,int_i64,byte_i64,vwCells,a0,a1,a2,a3,e0,e1,e2,e3]
end
set_option maxRecDepth 100000 in
set_option maxHeartbeats 1600000 in
theorem zat_any(A:Option Addr)(c:Nat)(L:List Zc)(o:Int)(w:World)(h:OneZ w A c L) :
  Calls Tryz.prog 104 #[.slice A L.length c,.int .i64 o] w (Says (.int .i64 (Tr.atI (L.map Zc.zn) o)) w):=by
 have hlen:=h.len
 have HD:=Hd h
 obtain⟨r,hr⟩:∃r,Tr.atI (L.map Zc.zn) o=r:=⟨_,rfl⟩
 rw[hr]
 have HR:=Hd hr
 clear h hr
 go_enter Tryz.func104,Tryz.ntmps104
 go_wp2_with fail
 go_loopw [5] (fun s5 wr=>∃(k:Nat),k≤L.length∧s5 = .int .i64 (k:Int)∧(∀(u:Nat),u<k→Tr.holds ((L.map Zc.zn).getD u (0,0,[])) o=false)∧Below w.heap.size w wr) (fun s5 _=>L.length-(intOf s5).toNat)
 case atStart=>exact⟨0,Nat.zero_le _,rfl,fun u hu=>by omega,Below.refl _ _⟩
 case round=>
  obtain⟨k,hk,rfl,hno,hbw⟩:=hrel
  have HNO:=Hd hno
  clear hno
  by_cases hlt:k<L.length
  ·have hne:L≠[]:=fun e=>by subst e;simp at hlt
   obtain⟨b,off,hA,hc⟩:=(HD.out.later hbw).at hne
   subst hA
   obtain⟨x,hx⟩:∃x,L[k]?=some x:=⟨L[k],List.getElem?_eq_getElem hlt⟩
   obtain⟨e0,e1,-⟩:=hc k x hx
   have hg:=zn_getD hx
   have hi0:(0:Int)≤(k:Int):=by omega
   have hi1:(k:Int)<(L.length:Int):=by omega
   obtain⟨lo,hi,X,cx,l⟩:=x
   dsimp only at e0 e1
   have hh:Tr.holds ((L.map Zc.zn).getD k (0,0,[])) o=decide (lo≤o∧o≤hi):=by rw[hg];rfl
   have HH:=Hd hh
   clear hx hc hne hg hh
   have hnext:¬(lo≤o∧o≤hi)→∀(u:Nat),u<k+1→Tr.holds ((L.map Zc.zn).getD u (0,0,[])) o=false:=fun hn u hu=>by
    by_cases e:u=k
    ·subst e
     rw[HH.out,decide_eq_false hn]
    ·exact HNO.out u (by omega)
   have HNX:=Hd hnext
   clear hnext
   by_cases t1:lo≤o
   ·have d1:decide (lo≤o)=true:=decide_eq_true t1
    by_cases t2:o≤hi
    ·have d2:decide (o≤hi)=true:=decide_eq_true t2
     have hrk:r=(k:Int):=by
      rw[←HR.out]
      exact Tr.atI_some (by rw[List.length_map];exact hlt) (by rw[HH.out,decide_eq_true (⟨t1,t2⟩:lo≤o∧o≤hi)]) HNO.out
     subst hrk
     clear t1 t2
     go_wp2
     go_ret
     exact⟨rfl,hbw⟩
    ·have d2:decide (o≤hi)=false:=decide_eq_false t2
     have NX:=Hd (HNX.out (fun h=>t2 h.2))
     clear t1 t2
     go_wp2_with fail
     go_roundw
     case rel=>exact⟨k+1,by omega,by first|rfl|go_num,NX.out,hbw⟩
     case measure=>simp[intOf];omega
   ·have d1:decide (lo≤o)=false:=decide_eq_false t1
    have NX:=Hd (HNX.out (fun h=>t1 h.1))
    clear t1
    go_wp2_with fail
    go_roundw
    case rel=>exact⟨k+1,by omega,by first|rfl|go_num,NX.out,hbw⟩
    case measure=>simp[intOf];omega
  ·have hd:decide ((k:Int)<(L.length:Int))=false:=decide_eq_false (by omega)
   have hrk:r = -1:=by
    rw[←HR.out]
    exact Tr.atI_none (fun j hj=>HNO.out j (by rw[List.length_map]at hj;omega))
   subst hrk
   go_wp2
   go_ret
   exact⟨rfl,hbw⟩
set_option maxRecDepth 100000 in
set_option maxHeartbeats 6400000 in
theorem zformed_any(A:Option Addr)(c:Nat)(L:List Zc)(w:World)(h:OneZ w A c L) :
  Calls Tryz.prog 54 #[.slice A L.length c] w (Says (.bool (Tr.fmd (L.map Zc.zn))) w):=by
 have hlen:=h.len
 have HD:=Hd h
 obtain⟨q,hq⟩:∃q,Tr.fmd (L.map Zc.zn)=q:=⟨_,rfl⟩
 rw[hq]
 have HQ:=Hd hq
 clear h hq
 go_enter Tryz.func54,Tryz.ntmps54
 go_wp2_with fail
 go_loopw [3] (fun s3 wr=>∃(k:Nat),k≤L.length∧s3 = .int .i64 (k:Int)∧Tr.fmTo (L.map Zc.zn) k∧Below w.heap.size w wr) (fun s3 _=>L.length-(intOf s3).toNat)
 case atStart=>exact⟨0,Nat.zero_le _,rfl,fun u hu=>by omega,Below.refl _ _⟩
 case round=>
  obtain⟨k,hk,rfl,hall,hbw⟩:=hrel
  have HALL:=Hd hall
  clear hall
  by_cases hlt:k<L.length
  ·have hne:L≠[]:=fun e=>by subst e;simp at hlt
   have HO:=Hd (HD.out.later hbw)
   obtain⟨b,off,hA,hc⟩:=HO.out.at hne
   subst hA
   obtain⟨x,hx⟩:∃x,L[k]?=some x:=⟨L[k],List.getElem?_eq_getElem hlt⟩
   obtain⟨e0,e1,e2⟩:=hc k x hx
   have hg:=zn_getD hx
   have hi0:(0:Int)≤(k:Int):=by omega
   have hi1:(k:Int)<(L.length:Int):=by omega
   have hxo:=HO.out.one hx
   have HC:=Hd hc
   obtain⟨lo,hi,X,cx,l⟩:=x
   dsimp only at e0 e1 e2 hxo
   have hok:Tr.okAt (L.map Zc.zn) k↔((0≤lo∧lo≤hi∧hi≤255)∧Ve.fmd l=true∧(0<k→((L.map Zc.zn).getD (k-1) (0,0,[])).2.1<lo∧(((L.map Zc.zn).getD (k-1) (0,0,[])).2.1=lo-1→((L.map Zc.zn).getD (k-1) (0,0,[])).2.2≠l))):=by
    unfold Tr.okAt
    rw[hg]
    rfl
   have NO:=Hd (fun (hn:¬((0≤lo∧lo≤hi∧hi≤255)∧Ve.fmd l=true∧(0<k→((L.map Zc.zn).getD (k-1) (0,0,[])).2.1<lo∧(((L.map Zc.zn).getD (k-1) (0,0,[])).2.1=lo-1→((L.map Zc.zn).getD (k-1) (0,0,[])).2.2≠l))))=>(show q=false from by
    rw[←HQ.out]
    exact Tr.fmd_no k (by rw[List.length_map];exact hlt) (fun hh=>hn (hok.1 hh))))
   have NX:=Hd (fun (hn:((0≤lo∧lo≤hi∧hi≤255)∧Ve.fmd l=true∧(0<k→((L.map Zc.zn).getD (k-1) (0,0,[])).2.1<lo∧(((L.map Zc.zn).getD (k-1) (0,0,[])).2.1=lo-1→((L.map Zc.zn).getD (k-1) (0,0,[])).2.2≠l))))=>(show Tr.fmTo (L.map Zc.zn) (k+1) from fun u hu=>by
    by_cases e:u=k
    ·subst e;exact hok.2 hn
    ·exact HALL.out u (by omega)))
   obtain⟨W1,hW1⟩:∃W1,wr.alloc (.cells #[.int .i64 lo,.int .i64 hi] 97)=W1:=⟨_,rfl⟩
   have hb1:Below wr.heap.size wr W1:=by rw[←hW1];exact below_new (Below.refl _ _) _
   have XB:Blk W1 wr.heap.size 97 #[.int .i64 lo,.int .i64 hi]:=by rw[←hW1];exact Blk.new wr _ _
   have hx1:=hxo.later hb1
   have RF:=rformed_any X cx l W1 hx1.len hx1.stamps
   obtain⟨f,hf⟩:∃f,Ve.fmd l=f:=⟨_,rfl⟩
   rw[hf]at RF
   have NF:=Hd RF
   have HF:=Hd hf
   have BN:=Hd (below_on hbw hb1)
   have HB1:=Hd hb1
   have HXB:=Hd XB
   have HX1:=Hd hx1
   have HX:=Hd hx
   have k0:=XB.cell (i:=0) rfl
   have k1:=XB.cell (i:=1) rfl
   have HE2:=Hd e2
   have g2:=cell_later hb1 e2
   clear hg hok hc hne hxo hx hb1 XB hx1 RF hf e2
   go_upto_region 5 with (fail)
   try rw[hW1]
   clear hW1 e0 e1
   by_cases t1:lo<0
   ·have d1:decide (lo<0)=true:=decide_eq_true t1
    have hqf:=NO.out (fun h=>by omega)
    subst hqf
    go_wp2
    go_ret
    exact⟨rfl,BN.out⟩
   have d1:decide (lo<0)=false:=decide_eq_false t1
   by_cases t2:hi<lo
   ·have d2:decide (hi<lo)=true:=decide_eq_true t2
    have hqf:=NO.out (fun h=>by omega)
    subst hqf
    go_wp2
    go_ret
    exact⟨rfl,BN.out⟩
   have d2:decide (hi<lo)=false:=decide_eq_false t2
   by_cases t3:255<hi
   ·have d3:decide (255<hi)=true:=decide_eq_true t3
    have hqf:=NO.out (fun h=>by omega)
    subst hqf
    go_wp2
    go_ret
    exact⟨rfl,BN.out⟩
   have d3:decide (255<hi)=false:=decide_eq_false t3
   have T:=Hd (⟨by omega,by omega,by omega⟩:0≤lo∧lo≤hi∧hi≤255)
   cases f with
   |false=>
    have hqf:=NO.out (fun h=>by have:=h.2.1;rw[HF.out]at this;cases this)
    subst hqf
    clear t1 t2 t3
    go_wp2_with fail
    refine NF.out.mono ?_
    rintro e w2 ⟨rfl,b2⟩
    have BB:=Hd (below_on BN.out b2)
    clear b2 g2 k0 k1
    go_wp2
    go_ret
    exact⟨rfl,BB.out⟩
   |true=>
   clear t1 t2 t3
   go_wp2_with fail
   refine NF.out.mono ?_
   rintro e w2 ⟨rfl,b2⟩
   have hb2:=below_on HB1.out b2
   have BB:=Hd (below_on BN.out b2)
   have m0:∀d os,(Sort.grow (redrawn w2 d) os).cell? ⟨wr.heap.size,0,none⟩=some (.int .i64 lo):=cell_regrown ((HXB.out.later b2).cell rfl)
   have m2:∀d os,(Sort.grow (redrawn w2 d) os).cell? ⟨b,off+k*3+2,none⟩=some (.slice X l.length cx):=cell_regrown (cell_later hb2 HE2.out)
   have HX2:=Hd (HX1.out.later b2)
   clear NF k0 k1 g2 HX1 HXB
   cases k with
   |zero=>
    simp only[Nat.zero_mul,Nat.add_zero]at m2
    have HT:=Hd (NX.out ⟨T.out,HF.out,fun h=>absurd h (by omega)⟩)
    go_wp2_with fail
    refine wp_region_quiet_below (by kernel_rfl) (by kernel_rfl) ?_
    repeat (first|go_big_quiet_step (fail)|quiet_step (fail))
    refine wpQuiet_nil ?_
    intro _ hw'
    obtain⟨⟨dq,osq⟩,hw''⟩:=hw'
    subst hw''
    go_wp2_with fail
    go_roundw
    case rel=>exact⟨_,by omega,by first|rfl|go_num,HT.out,below_on BB.out (below_regrown w2 dq osq)⟩
    case measure=>simp[intOf];omega
   |succ m=>
    obtain⟨y,hy⟩:∃y,L[m]?=some y:=⟨L[m],List.getElem?_eq_getElem (by omega)⟩
    have hgy:(L.map Zc.zn).getD (m+1-1) (0,0,[])=y.zn:=zn_getD hy
    have hyo:=(HO.out.one hy).later hb2
    obtain⟨-,f1,f2⟩:=HC.out m y hy
    obtain⟨ylo,yhi,Y,cy,yl⟩:=y
    dsimp only at f1 f2 hyo
    have hg2:((L.map Zc.zn).getD (m+1-1) (0,0,[])).2.1=yhi:=by rw[hgy];rfl
    have hg3:((L.map Zc.zn).getD (m+1-1) (0,0,[])).2.2=yl:=by rw[hgy];rfl
    rw[hg2,hg3]at NO NX
    have m1:∀d os,(Sort.grow (redrawn w2 d) os).cell? ⟨b,off+m*3+1,none⟩=some (.int .i64 yhi):=cell_regrown (cell_later hb2 f1)
    have m3:∀d os,(Sort.grow (redrawn w2 d) os).cell? ⟨b,off+m*3+2,none⟩=some (.slice Y yl.length cy):=cell_regrown (cell_later hb2 f2)
    have hm1:((m+1:Nat):Int)-1=(m:Int):=by omega
    have hj0:(0:Int)≤(m:Int):=by omega
    have hj1:(m:Int)<(L.length:Int):=by omega
    have hgt:decide ((0:Int)<((m+1:Nat):Int))=true:=decide_eq_true (by omega)
    obtain⟨sm,hsm⟩:∃sm,decide (yl=l)=sm:=⟨_,rfl⟩
    have CS:=Hd (fun d os=>(show Calls Tryz.prog 18 #[.slice Y yl.length cy,.slice X l.length cx] (Sort.grow (redrawn w2 d) os) (fun e w''=>e = .returned (.bool sm)∧∃p:Regrown,w''=Sort.grow (redrawn w2 p.d) p.os) from by
     rw[←hsm]
     have h1:=hyo.later (below_regrown w2 d os)
     have h2:=HX2.out.later (below_regrown w2 d os)
     exact Calls.regrown_of (rsame_any Y X cy cx yl l _ h1.len h1.stamps h2.stamps)))
    have HSM:=Hd hsm
    clear hy hgy hg2 hg3 f1 f2 hyo hsm
    by_cases t4:lo≤yhi
    ·have d4:decide (lo≤yhi)=true:=decide_eq_true t4
     have hqf:=NO.out (fun h=>by have:=(h.2.2 (by omega)).1;omega)
     subst hqf
     clear t4
     go_wp2_with fail
     refine wp_region_quiet_below (by kernel_rfl) (by kernel_rfl) ?_
     repeat (first|go_big_quiet_step (exact CS.out _ _)|quiet_step (exact CS.out _ _))
     refine wpQuiet_nil ?_
     intro _ hw'
     obtain⟨⟨dq,osq⟩,hw''⟩:=hw'
     subst hw''
     go_wp2
     go_ret
     exact⟨rfl,below_on BB.out (below_regrown w2 dq osq)⟩
    ·have d4:decide (lo≤yhi)=false:=decide_eq_false t4
     have T4:=Hd t4
     by_cases t5:yhi=lo-1
     ·have d5:(yhi == lo-1)=true:=by rw[beq_iff_eq];exact t5
      have d5':decide (yhi=lo-1)=true:=decide_eq_true t5
      have lw:IntKind.i64.wrap (lo-1)=lo-1:=IntWalk.i64_in _ (by have:=T.out;omega)
      have T5:=Hd t5
      clear t4 t5
      cases sm with
      |true=>
       have hqf:=NO.out (fun h=>(h.2.2 (by omega)).2 T5.out (of_decide_eq_true HSM.out))
       subst hqf
       have T0:=T.out
       go_wp2_with fail
       refine wp_region_quiet_below (by kernel_rfl) (by kernel_rfl) ?_
       repeat (first|go_big_quiet_step (exact CS.out _ _)|quiet_step (exact CS.out _ _))
       refine wpQuiet_nil ?_
       intro _ hw'
       obtain⟨⟨dq,osq⟩,hw''⟩:=hw'
       subst hw''
       go_wp2
       go_ret
       exact⟨rfl,below_on BB.out (below_regrown w2 dq osq)⟩
      |false=>
       have HT:=Hd (NX.out ⟨T.out,HF.out,fun _=>⟨by have:=T4.out;omega,fun _=>of_decide_eq_false HSM.out⟩⟩)
       have T0:=T.out
       go_wp2_with fail
       refine wp_region_quiet_below (by kernel_rfl) (by kernel_rfl) ?_
       repeat (first|go_big_quiet_step (exact CS.out _ _)|quiet_step (exact CS.out _ _))
       refine wpQuiet_nil ?_
       intro _ hw'
       obtain⟨⟨dq,osq⟩,hw''⟩:=hw'
       subst hw''
       go_wp2_with fail
       go_roundw
       case rel=>exact⟨_,by omega,by first|rfl|go_num,HT.out,below_on BB.out (below_regrown w2 dq osq)⟩
       case measure=>simp[intOf];omega
     ·have d5:(yhi == lo-1)=false:=by rw[beq_eq_false_iff_ne];exact t5
      have d5':decide (yhi=lo-1)=false:=decide_eq_false t5
      have lw:IntKind.i64.wrap (lo-1)=lo-1:=IntWalk.i64_in _ (by have:=T.out;omega)
      have HT:=Hd (NX.out ⟨T.out,HF.out,fun _=>⟨by omega,fun h=>absurd h t5⟩⟩)
      have T0:=T.out
      clear t4 t5
      go_wp2_with fail
      refine wp_region_quiet_below (by kernel_rfl) (by kernel_rfl) ?_
      repeat (first|go_big_quiet_step (exact CS.out _ _)|quiet_step (exact CS.out _ _))
      refine wpQuiet_nil ?_
      intro _ hw'
      obtain⟨⟨dq,osq⟩,hw''⟩:=hw'
      subst hw''
      go_wp2_with fail
      go_roundw
      case rel=>exact⟨_,by omega,by first|rfl|go_num,HT.out,below_on BB.out (below_regrown w2 dq osq)⟩
      case measure=>simp[intOf];omega
  ·have hd:decide ((k:Int)<(L.length:Int))=false:=decide_eq_false (by omega)
   have hkl:k=L.length:=by omega
   have hqt:q=true:=by
    rw[←HQ.out]
    exact(Tr.fmd_iff _).2 (by rw[List.length_map,←hkl];exact HALL.out)
   subst hqt
   clear hkl
   go_wp2
   go_ret
   exact⟨rfl,hbw⟩
end Go.Proofs.YtjlfehpockfkdaaGreat
namespace Go.Proofs.YtjlfehpockfkdaaGreat
open Go.RowKit Fb
theorem Gives.none{w w':World}(hb:Below w.heap.size w w'):Gives [] w (.returned (.slice none 0 0)) w':=⟨_,rfl,⟨rfl,.inl ⟨rfl,rfl⟩⟩,hb⟩
set_option maxRecDepth 100000 in
set_option maxHeartbeats 3200000 in
theorem zreach_any(A B:Option Addr)(c cb:Nat)(L:List Zc)(kn:List (Int × Int))(o:Int)(w:World)(h:OneZ w A c L)(hb:OneL w B cb kn) :
  Calls Tryz.prog 36 #[.slice A L.length c,.slice B kn.length cb,.int .i64 o] w (Gives (Tr.rchR (L.map Zc.zn) kn o) w):=by
 have hlen:=h.len
 have N:=zformed_any A c L w h
 have HD:=Hd h
 have HK:=Hd hb
 clear h hb
 cases hq:Tr.fmd (L.map Zc.zn) with
 |false=>
  have hR:Tr.rchR (L.map Zc.zn) kn o=[]:=by unfold Tr.rchR;rw[if_neg (fun h=>by rw[hq]at h;exact absurd h.1 Bool.false_ne_true)]
  rw[hR]
  rw[hq]at N
  have NN:=Hd N
  clear N hq hR
  go_enter Tryz.func36,Tryz.ntmps36
  go_wp2_with fail
  refine NN.out.mono ?_
  rintro e w1 ⟨rfl,b1⟩
  have FIN:=Hd (Gives.none b1)
  clear b1
  go_wp2
  go_ret
  exact FIN.out
 |true=>
  rw[hq]at N
  have NN:=Hd N
  have HQ:=Hd hq
  have KF:=Hd (fun (w1:World) (b1:Below w.heap.size w w1)=>rformed_any B cb kn w1 (HK.out.later b1).len (HK.out.later b1).stamps)
  clear N hq
  cases hk:Ve.fmd kn with
  |false=>
   have hR:Tr.rchR (L.map Zc.zn) kn o=[]:=by unfold Tr.rchR;rw[if_neg (fun h=>by rw[hk]at h;exact absurd h.2.1 Bool.false_ne_true)]
   rw[hR]
   rw[hk]at KF
   clear hk hR
   go_enter Tryz.func36,Tryz.ntmps36
   go_wp2_with fail
   refine NN.out.mono ?_
   rintro e w1 ⟨rfl,b1⟩
   have KF1:=Hd (KF.out w1 b1)
   have B1:=Hd b1
   clear b1 KF
   go_wp2_with fail
   refine KF1.out.mono ?_
   rintro e w2 ⟨rfl,b2⟩
   have FIN:=Hd (Gives.none (below_on B1.out b2))
   clear b2
   go_wp2
   go_ret
   exact FIN.out
  |true=>
   rw[hk]at KF
   have HKF:=Hd hk
   clear hk
   by_cases ho:0≤o∧o≤255
   ·obtain⟨ho0,ho1⟩:=ho
    have d0:decide (o<0)=false:=decide_eq_false (by omega)
    have d1:decide (255<o)=false:=decide_eq_false (by omega)
    have hR:Tr.rchR (L.map Zc.zn) kn o=Tr.rch (L.map Zc.zn) kn o:=by unfold Tr.rchR;rw[if_pos ⟨HQ.out,HKF.out,ho0,ho1⟩]
    rw[hR]
    clear hR ho0 ho1
    rcases Tr.at_ways (L.map Zc.zn) o with ⟨h1,h2,-⟩|⟨k,h0,h1,h2,-,-⟩
    ·have hR:Tr.rch (L.map Zc.zn) kn o=kn:=by unfold Tr.rch;rw[h2];rfl
     rw[hR]
     have ZA:=Hd (fun (w1:World) (b1:Below w.heap.size w w1)=>(show Calls Tryz.prog 104 #[.slice A L.length c,.int .i64 o] w1 (Says (.int .i64 (-1)) w1) from by
      have:=zat_any A c L o w1 (HD.out.later b1)
      rw[h1]at this
      exact this))
     have CP:=Hd (fun (w1:World) (b1:Below w.heap.size w w1)=>rcopy_any B cb kn w1 (by have:=Tr.short HKF.out;omega) (HK.out.later b1).2.2.1 (HK.out.later b1).2.2.2)
     clear h1 h2 hR
     go_enter Tryz.func36,Tryz.ntmps36
     go_wp2_with fail
     refine NN.out.mono ?_
     rintro e w1 ⟨rfl,b1⟩
     have KF1:=Hd (KF.out w1 b1)
     have B1:=Hd b1
     clear b1 KF NN
     go_wp2_with fail
     refine KF1.out.mono ?_
     rintro e w2 ⟨rfl,b2⟩
     have B2:=Hd (below_on B1.out b2)
     have ZA2:=Hd (ZA.out w2 B2.out)
     clear b2 ZA KF1
     go_wp2_with fail
     refine ZA2.out.mono ?_
     rintro e w3 ⟨rfl,b3⟩
     have B3:=Hd (below_on B2.out b3)
     clear b3 ZA2
     have CP3:=Hd (CP.out w3 B3.out)
     clear CP
     go_wp2_with fail
     refine CP3.out.mono ?_
     rintro e w4 ⟨v,rfl,ho,b4⟩
     have HO:=Hd (own_base ho B3.out.size)
     have FB:=Hd (below_on B3.out b4)
     clear ho b4
     go_wp2
     go_ret
     exact⟨_,rfl,HO.out,FB.out⟩
    ·rw[List.length_map]at h0
     obtain⟨x,hx⟩:∃x,L[k]?=some x:=⟨L[k],List.getElem?_eq_getElem h0⟩
     have hg:=zn_getD hx
     rw[hg]at h2
     have hR:Tr.rch (L.map Zc.zn) kn o=x.l:=by unfold Tr.rch;rw[h2];rfl
     rw[hR]
     have hxf:Ve.fmd x.l=true:=by
      have:=Tr.vec_fmd HQ.out (k:=k) (by rw[List.length_map];exact h0)
      rw[hg]at this
      exact this
     have ZA:=Hd (fun (w1:World) (b1:Below w.heap.size w w1)=>(show Calls Tryz.prog 104 #[.slice A L.length c,.int .i64 o] w1 (Says (.int .i64 (k:Int)) w1) from by
      have:=zat_any A c L o w1 (HD.out.later b1)
      rw[h1]at this
      exact this))
     have HXO:=Hd (HD.out.one hx)
     have CP:=Hd (fun (w1:World) (b1:Below w.heap.size w w1)=>rcopy_any x.X x.c x.l w1 (by have:=Tr.short hxf;omega) (HXO.out.later b1).2.2.1 (HXO.out.later b1).2.2.2)
     obtain⟨b,off,hA,hc⟩:=HD.out.at (fun e=>by subst e;simp at h0)
     obtain⟨-,-,e2⟩:=hc k x hx
     subst hA
     have E2:=Hd e2
     have hi0:(0:Int)≤(k:Int):=by omega
     have hi1:(k:Int)<(L.length:Int):=by omega
     have hdk:decide ((0:Int)≤(k:Int))=true:=decide_eq_true hi0
     clear h1 h2 hR hx hg hxf hc e2
     go_enter Tryz.func36,Tryz.ntmps36
     go_wp2_with fail
     refine NN.out.mono ?_
     rintro e w1 ⟨rfl,b1⟩
     have KF1:=Hd (KF.out w1 b1)
     have B1:=Hd b1
     clear b1 KF NN
     go_wp2_with fail
     refine KF1.out.mono ?_
     rintro e w2 ⟨rfl,b2⟩
     have B2:=Hd (below_on B1.out b2)
     have ZA2:=Hd (ZA.out w2 B2.out)
     clear b2 ZA KF1
     go_wp2_with fail
     refine ZA2.out.mono ?_
     rintro e w3 ⟨rfl,b3⟩
     have B3:=Hd (below_on B2.out b3)
     clear b3 ZA2
     have CP3:=Hd (CP.out w3 B3.out)
     have e2:=cell_later B3.out E2.out
     clear CP
     go_wp2_with fail
     refine CP3.out.mono ?_
     rintro e w4 ⟨v,rfl,ho,b4⟩
     have HO:=Hd (own_base ho B3.out.size)
     have FB:=Hd (below_on B3.out b4)
     clear ho b4 e2
     go_wp2
     go_ret
     exact⟨_,rfl,HO.out,FB.out⟩
   ·have hR:Tr.rchR (L.map Zc.zn) kn o=[]:=by unfold Tr.rchR;rw[if_neg (fun h=>ho h.2.2)]
    rw[hR]
    clear hR
    by_cases ho0:o<0
    ·have d0:decide (o<0)=true:=decide_eq_true ho0
     clear ho ho0
     go_enter Tryz.func36,Tryz.ntmps36
     go_wp2_with fail
     refine NN.out.mono ?_
     rintro e w1 ⟨rfl,b1⟩
     have KF1:=Hd (KF.out w1 b1)
     have B1:=Hd b1
     clear b1 KF NN
     go_wp2_with fail
     refine KF1.out.mono ?_
     rintro e w2 ⟨rfl,b2⟩
     have FIN:=Hd (Gives.none (below_on B1.out b2))
     clear b2
     go_wp2
     go_ret
     exact FIN.out
    ·have d0:decide (o<0)=false:=decide_eq_false ho0
     have d1:decide (255<o)=true:=decide_eq_true (by omega)
     clear ho ho0
     go_enter Tryz.func36,Tryz.ntmps36
     go_wp2_with fail
     refine NN.out.mono ?_
     rintro e w1 ⟨rfl,b1⟩
     have KF1:=Hd (KF.out w1 b1)
     have B1:=Hd b1
     clear b1 KF NN
     go_wp2_with fail
     refine KF1.out.mono ?_
     rintro e w2 ⟨rfl,b2⟩
     have FIN:=Hd (Gives.none (below_on B1.out b2))
     clear b2
     go_wp2
     go_ret
     exact FIN.out
end Go.Proofs.YtjlfehpockfkdaaGreat
namespace Go.Proofs.YtjlfehpockfkdaaGreat
open Go.RowKit
namespace Sf
theorem of_out{f:Mp}(h:Keyed f):of (outTo f 256)=f:=by
 funext j
 have hi:=of_iff (fmd_outTo h) j
 cases hf:f j with
 |some x=>exact(hi x).2 ⟨mem_outTo.2 ⟨j,(h j x hf).2.1,hf⟩,(h j x hf).1⟩
 |none=>
  cases ho:of (outTo f 256) j with
  |none=>rfl
  |some x=>
   obtain⟨h1,h2⟩:=(hi x).1 ho
   obtain⟨k,_,hk⟩:=mem_outTo.1 h1
   have:=(h k x hk).1
   have:k=j:=by omega
   subst this
   rw[hf]at hk
   cases hk
theorem at_out{f:Mp}(h:Keyed f)(o:Int):Nt.at_ (outTo f 256) o=(match (if 0≤o then f o.toNat else none) with|some x=>(x,true)|none=>(Nt.zeroW,false)):=by
 unfold Nt.at_
 cases hq:(outTo f 256).find? (fun x=>decide (x.2.2.1=o)) with
 |some x=>
  have h1:=List.find?_some hq
  have h2:=List.mem_of_find?_eq_some hq
  simp at h1
  obtain⟨j,_,hj⟩:=mem_outTo.1 h2
  have h3:=(h j x hj).1
  rw[if_pos (show 0≤o by omega),show o.toNat=j by omega,hj]
 |none=>
  rw[List.find?_eq_none]at hq
  by_cases h0:0≤o
  ·rw[if_pos h0]
   cases hf:f o.toNat with
   |none=>rfl
   |some x=>
    have h1:=h _ x hf
    have h2:=hq x (mem_outTo.2 ⟨_,h1.2.1,hf⟩)
    simp at h2
    omega
  ·rw[if_neg h0]
def Best(f:Mp)(l:List Wr):Prop:=∀j:Nat,(∀y,f j=some y→y∈l∧y.2.2.1=(j:Int)∧∀p∈l,p.2.2.1=(j:Int)→St.cmpS p.1 p.2.1 y.1 y.2.1≤0)∧(f j=none→∀p∈l,p.2.2.1≠(j:Int))
theorem best_none:Best none_ []:=fun j=>⟨(fun y h=>by cases h),(fun _ p hp=>by simp at hp)⟩
theorem cmp_self(x:Wr):St.cmpS x.1 x.2.1 x.1 x.2.1=0:=St.cmpS_zero.2 ⟨rfl,rfl⟩
theorem Best.put{f:Mp}{l:List Wr}(h:Best f l)(x:Wr):Best (put1 f x) (l++[x]):=fun j=>by
 obtain⟨h1,h2⟩:=h j
 unfold put1
 by_cases e:(j:Int)=x.2.2.1
 ·rw[if_pos e]
  refine⟨fun y hy =>?_,fun hn=>by cases hn⟩
  injection hy with hy
  cases hf:f j with
  |none=>
   rw[hf]at hy
   have hy:x=y:=hy
   subst hy
   refine⟨by simp,e.symm,fun p hp ho =>?_⟩
   rcases List.mem_append.1 hp with hp|hp
   ·exact absurd ho (h2 hf p hp)
   ·obtain rfl:p=x:=by simpa using hp
    rw[cmp_self]
    omega
  |some z=>
   obtain⟨q1,q2,q3⟩:=h1 z hf
   rw[hf]at hy
   have hy:(if St.cmpS z.1 z.2.1 x.1 x.2.1<0 then x else z)=y:=hy
   by_cases c:St.cmpS z.1 z.2.1 x.1 x.2.1<0
   ·rw[if_pos c]at hy
    subst hy
    refine⟨by simp,e.symm,fun p hp ho =>?_⟩
    rcases List.mem_append.1 hp with hp|hp
    ·exact St.cmpS_trans (q3 p hp ho) (by omega)
    ·obtain rfl:p=x:=by simpa using hp
     rw[cmp_self]
     omega
   ·rw[if_neg c]at hy
    subst hy
    refine⟨by simp[q1],q2,fun p hp ho =>?_⟩
    rcases List.mem_append.1 hp with hp|hp
    ·exact q3 p hp ho
    ·obtain rfl:p=x:=by simpa using hp
     have:=St.cmpS_neg z.1 z.2.1 p.1 p.2.1
     omega
 ·rw[if_neg e]
  refine⟨fun y hy =>?_,fun hn p hp =>?_⟩
  ·obtain⟨q1,q2,q3⟩:=h1 y hy
   refine⟨by simp[q1],q2,fun p hp ho =>?_⟩
   rcases List.mem_append.1 hp with hp|hp
   ·exact q3 p hp ho
   ·obtain rfl:p=x:=by simpa using hp
    exact absurd ho.symm e
  ·rcases List.mem_append.1 hp with hp|hp
   ·exact h2 hn p hp
   ·obtain rfl:p=x:=by simpa using hp
    exact fun q=>e q.symm
theorem Best.puts{f:Mp}:∀(r l:List Wr),Best f l→Best (Sf.puts f r) (l++r)
 | [],l,h=>by rw[List.append_nil];exact h
 |x::r,l,h=>by
  have:=Best.puts (f:=put1 f x) r (l++[x]) (h.put x)
  rwa [List.append_assoc]at this
end Sf
theorem rcompare_lt(c n c' n':Int)(w:World)(h:c<c') :
  Calls Tryz.prog 38 #[.agg #[.int .i64 c,.int .i64 n],.agg #[.int .i64 c',.int .i64 n']] w fun e w'=>e = .returned (.int .i64 (St.cmpS c n c' n'))∧Below w.heap.size w w':=by
 have h0:St.cmpS c n c' n' = -1:=by(first|rw[St.cmpS_lt (by omega)]|rw[St.cmpS_gt (by omega)]|(rw[St.cmpS_eq (by omega)];first|exact St.cmpI_lt (by omega)|exact St.cmpI_eq (by omega)|exact St.cmpI_gt (by omega)))
 have H0:=Hd h0;clear h0
 have hd:decide (c<c')=true:=decide_eq_true h
 go_enter Tryz.func38,Tryz.ntmps38
 go_wp2
 go_ret
 rw[H0.out]
 exact⟨rfl,by repeat (first|exact Below.refl _ _|exact Nat.le_refl _|(apply Below.drew)|(refine Below.alloc ?_ ?_ _)|(refine Below.setCell ?_ ?_ _)|(simp;done)|(simp;omega))⟩
theorem rcompare_gt(c n c' n':Int)(w:World)(h:c'<c) :
  Calls Tryz.prog 38 #[.agg #[.int .i64 c,.int .i64 n],.agg #[.int .i64 c',.int .i64 n']] w fun e w'=>e = .returned (.int .i64 (St.cmpS c n c' n'))∧Below w.heap.size w w':=by
 have h0:St.cmpS c n c' n'=1:=by(first|rw[St.cmpS_lt (by omega)]|rw[St.cmpS_gt (by omega)]|(rw[St.cmpS_eq (by omega)];first|exact St.cmpI_lt (by omega)|exact St.cmpI_eq (by omega)|exact St.cmpI_gt (by omega)))
 have H0:=Hd h0;clear h0
 have hd:decide (c<c')=false:=decide_eq_false (by omega)
 have hd2:(c == c')=false:=beq_eq_false_iff_ne.2 (by omega)
 go_enter Tryz.func38,Tryz.ntmps38
 go_wp2
 go_ret
 rw[H0.out]
 exact⟨rfl,by repeat (first|exact Below.refl _ _|exact Nat.le_refl _|(apply Below.drew)|(refine Below.alloc ?_ ?_ _)|(refine Below.setCell ?_ ?_ _)|(simp;done)|(simp;omega))⟩
theorem rcompare_nlt(c n c' n':Int)(w:World)(h:c=c')(hn:n<n') :
  Calls Tryz.prog 38 #[.agg #[.int .i64 c,.int .i64 n],.agg #[.int .i64 c',.int .i64 n']] w fun e w'=>e = .returned (.int .i64 (St.cmpS c n c' n'))∧Below w.heap.size w w':=by
 have h0:St.cmpS c n c' n' = -1:=by(first|rw[St.cmpS_lt (by omega)]|rw[St.cmpS_gt (by omega)]|(rw[St.cmpS_eq (by omega)];first|exact St.cmpI_lt (by omega)|exact St.cmpI_eq (by omega)|exact St.cmpI_gt (by omega)))
 have H0:=Hd h0;clear h0
 have hd:decide (c<c')=false:=decide_eq_false (by omega)
 have hd2:(c == c')=true:=beq_iff_eq.2 h
 have hd3:decide (n<n')=true:=decide_eq_true hn
 clear h
 go_enter Tryz.func38,Tryz.ntmps38
 go_wp2
 go_ret
 rw[H0.out]
 exact⟨rfl,by repeat (first|exact Below.refl _ _|exact Nat.le_refl _|(apply Below.drew)|(refine Below.alloc ?_ ?_ _)|(refine Below.setCell ?_ ?_ _)|(simp;done)|(simp;omega))⟩
theorem rcompare_ngt(c n c' n':Int)(w:World)(h:c=c')(hn:n'<n) :
  Calls Tryz.prog 38 #[.agg #[.int .i64 c,.int .i64 n],.agg #[.int .i64 c',.int .i64 n']] w fun e w'=>e = .returned (.int .i64 (St.cmpS c n c' n'))∧Below w.heap.size w w':=by
 have h0:St.cmpS c n c' n'=1:=by(first|rw[St.cmpS_lt (by omega)]|rw[St.cmpS_gt (by omega)]|(rw[St.cmpS_eq (by omega)];first|exact St.cmpI_lt (by omega)|exact St.cmpI_eq (by omega)|exact St.cmpI_gt (by omega)))
 have H0:=Hd h0;clear h0
 have hd:decide (c<c')=false:=decide_eq_false (by omega)
 have hd2:(c == c')=true:=beq_iff_eq.2 h
 have hd3:decide (n<n')=false:=decide_eq_false (by omega)
 have hd4:(n == n')=false:=beq_eq_false_iff_ne.2 (by omega)
 clear h
 go_enter Tryz.func38,Tryz.ntmps38
 go_wp2
 go_ret
 rw[H0.out]
 exact⟨rfl,by repeat (first|exact Below.refl _ _|exact Nat.le_refl _|(apply Below.drew)|(refine Below.alloc ?_ ?_ _)|(refine Below.setCell ?_ ?_ _)|(simp;done)|(simp;omega))⟩
theorem rcompare_eq(c n c' n':Int)(w:World)(h:c=c')(hn:n=n') :
  Calls Tryz.prog 38 #[.agg #[.int .i64 c,.int .i64 n],.agg #[.int .i64 c',.int .i64 n']] w fun e w'=>e = .returned (.int .i64 (St.cmpS c n c' n'))∧Below w.heap.size w w':=by
 have h0:St.cmpS c n c' n'=0:=by(first|rw[St.cmpS_lt (by omega)]|rw[St.cmpS_gt (by omega)]|(rw[St.cmpS_eq (by omega)];first|exact St.cmpI_lt (by omega)|exact St.cmpI_eq (by omega)|exact St.cmpI_gt (by omega)))
 have H0:=Hd h0;clear h0
 have hd:decide (c<c')=false:=decide_eq_false (by omega)
 have hd2:(c == c')=true:=beq_iff_eq.2 h
 have hd3:decide (n<n')=false:=decide_eq_false (by omega)
 have hd4:(n == n')=true:=beq_iff_eq.2 hn
 clear h hn
 go_enter Tryz.func38,Tryz.ntmps38
 go_wp2
 go_ret
 rw[H0.out]
 exact⟨rfl,by repeat (first|exact Below.refl _ _|exact Nat.le_refl _|(apply Below.drew)|(refine Below.alloc ?_ ?_ _)|(refine Below.setCell ?_ ?_ _)|(simp;done)|(simp;omega))⟩
theorem rcompare_any(c n c' n':Int)(w:World) :
  Calls Tryz.prog 38 #[.agg #[.int .i64 c,.int .i64 n],.agg #[.int .i64 c',.int .i64 n']] w fun e w'=>e = .returned (.int .i64 (St.cmpS c n c' n'))∧Below w.heap.size w w':=by
 rcases Int.lt_trichotomy c c' with h|h|h
 ·exact rcompare_lt c n c' n' w h
 ·rcases Int.lt_trichotomy n n' with hn|hn|hn
  ·exact rcompare_nlt c n c' n' w h hn
  ·exact rcompare_eq c n c' n' w h hn
  ·exact rcompare_ngt c n c' n' w h hn
 ·exact rcompare_gt c n c' n' w h
end Go.Proofs.YtjlfehpockfkdaaGreat
namespace Go.Proofs.YtjlfehpockfkdaaGreat
open Go.ChangeShapes Go.WideShapes Go.RowKit Go.Deep
set_option maxRecDepth 100000
section
variable {H:Type} {enc:TypeId × Value→H} {w:World}
theorem trod_struct5{P:Program}{base:Nat}{spare:Nat→Bool}{held:Bool}{t:TypeId}{f0 f1 f2 f3 f4:Field}{fuel:Nat}{cs:List Value}{x:DataW H × List MemPlace}(ht:P.underlying t=some (.struct #[f0,f1,f2,f3,f4]))(h:DataW.trod enc P w base spare held fuel t cs=some x) :
  ∃y0 y1 y2 y3 y4 n,x=(.agg [y0.1,y1.1,y2.1,y3.1,y4.1],y0.2++(y1.2++(y2.2++(y3.2++y4.2))))∧cs.length=P.cellsOf t∧DataW.trod enc P w base spare held n f0.type ((cs.drop f0.offset).take (P.cellsOf f0.type))=some y0 ∧
   DataW.trod enc P w base spare held n f1.type ((cs.drop f1.offset).take (P.cellsOf f1.type))=some y1∧DataW.trod enc P w base spare held n f2.type ((cs.drop f2.offset).take (P.cellsOf f2.type))=some y2 ∧
   DataW.trod enc P w base spare held n f3.type ((cs.drop f3.offset).take (P.cellsOf f3.type))=some y3∧DataW.trod enc P w base spare held n f4.type ((cs.drop f4.offset).take (P.cellsOf f4.type))=some y4:=by
 obtain⟨xs,n,_,rfl,hl,hlen,hf⟩:=DataW.trod_struct ht h
 match xs,hlen with
 | [y0,y1,y2,y3,y4],_=>exact⟨y0,y1,y2,y3,y4,n,by simp,hl,by simpa using hf 0 f0 rfl,by simpa using hf 1 f1 rfl,by simpa using hf 2 f2 rfl,by simpa using hf 3 f3 rfl,by simpa using hf 4 f4 rfl⟩
theorem vw_list5{cs:List Value}(h:cs.length=5):∃a0 a1 a2 a3 a4,cs=[a0,a1,a2,a3,a4]:=by
 match cs,h with
 | [a0,a1,a2,a3,a4],_=>exact⟨a0,a1,a2,a3,a4,rfl⟩
theorem vwWr:Tryz.prog.cellsOf 52=4:=by kernel_rfl
theorem vwLW:Tryz.prog.cellsOf 24=1:=by kernel_rfl
theorem vw_writeE(fuel:Nat)(cs:List Value)(x:DataW H × List MemPlace)(h:DataW.trod enc Tryz.prog w 0 (fun _=>true) true fuel 52 cs=some x):∃a,cs=Nt.wrCell a:=
 write_cells Tryz.underlying52 (by kernel_rfl) (by kernel_rfl) rfl (by kernel_rfl) rfl (by kernel_rfl) rfl Tryz.underlying46 (by kernel_rfl) rfl rfl Tryz.underlying3 Tryz.underlying3 Tryz.underlying4 h
theorem vw_writesE{fuel:Nat}{cs:List Value}{x:DataW H × List MemPlace}(h:DataW.trod enc Tryz.prog w 0 (fun _=>true) true fuel 24 cs=some x):∃A c l,cs=[.slice A (List.length l) c]∧OneW w A c l∧LenG x.1 l.length:=by
 obtain⟨A,c,l,h1,h2,h3,h4,h5,h6⟩:=open_list_with Nt.zeroW Nt.wrCell (fun _ _=>True) (size:=4) (fun _=>rfl) Tryz.underlying24 vwWr (by decide) (fun fuel cs x h=>(vw_writeE fuel cs x h).imp fun _ h=>⟨h,trivial⟩) h
 refine⟨A,c,l,h1,⟨h2,h3,h4,h5⟩,?_⟩
 rcases h6 with rfl|⟨el,sp,h7,h8,_⟩
 ·exact .inl rfl
 ·exact .inr ⟨el,sp,h7,h8⟩
end
end Go.Proofs.YtjlfehpockfkdaaGreat
namespace Go.Proofs.YtjlfehpockfkdaaGreat
open Go.RowKit
def zeroN:Note:=⟨[],[],[],[]⟩
structure Nl where
 S:Option Addr
 E:Option Addr
 B:Option Addr
 V:Option Addr
 cs:Nat
 ce:Nat
 cb:Nat
 cv:Nat
 n:Note
namespace Nl
def cell(z:Nl):List Value:=[.slice z.S z.n.s.length z.cs,.slice z.E z.n.e.length z.ce,.slice z.B z.n.b.length z.cb,.slice z.V z.n.ws.length z.cv]
def zero:Nl:=⟨none,none,none,none,0,0,0,0,zeroN⟩
end Nl
def Nl.At(w:World)(z:Nl):Prop:=NoteAt w z.S z.E z.B z.V z.cs z.ce z.cb z.cv z.n
section
variable {w w':World} {base:Nat} {t:TypeId} {v:Value} {L:List Nl}
theorem own_other{size n g:Nat}{e:TypeId}{xs:List Value}{u:Value}{cs:Array Value}(h:w.ownsRow base e size u n xs)(hB:Blk w g t cs)(hne:t≠e):∀k,u.ownBlock=some k→k≠g:=fun k hk ek=>by
 subst ek
 rcases h.2 with ⟨rfl,_⟩|⟨g2,cap,cur,rfl,_,hg,_⟩
 ·simp[Value.ownBlock]at hk
 ·simp[Value.ownBlock]at hk
  subst hk
  have:=hg.symm.trans hB
  injection this with this
  injection this with _ h2
  exact hne h2.symm
end
namespace Ca
theorem fmd_nil{room:Int}(h0:0≤room)(h1:room≤16777216):fmd [] room=true:=by
 unfold fmd
 rw[decide_eq_true (show 0≤room∧room≤16777216∧([]:List Bd).length≤256 from⟨h0,h1,Nat.zero_le _⟩)]
 simp[used,oks,h0]
end Ca
namespace Vw
theorem body_ok{v:Vw}{x:Bd}(h:(bodyR v x).2=0):Ok (bodyR v x).1:=by
 by_cases h1:fmd v=true∧Wi.bright x=true
 ·by_cases h2:wants v x=true
  ·have hv:=(ok_iff v).1 h1.1
   have hb:bodyR v x=(⟨v.k,v.z,v.h,(Ca.putR v.b v.r x).1,v.r⟩,0):=by unfold bodyR;rw[if_pos h1,if_pos h2]
   rw[hb]
   obtain⟨-,q2,q3⟩:=Ca.put_fmd hv.b h1.2
   refine⟨hv.k,hv.z,hv.h,q2,hv.below,hv.has,fun y hy =>?_⟩
   rcases q3 y hy with rfl|⟨h3,-⟩
   ·exact h2
   ·exact hv.wants y h3
  ·unfold bodyR at h;rw[if_pos h1,if_neg h2]at h;cases h
 ·unfold bodyR at h;rw[if_neg h1]at h;cases h
end Vw
namespace Vw
theorem take_gave{v:Vw}{n:Note}(h:(takeR v n).2=0):Ok v∧Nt.fmd n=true∧Ve.cov (Ve.cnt v.k) (Ve.cnt n.s)=true:=by
 cases hf:fmd v with
 |false=>unfold takeR at h;rw[if_neg (by rw[hf];exact Bool.false_ne_true)]at h;cases h
 |true=>
  have hv:=(ok_iff v).1 hf
  by_cases h0:(Tr.tkR v.z v.k n).2.2=0
  ·obtain⟨hn,hc,-⟩:=tk_ways v n h0 hv
   exact⟨hv,hn,hc⟩
  ·exfalso
   unfold takeR at h
   rw[if_pos hf,if_neg h0]at h
   exact h0 h
end Vw
end Go.Proofs.YtjlfehpockfkdaaGreat
namespace Go.Proofs.YtjlfehpockfkdaaGreat
open Go.RowKit Fb
def Vw.v1:Vw:=(Vw.newR 9).1
def Vw.v2:Vw × Note × Int:=Vw.writeR Vw.v1 0 3 0 [104,105] false
theorem Vw.alive1:Vw.newR 9=(Vw.v1,0):=by decide +kernel
theorem Vw.alive2:Vw.v2.2.2=0∧Vw.v2.2.1.ws.length=1:=by decide +kernel
theorem Vw.alive3:Vw.readR Vw.v2.1 3=([104,105],(1,0,3,false),0):=by decide +kernel
end Go.Proofs.YtjlfehpockfkdaaGreat
namespace Go.Proofs.YtjlfehpockfkdaaGreat
open Go.RowKit
namespace Vw
theorem at_of{l:List Wr}(h:Sf.fmd l=true){o:Int}(ho:0≤o):Nt.at_ l o=match Sf.of l o.toNat with
 |some x=>(x,true)
 |none=>(Nt.zeroW,false):=by
 have:=Sf.at_out (Sf.keyed_of h) o
 rw[Sf.out_of h,if_pos ho]at this
 exact this
theorem getR_ways(l:List Bd)(o c n:Int):(Ca.getR l o c n).2=0∨(Ca.getR l o c n).2=10:=by
 unfold Ca.getR
 cases Ca.find l o c n with
 |none=>exact .inr rfl
 |some x=>exact .inl rfl
theorem read_in{v:Vw}(hv:Ok v){o:Int}(ho:0≤o∧o≤255):readR v o=(if (Tr.at_ v.z o).isSome=true then ([],Nt.zeroW,9)
  else if (Nt.at_ v.h o).2=false then ([],Nt.zeroW,8)
  else if (Nt.at_ v.h o).1.2.2.2=true then ([],(Nt.at_ v.h o).1,0)
  else ((Ca.getR v.b o (Nt.at_ v.h o).1.1 (Nt.at_ v.h o).1.2.1).1,(Nt.at_ v.h o).1,(Ca.getR v.b o (Nt.at_ v.h o).1.1 (Nt.at_ v.h o).1.2.1).2)):=by
 unfold readR
 rw[if_pos ⟨(ok_iff v).2 hv,ho⟩]
end Vw
theorem has_rgt{l:List (Int × Int)}{c n:Int}(h:hasOf l c n=true):St.rgt c n=true:=by
 unfold hasOf at h
 simp only[Bool.and_eq_true]at h
 exact h.1
namespace Vw
structure Nw (v:Vw) (all:List Wr) (bodies:List Bd):Prop where
 ok:Ok v
 best:Sf.Best (Sf.of v.h) all
 right:∀p∈all,Sf.right p=true
 own:∀b∈v.b,b∈bodies
theorem nw_new{v:Vw}(hv:Ok v)(hh:v.h=[])(hb:v.b=[]):Nw v [] []:=⟨hv,by rw[hh];exact Sf.best_none,(fun p hp=>by cases hp),(fun b h=>by rw[hb]at h;cases h)⟩
theorem nw_take{v:Vw}{all:List Wr}{bodies:List Bd}(h:Nw v all bodies){n:Note}(h0:(takeR v n).2=0) :
  Nw (takeR v n).1 (all++n.ws.filter (takeR v n).1.has) bodies:=by
 obtain⟨hv,hn,hc⟩:=take_gave h0
 have hok:=take_ok h0
 have ht:=take_is hv hn hc
 obtain⟨x,hx⟩:∃y,(takeR v n).1=y:=⟨_,rfl⟩
 rw[hx]at hok ⊢
 have e1:x.k=Ve.joinL [v.k,n.e]:=by rw[←hx,ht]
 have e2:x.z=Tr.mkTo (Tr.zof v.z v.k n) 256:=by rw[←hx,ht]
 have e3:x.h=heldR v x.z x.k n:=by rw[e1,e2,←hx,ht]
 have e4:∀b∈x.b,b∈v.b:=fun b hb=>by
  rw[←hx,ht]at hb
  exact(List.mem_filter.1 hb).1
 have hf:n.ws.filter (Vw.has ⟨x.k,x.z,[],[],v.r⟩)=n.ws.filter x.has:=rfl
 have hw:Nt.wsTo n n.ws.length:=by
  have hn:=hn
  unfold Nt.fmd at hn
  simp only[Bool.and_eq_true]at hn
  exact(Nt.wsOk_iff n).1 hn.2.2.2.2
 have hr:∀p∈n.ws.filter x.has,Sf.right p=true:=fun p hp=>by
  obtain⟨m1,m2⟩:=List.mem_filter.1 hp
  obtain⟨k,hk,rfl⟩:=List.mem_iff_getElem.1 m1
  have h1:=hw k hk
  have hg:n.ws.getD k Nt.zeroW=n.ws[k]:=by rw[List.getD_eq_getElem?_getD,List.getElem?_eq_getElem hk];rfl
  unfold Nt.obj at h1
  rw[hg]at h1
  exact(Sf.right_iff _).2 ⟨h1.2.1.1,h1.2.1.2,has_rgt h1.1⟩
 refine⟨hok,?_,fun p hp =>?_,fun b hb=>h.own b (e4 b hb)⟩
 ·rw[e3]
  unfold heldR
  rw[hf,Sf.putR_yes hv.h (List.all_eq_true.2 hr),Sf.of_out ((Sf.keyed_of hv.h).puts _ hr)]
  exact h.best.puts _ _
 ·rcases List.mem_append.1 hp with h1|h1
  ·exact h.right p h1
  ·exact hr p h1
theorem body_gave{v:Vw}{x:Bd}(h:(bodyR v x).2=0):Ok v∧Wi.bright x=true∧(bodyR v x).1=⟨v.k,v.z,v.h,(Ca.putR v.b v.r x).1,v.r⟩:=by
 by_cases h1:fmd v=true∧Wi.bright x=true
 ·by_cases h2:wants v x=true
  ·exact⟨(ok_iff v).1 h1.1,h1.2,by unfold bodyR;rw[if_pos h1,if_pos h2]⟩
  ·unfold bodyR at h;rw[if_pos h1,if_neg h2]at h;cases h
 ·unfold bodyR at h;rw[if_neg h1]at h;cases h
theorem nw_body{v:Vw}{all:List Wr}{bodies:List Bd}(h:Nw v all bodies){x:Bd}(h0:(bodyR v x).2=0):Nw (bodyR v x).1 all (bodies++[x]):=by
 have hok:=body_ok h0
 obtain⟨hv,hx,he⟩:=body_gave h0
 obtain⟨-,-,q3⟩:=Ca.put_fmd hv.b hx
 rw[he]at hok ⊢
 refine⟨hok,h.best,h.right,fun b hb =>?_⟩
 rcases q3 b hb with rfl|⟨h3,-⟩
 ·exact List.mem_append_right _ (List.mem_singleton.2 rfl)
 ·exact List.mem_append_left _ (h.own b h3)
theorem Nw.more{v:Vw}{all:List Wr}{bodies:List Bd}(h:Nw v all bodies)(x:Bd):Nw v all (bodies++[x]):=⟨h.ok,h.best,h.right,fun b hb=>List.mem_append_left _ (h.own b hb)⟩
theorem write_gave{v:Vw}(hv:Ok v){me o skip:Int}{val:List Int}{gone:Bool}(h0:(writeR v me o skip val gone).2.2=0) :
  ∃c n,(writeR v me o skip val gone).2.1.ws=[(c,n,o,gone)]∧(takeR v (writeR v me o skip val gone).2.1).2=0 ∧
   ((writeR v me o skip val gone).1=(takeR v (writeR v me o skip val gone).2.1).1 ∨
    ((bodyR (takeR v (writeR v me o skip val gone).2.1).1 ⟨o,c,n,val⟩).2=0∧(writeR v me o skip val gone).1=(bodyR (takeR v (writeR v me o skip val gone).2.1).1 ⟨o,c,n,val⟩).1)):=by
 by_cases c1:fmd v=true∧0≤o∧o≤255∧val.length≤256∧(gone=true→val=[])
 ·by_cases c2:(nxt v me skip).2=0
  ·have hst:St.rgtN me=true∧0≤Ve.top (Ve.cnt v.k)∧0≤skip:=by
    apply Classical.byContradiction
    intro hc
    have c2:St.nextE (Ve.top (Ve.cnt v.k)) me skip=0:=c2
    unfold St.nextE at c2
    rw[if_neg hc]at c2
    cases c2
   have hov:Ve.top (Ve.cnt v.k)+skip≤9223372036854775806:=by
    apply Classical.byContradiction
    intro hc
    have c2:St.nextE (Ve.top (Ve.cnt v.k)) me skip=0:=c2
    unfold St.nextE at c2
    rw[if_pos hst,if_neg hc]at c2
    cases c2
   have hn1:(nxt v me skip).1=(Ve.top (Ve.cnt v.k)+1+skip,me):=by
    have h1:=St.next_ok hst.1 hst.2.1 hst.2.2 hov
    show(St.nextC (Ve.top (Ve.cnt v.k)) me skip,St.nextN (Ve.top (Ve.cnt v.k)) me skip)=_
    rw[h1.1,h1.2.1]
   have hme:0≤me∧me≤63:=of_decide_eq_true hst.1
   obtain⟨c,hc⟩:∃c,Ve.top (Ve.cnt v.k)+1+skip=c:=⟨_,rfl⟩
   rw[hc]at hn1
   have hrg:St.rgt c me=true:=decide_eq_true ⟨by omega,hme⟩
   have hno:hasOf v.k c me=false:=by
    unfold hasOf
    have h1:=Ve.le_top (Ve.cnt v.k) 64 me.toNat (by omega)
    have h2:countOf v.k me=Ve.cnt v.k me.toNat:=by unfold countOf;rw[if_pos hme]
    rw[h2,hrg,Bool.true_and,decide_eq_false]
    have h3:Ve.top (Ve.cnt v.k)=Ve.topTo (Ve.cnt v.k) 64:=rfl
    omega
   have hnt:noteR v me o skip gone=⟨v.k,Ve.joinL [v.k,[(c,me)]],[],[(c,me,o,gone)]⟩:=by
    unfold noteR ofN
    rw[hn1]
    dsimp only
    rw[if_pos ⟨⟨hv.k,hrg⟩,⟨c1.2.1,c1.2.2.1⟩,hno⟩]
   have hfm:Nt.fmd (noteR v me o skip gone)=true:=by
    rw[hnt]
    have hcn:countOf (Ve.joinL [v.k,[(c,me)]]) me=c:=by
     have h1:=Ve.le_top (Ve.cnt v.k) 64 me.toNat (by omega)
     have h3:Ve.top (Ve.cnt v.k)=Ve.topTo (Ve.cnt v.k) 64:=rfl
     have h4:Ve.cnt [(c,me)] me.toNat=c:=by
      unfold Ve.cnt
      rw[if_pos ⟨hrg,by dsimp only;omega⟩]
     unfold countOf
     rw[if_pos hme,Ve.cnt_joinL _ _ (by omega),Ve.jn_two,h4]
     split<;>omega
    have hws:Nt.wsOk ⟨v.k,Ve.joinL [v.k,[(c,me)]],[],[(c,me,o,gone)]⟩=true:=by
     rw[Nt.wsOk_iff]
     intro j hj
     obtain rfl:j=0:=by simp at hj;exact hj
     refine⟨?_,⟨c1.2.1,c1.2.2.1⟩,?_,fun h=>by cases h⟩
     ·show hasOf (Ve.joinL [v.k,[(c,me)]]) c me=true
      unfold hasOf
      rw[hrg,hcn,Bool.true_and]
      exact decide_eq_true (Int.le_refl _)
     ·show inOf [] o=false
      unfold inOf
      rw[show Sp.inL [] o.toNat=false from rfl,Bool.and_false]
    unfold Nt.fmd
    rw[hws]
    dsimp only
    rw[hv.k,Ve.fmd_joinL,Ve.cov_join_left,show Sp.fmd []=true from by decide +kernel]
    rfl
   have hnf:(noteR v me o skip gone).ws=[(c,me,o,gone)]:=by rw[hnt]
   have hcv:Ve.cov (Ve.cnt v.k) (Ve.cnt (noteR v me o skip gone).s)=true:=by rw[hnt];exact Tr.cov_self _
   have htk:(takeR v (noteR v me o skip gone)).2=0:=by rw[take_is hv hfm hcv]
   by_cases c3:gone=true
   ·have he:writeR v me o skip val gone=((takeR v (noteR v me o skip gone)).1,noteR v me o skip gone,0):=by unfold writeR;rw[if_pos c1,if_pos c2,if_pos c3]
    rw[he]
    exact⟨c,me,hnf,htk,.inl rfl⟩
   ·by_cases c4:(bodyR (takeR v (noteR v me o skip gone)).1 ⟨o,(nxt v me skip).1.1,(nxt v me skip).1.2,val⟩).2=0
    ·have he:writeR v me o skip val gone=((bodyR (takeR v (noteR v me o skip gone)).1 ⟨o,(nxt v me skip).1.1,(nxt v me skip).1.2,val⟩).1,noteR v me o skip gone,0):=by
      unfold writeR;rw[if_pos c1,if_pos c2,if_neg c3,if_pos c4]
     rw[he]
     rw[hn1]at c4 ⊢
     exact⟨c,me,hnf,htk,.inr ⟨c4,rfl⟩⟩
    ·have he:(writeR v me o skip val gone).2.2=(bodyR (takeR v (noteR v me o skip gone)).1 ⟨o,(nxt v me skip).1.1,(nxt v me skip).1.2,val⟩).2:=by
      unfold writeR;rw[if_pos c1,if_pos c2,if_neg c3,if_neg c4]
     rw[he]at h0
     exact absurd h0 c4
  ·have he:(writeR v me o skip val gone).2.2=(nxt v me skip).2:=by unfold writeR;rw[if_pos c1,if_neg c2]
   rw[he]at h0
   exact absurd h0 c2
 ·unfold writeR at h0
  rw[if_neg c1]at h0
  cases h0
theorem body_has{v:Vw}{x:Bd}(h:(bodyR v x).2=0):(bodyR v x).1.has=v.has:=by rw[(body_gave h).2.2];rfl
theorem nw_write{v:Vw}{all:List Wr}{bodies:List Bd}(h:Nw v all bodies){me o skip:Int}{val:List Int}{gone:Bool}(h0:(writeR v me o skip val gone).2.2=0) :
  ∃c n,(writeR v me o skip val gone).2.1.ws=[(c,n,o,gone)]∧Nw (writeR v me o skip val gone).1 (all++if (writeR v me o skip val gone).1.has (c,n,o,gone)=true then [(c,n,o,gone)] else []) (bodies++[⟨o,c,n,val⟩]):=by
 obtain⟨c,n,hw,ht,hb⟩:=write_gave h.ok h0
 have h1:=nw_take h ht
 rw[hw]at h1
 refine⟨c,n,hw,?_⟩
 have hfl:∀f:Wr→Bool,[(c,n,o,gone)].filter f=if f (c,n,o,gone)=true then [(c,n,o,gone)] else []:=fun f=>by rw[List.filter_cons,List.filter_nil]
 rw[hfl]at h1
 rcases hb with hb|⟨h2,hb⟩
 ·rw[hb]
  exact h1.more _
 ·rw[hb,body_has h2]
  exact nw_body h1 h2
theorem nw_read{v:Vw}{all:List Wr}{bodies:List Bd}(h:Nw v all bodies)(o:Int) :
  (∀p∈all,p.2.2.1=o→(readR v o).2.2≠8∧(((readR v o).2.2=0∨(readR v o).2.2=10)→St.cmpS p.1 p.2.1 (readR v o).2.1.1 (readR v o).2.1.2.1≤0)) ∧
  ((∀p∈all,p.2.2.1≠o)→(readR v o).2.2=8∨(readR v o).2.2=9∨((readR v o).2.2=1∧(o<0∨255<o))) ∧
  (((readR v o).2.2≠0∨(readR v o).2.1.2.2.2=true)→(readR v o).1=[]) ∧
  ((readR v o).2.2=0→(readR v o).2.1.2.2.2=false→(⟨o,(readR v o).2.1.1,(readR v o).2.1.2.1,(readR v o).1⟩:Bd)∈bodies):=by
 by_cases ho:0≤o∧o≤255
 ·obtain⟨b1,b2⟩:=h.best o.toNat
  have hat:=at_of h.ok.h ho.1
  rw[read_in h.ok ho]
  by_cases hz:(Tr.at_ v.z o).isSome=true
  ·rw[if_pos hz]
   exact⟨fun p _ _=>⟨(by decide),fun hh=>(by rcases hh with hh|hh<;>cases hh)⟩,fun _ =>.inr (.inl rfl),fun _=>rfl,fun hh=>(by cases hh)⟩
  ·rw[if_neg hz]
   cases hof:Sf.of v.h o.toNat with
   |none=>
    rw[hof]at hat
    have hat:Nt.at_ v.h o=(Nt.zeroW,false):=hat
    rw[hat,if_pos rfl]
    have hno:=b2 hof
    exact⟨fun p hp hpo=>absurd (by omega) (hno p hp),fun _ =>.inl rfl,fun _=>rfl,fun hh=>(by cases hh)⟩
   |some y=>
    rw[hof]at hat
    have hat:Nt.at_ v.h o=(y,true):=hat
    obtain⟨y1,y2,y3⟩:=b1 y hof
    rw[hat,if_neg (by simp)]
    have hall:¬∀p∈all,p.2.2.1≠o:=fun hh=>hh y y1 (by omega)
    by_cases hg:y.2.2.2=true
    ·rw[if_pos hg]
     exact⟨fun p hp hpo=>⟨(by decide:(0:Int)≠8),fun _=>y3 p hp (by omega)⟩,fun hh=>absurd hh hall,fun _=>rfl,fun _ hh=>(by rw[show y.2.2.2=false from hh]at hg;cases hg)⟩
    ·rw[if_neg hg]
     refine⟨fun p hp hpo=>⟨?_,fun _=>y3 p hp (by omega)⟩,fun hh=>absurd hh hall,fun hh =>?_,fun hh _ =>?_⟩
     ·intro h8
      rcases getR_ways v.b o y.1 y.2.1 with h4|h4<;>(dsimp only at h8;rw[h4]at h8;cases h8)
     ·rcases hh with hh|hh
      ·unfold Ca.getR at hh ⊢
       dsimp only at hh ⊢
       cases hf:Ca.find v.b o y.1 y.2.1 with
       |none=>rfl
       |some x=>rw[hf]at hh;exact absurd rfl hh
      ·exact absurd hh hg
     ·dsimp only at hh ⊢
      unfold Ca.getR at hh ⊢
      cases hf:Ca.find v.b o y.1 y.2.1 with
      |none=>rw[hf]at hh;cases hh
      |some x=>
       have hf2:v.b.find? (fun x=>decide (x.o=o∧x.c=y.1∧x.n=y.2.1))=some x:=hf
       have m1:=List.mem_of_find?_eq_some hf2
       have m2:x.o=o∧x.c=y.1∧x.n=y.2.1:=by have:=List.find?_some hf2;simpa using this
       have m3:=h.own x m1
       dsimp only
       rw[←m2.1,←m2.2.1,←m2.2.2]
       exact m3
 ·have hr:readR v o=([],Nt.zeroW,1):=by unfold readR;rw[if_neg (fun h=>ho h.2)]
  rw[hr]
  refine⟨fun p hp hpo =>?_,fun _ =>.inr (.inr ⟨rfl,by omega⟩),fun _=>rfl,fun hh=>(by cases hh)⟩
  have:=(Sf.right_iff p).1 (h.right p hp)
  exact absurd ⟨by omega,by omega⟩ ho
end Vw
namespace Ve
theorem top_le{f:Nat→Int}{m:Int}(h0:0≤m):∀k,(∀n,n<k→f n≤m)→topTo f k≤m
 |0,_=>h0
 |k+1,h=>by
  have h1:=top_le h0 k (fun n hn=>h n (by omega))
  have h2:=h k (by omega)
  unfold topTo
  split<;>omega
def low(l:List (Int × Int)):Prop:=∀s∈l,s.1≤9223372036854775807
theorem cnt_low:∀{l:List (Int × Int)},low l→∀n,cnt l n≤9223372036854775807
 | [],_,n=>by unfold cnt;omega
 |s::r,h,n=>by
  unfold cnt
  split
  ·exact h s (List.mem_cons_self ..)
  ·exact cnt_low (fun x hx=>h x (List.mem_cons_of_mem _ hx)) n
theorem top_join{a b:List (Int × Int)}(ha:top (cnt a)≤9223372036854775807)(hb:∀n,n<64→cnt b n≤9223372036854775807):top (cnt (joinL [a,b]))≤9223372036854775807:=by
 refine top_le (by omega) 64 fun n hn =>?_
 have h1:=le_top (cnt a) 64 n hn
 have h2:topTo (cnt a) 64≤9223372036854775807:=ha
 have h3:=hb n hn
 rw[cnt_joinL _ _ hn,jn_two]
 split<;>omega
end Ve
namespace Vw
theorem take_top{v:Vw}{n:Note}(h0:(takeR v n).2=0)(ht:Ve.top (Ve.cnt v.k)≤9223372036854775807)(hl:∀i,i<64→Ve.cnt n.e i≤9223372036854775807):Ve.top (Ve.cnt (takeR v n).1.k)≤9223372036854775807:=by
 obtain⟨hv,hn,hc⟩:=take_gave h0
 rw[take_is hv hn hc]
 exact Ve.top_join ht hl
theorem body_top{v:Vw}{x:Bd}(h0:(bodyR v x).2=0)(ht:Ve.top (Ve.cnt v.k)≤9223372036854775807):Ve.top (Ve.cnt (bodyR v x).1.k)≤9223372036854775807:=by
 obtain⟨-,-,he⟩:=body_gave h0
 rw[he]
 exact ht
theorem write_e{v:Vw}{me o skip:Int}{val:List Int}{gone:Bool}(ht:Ve.top (Ve.cnt v.k)≤9223372036854775807)(h0:(writeR v me o skip val gone).2.2=0) :
  ∀i,i<64→Ve.cnt (writeR v me o skip val gone).2.1.e i≤9223372036854775807:=by
 by_cases c1:fmd v=true∧0≤o∧o≤255∧val.length≤256∧(gone=true→val=[])
 ·by_cases c2:(nxt v me skip).2=0
  ·have hst:St.rgtN me=true∧0≤Ve.top (Ve.cnt v.k)∧0≤skip:=by
    apply Classical.byContradiction
    intro hc
    have c2:St.nextE (Ve.top (Ve.cnt v.k)) me skip=0:=c2
    unfold St.nextE at c2
    rw[if_neg hc]at c2
    cases c2
   have hov:Ve.top (Ve.cnt v.k)+skip≤9223372036854775806:=by
    apply Classical.byContradiction
    intro hc
    have c2:St.nextE (Ve.top (Ve.cnt v.k)) me skip=0:=c2
    unfold St.nextE at c2
    rw[if_pos hst,if_neg hc]at c2
    cases c2
   have hn1:(nxt v me skip).1=(Ve.top (Ve.cnt v.k)+1+skip,me):=by
    have h1:=St.next_ok hst.1 hst.2.1 hst.2.2 hov
    show(St.nextC (Ve.top (Ve.cnt v.k)) me skip,St.nextN (Ve.top (Ve.cnt v.k)) me skip)=_
    rw[h1.1,h1.2.1]
   have hne:(writeR v me o skip val gone).2.1=noteR v me o skip gone:=by
    by_cases c3:gone=true
    ·unfold writeR;rw[if_pos c1,if_pos c2,if_pos c3]
    ·by_cases c4:(bodyR (takeR v (noteR v me o skip gone)).1 ⟨o,(nxt v me skip).1.1,(nxt v me skip).1.2,val⟩).2=0
     ·unfold writeR;rw[if_pos c1,if_pos c2,if_neg c3,if_pos c4]
     ·have he:(writeR v me o skip val gone).2.2=(bodyR (takeR v (noteR v me o skip gone)).1 ⟨o,(nxt v me skip).1.1,(nxt v me skip).1.2,val⟩).2:=by
       unfold writeR;rw[if_pos c1,if_pos c2,if_neg c3,if_neg c4]
      rw[he]at h0
      exact absurd h0 c4
   intro i hi
   rw[hne]
   unfold noteR ofN
   rw[hn1]
   split
   ·dsimp only
    have h1:=Ve.top_join (a:=v.k) (b:=[(Ve.top (Ve.cnt v.k)+1+skip,me)]) ht (fun n hn=>Ve.cnt_low (fun s hs=>by rw[List.mem_singleton]at hs;subst hs;show Ve.top (Ve.cnt v.k)+1+skip≤_;omega) n)
    have h2:=Ve.le_top (Ve.cnt (Ve.joinL [v.k,[(Ve.top (Ve.cnt v.k)+1+skip,me)]])) 64 i hi
    have h3:Ve.topTo (Ve.cnt (Ve.joinL [v.k,[(Ve.top (Ve.cnt v.k)+1+skip,me)]])) 64≤9223372036854775807:=h1
    omega
   ·show(0:Int)≤_
    omega
  ·have he:(writeR v me o skip val gone).2.2=(nxt v me skip).2:=by unfold writeR;rw[if_pos c1,if_neg c2]
   rw[he]at h0
   exact absurd h0 c2
 ·unfold writeR at h0
  rw[if_neg c1]at h0
  cases h0
theorem write_top{v:Vw}(hv:Ok v){me o skip:Int}{val:List Int}{gone:Bool}(ht:Ve.top (Ve.cnt v.k)≤9223372036854775807)(h0:(writeR v me o skip val gone).2.2=0):Ve.top (Ve.cnt (writeR v me o skip val gone).1.k)≤9223372036854775807:=by
 obtain⟨c,n,-,htk,hb⟩:=write_gave hv h0
 have h1:=take_top htk ht (write_e ht h0)
 rcases hb with hb|⟨h2,hb⟩
 ·rw[hb];exact h1
 ·rw[hb];exact body_top h2 h1
end Vw
end Go.Proofs.YtjlfehpockfkdaaGreat
namespace Go.Proofs.YtjlfehpockfkdaaGreat
open Go.ChangeShapes Go.WideShapes Go.RowKit Go.Deep
set_option maxRecDepth 100000
structure Ac where
 kind:Int
 n:Nl
 me:Int
 o:Int
 skip:Int
 X:Option Addr
 d:Nat
 val:List Int
 gone:Bool
 y:Bc
namespace Ac
def deed(a:Ac):List Value:=[.int .i64 a.me,.int .i64 a.o,.int .i64 a.skip,.slice a.X a.val.length a.d,.bool a.gone]
def cell(a:Ac):List Value :=.int .i64 a.kind::(Nl.cell a.n++(a.deed++Ca.cell a.y))
def cells(L:List Ac):List Value:=L.flatMap cell
def zero:Ac:=⟨0,Nl.zero,0,0,0,none,0,[],false,Bc.zero⟩
structure At (w:World) (a:Ac):Prop where
 n:a.n.At w
 x:OneB w a.X a.d a.val
 y:OneB w a.y.X a.y.d a.y.b.v
 low:Ve.low a.n.n.e
theorem At.later{w w':World}{a:Ac}(h:At w a)(hb:Below w.heap.size w w'):At w' a:=⟨NoteAt.later h.n hb,h.x.later hb,h.y.later hb,h.low⟩
end Ac
structure OneA (w:World) (A:Option Addr) (c:Nat) (L:List Ac):Prop where
 le:L.length≤c
 cap:c≤maxLen
 noA:A=none→L.length=0∧c=0
 lies:Lies w A (Ac.cells L)
 each:∀a∈L,a.At w
theorem OneA.later{w w':World}{A:Option Addr}{c:Nat}{L:List Ac}(h:OneA w A c L)(hb:Below w.heap.size w w'):OneA w' A c L:=⟨h.le,h.cap,h.noA,h.lies.later hb,fun a ha=>(h.each a ha).later hb⟩
section
variable {H:Type} {enc:TypeId × Value→H} {w:World}
theorem acLP:Tryz.prog.cellsOf 28=1:=by kernel_rfl
theorem acNt:Tryz.prog.cellsOf 40=4:=by kernel_rfl
theorem acBool:Tryz.prog.cellsOf 4=1:=by kernel_rfl
theorem acDeed:Tryz.prog.cellsOf 70=5:=by kernel_rfl
theorem acAct:Tryz.prog.cellsOf 72=14:=by kernel_rfl
theorem ac_stampE(fuel:Nat)(cs:List Value)(x:DataW H × List MemPlace)(h:DataW.trod enc Tryz.prog w 0 (fun _=>true) true fuel 46 cs=some x):∃a:Int × Int,cs=stCells [a]∧a.1≤9223372036854775807:=by
 obtain⟨y0,y1,m,hx,hl,q0,q1⟩:=trod_struct2 Tryz.underlying46 h
 rw[znSt]at hl
 obtain⟨a0,a1,rfl⟩:=list2 hl
 dsimp only at q0 q1
 rw[znInt]at q0 q1
 obtain⟨n,e0,_,hw⟩:=DataW.trod_int Tryz.underlying3 q0
 obtain⟨s,e1,_,_⟩:=DataW.trod_int Tryz.underlying3 q1
 have hb:IntKind.i64.min≤n∧n≤IntKind.i64.max:=by simpa[Lit.wf] using hw
 have e2:IntKind.i64.max=9223372036854775807:=by decide
 rw[e2]at hb
 simp at e0 e1
 subst e0 e1
 exact⟨(n,s),rfl,hb.2⟩
theorem ac_vecE{fuel:Nat}{cs:List Value}{x:DataW H × List MemPlace}(h:DataW.trod enc Tryz.prog w 0 (fun _=>true) true fuel 22 cs=some x):∃A c l,cs=[.slice A (List.length l) c]∧OneL w A c l∧Ve.low l:=by
 obtain⟨A,c,l,h1,h2,h3,h4,h5,h6⟩:=open_list_with ((0,0):Int × Int) (fun n=>stCells [n]) (fun a _=>a.1≤9223372036854775807) (size:=2) (fun _=>rfl) Tryz.underlying22 znSt (by decide) (fun fuel cs x h=>ac_stampE fuel cs x h) h
 rw[zn_flat]at h5
 refine⟨A,c,l,h1,⟨h2,h3,h4,h5⟩,fun s hs =>?_⟩
 rcases h6 with rfl|⟨_,_,_,_,h7⟩
 ·cases hs
 ·obtain⟨_,_,h8⟩:=h7 s hs
  exact h8
theorem ac_noteE{fuel:Nat}{cs:List Value}{x:DataW H × List MemPlace}(h:DataW.trod enc Tryz.prog w 0 (fun _=>true) true fuel 40 cs=some x):∃z:Nl,cs=Nl.cell z∧z.At w∧Ve.low z.n.e:=by
 obtain⟨y0,y1,y2,y3,m,hx,hl,q0,q1,q2,q3⟩:=Go.Joins.trod_struct4 Tryz.underlying40 h
 rw[acNt]at hl
 obtain⟨a0,a1,a2,a3,rfl⟩:=ca_list4 hl
 dsimp only at q0 q1 q2 q3
 rw[znLS]at q0 q1
 rw[acLP]at q2
 rw[vwLW]at q3
 obtain⟨S,s1,s2,e0,o0,_⟩:=zn_vecE q0
 obtain⟨E,n1,n2,e1,o1,l1⟩:=ac_vecE q1
 obtain⟨B,b1,b2,e2,o2⟩:=zn_setE q2
 obtain⟨V,v1,v2,e3,o3,_⟩:=vw_writesE q3
 simp at e0 e1 e2 e3
 subst e0 e1 e2 e3
 exact⟨⟨S,E,B,V,s1,n1,b1,v1,⟨s2,n2,b2,v2⟩⟩,rfl,⟨o0,o1,o2,o3⟩,l1⟩
theorem ac_deedE{fuel:Nat}{cs:List Value}{x:DataW H × List MemPlace}(h:DataW.trod enc Tryz.prog w 0 (fun _=>true) true fuel 70 cs=some x) :
  ∃(me o skip:Int) (X:Option Addr) (d:Nat) (val:List Int) (gone:Bool),cs=[.int .i64 me,.int .i64 o,.int .i64 skip,.slice X val.length d,.bool gone]∧OneB w X d val:=by
 obtain⟨y0,y1,y2,y3,y4,m,hx,hl,q0,q1,q2,q3,q4⟩:=trod_struct5 Tryz.underlying70 h
 rw[acDeed]at hl
 obtain⟨a0,a1,a2,a3,a4,rfl⟩:=vw_list5 hl
 dsimp only at q0 q1 q2 q3 q4
 rw[znInt]at q0 q1 q2
 rw[caLB]at q3
 rw[acBool]at q4
 obtain⟨me,e0,_,_⟩:=DataW.trod_int Tryz.underlying3 q0
 obtain⟨o,e1,_,_⟩:=DataW.trod_int Tryz.underlying3 q1
 obtain⟨skip,e2,_,_⟩:=DataW.trod_int Tryz.underlying3 q2
 obtain⟨X,d,val,e3,o3,_⟩:=ca_bytesE q3
 obtain⟨gone,e4,_⟩:=DataW.trod_bool Tryz.underlying4 q4
 simp at e0 e1 e2 e3 e4
 subst e0 e1 e2 e3 e4
 exact⟨me,o,skip,X,d,val,gone,rfl,o3⟩
theorem ac_actE(fuel:Nat)(cs:List Value)(x:DataW H × List MemPlace)(h:DataW.trod enc Tryz.prog w 0 (fun _=>true) true fuel 72 cs=some x):∃a:Ac,cs=Ac.cell a∧a.At w:=by
 obtain⟨y0,y1,y2,y3,m,hx,hl,q0,q1,q2,q3⟩:=Go.Joins.trod_struct4 Tryz.underlying72 h
 rw[acAct]at hl
 obtain⟨a0,a1,a2,a3,a4,a5,a6,a7,a8,a9,a10,a11,a12,a13,rfl⟩:∃a0 a1 a2 a3 a4 a5 a6 a7 a8 a9 a10 a11 a12 a13,cs=[a0,a1,a2,a3,a4,a5,a6,a7,a8,a9,a10,a11,a12,a13]:=by
  match cs,hl with
  | [a0,a1,a2,a3,a4,a5,a6,a7,a8,a9,a10,a11,a12,a13],_=>exact⟨a0,a1,a2,a3,a4,a5,a6,a7,a8,a9,a10,a11,a12,a13,rfl⟩
 dsimp only at q0 q1 q2 q3
 rw[znInt]at q0
 rw[acNt]at q1
 rw[acDeed]at q2
 rw[caBd]at q3
 obtain⟨kind,e0,_,_⟩:=DataW.trod_int Tryz.underlying3 q0
 obtain⟨z,e1,o1,l1⟩:=ac_noteE q1
 obtain⟨me,o,skip,X,d,val,gone,e2,o2⟩:=ac_deedE q2
 obtain⟨y,e3,o3,_⟩:=ca_bodyE _ _ _ q3
 simp at e0 e1 e2 e3
 refine⟨⟨kind,z,me,o,skip,X,d,val,gone,y⟩,?_,⟨o1,o2,o3,l1⟩⟩
 unfold Ac.cell Ac.deed
 rw[←e1,←e3,e0,e2.1,e2.2.1,e2.2.2.1,e2.2.2.2.1,e2.2.2.2.2]
 rfl
theorem open_acts{r:Reach}{b0:Nat}{v:Value}{d:DataW H}{p:List MemPlace}(hv:Value.okWide Tryz.prog w r b0 66 v)(h:DataW.Trod enc Tryz.prog w 0 (fun _=>true) true 66 v d p) :
  ∃(A:Option Addr) (c:Nat) (L:List Ac),v = .slice A L.length c∧OneA w A c L:=by
 obtain⟨a0,n0,c0,rfl⟩:=okWide_slice Tryz.underlying66 hv
 obtain⟨fuel,hf⟩:=h
 obtain⟨A,c,L,h1,h2,h3,h4,h5,h6⟩:=open_list_with Ac.zero Ac.cell (fun a _=>a.At w) (size:=14) (fun _=>rfl) Tryz.underlying66 acAct (by decide) (fun fuel cs x h=>ac_actE fuel cs x h) hf
 have h1:[Value.slice a0 n0 c0]=[.slice A L.length c]:=h1
 injection h1 with h1
 refine⟨A,c,L,h1,⟨h2,h3,h4,h5,fun z hz =>?_⟩⟩
 rcases h6 with rfl|⟨_,_,_,_,h7⟩
 ·cases hz
 ·obtain⟨_,_,h8⟩:=h7 z hz
  exact h8
end
end Go.Proofs.YtjlfehpockfkdaaGreat
namespace Go.Proofs.YtjlfehpockfkdaaGreat
open Go.RowKit
theorem Ac.cells_get:∀(L:List Ac) (k:Nat) (a:Ac),L[k]?=some a→∀j u,(Ac.cell a)[j]?=some u→(Ac.cells L)[k*14+j]?=some u
 | [],k,a,h,_,_,_=>by simp at h
 |x::r,0,a,h,j,u,hu=>by
  simp at h
  subst h
  show(Ac.cell x++Ac.cells r)[0*14+j]?=some u
  have hj:j<(Ac.cell x).length:=(List.getElem?_eq_some_iff.1 hu).1
  rw[Nat.zero_mul,Nat.zero_add,List.getElem?_append_left hj]
  exact hu
 |x::r,k+1,a,h,j,u,hu=>by
  have h1:=Ac.cells_get r k a (by simpa using h) j u hu
  show(Ac.cell x++Ac.cells r)[(k+1)*14+j]?=some u
  have hl:(Ac.cell x).length=14:=rfl
  rw[List.getElem?_append_right (by omega),hl,show(k+1)*14+j-14=k*14+j by omega]
  exact h1
section
variable {w:World} {A:Option Addr} {c:Nat} {L:List Ac}
theorem OneA.len(h:OneA w A c L):L.length≤9223372036854775807:=by
 have h1:=h.le
 have h2:=h.cap
 unfold maxLen at h2
 omega
theorem OneA.at(h:OneA w A c L)(hne:L≠[]):∃b off,A=some ⟨b,off,none⟩∧∀k a,L[k]?=some a→∀j u,(Ac.cell a)[j]?=some u→w.cell? ⟨b,off+(k*14+j),none⟩=some u:=by
 obtain⟨b,off,hA,hc⟩:=h.lies (fun e=>hne (by
  cases L with
  |nil=>rfl
  |cons x r=>have:=congrArg List.length e;simp[Ac.cells,Ac.cell]at this))
 exact⟨b,off,hA,fun k a hk j u hu=>hc _ _ (Ac.cells_get L k a hk j u hu)⟩
end
def Off(g:Nat)(A:Option Addr):Prop:=∀b off,A=some ⟨b,off,none⟩→b≠g
theorem Lo.off{n0 g:Nat}{A:Option Addr}(h:Lo n0 A)(hg:g<n0):Off g A:=fun b off e=>by
 have:=h b off e
 omega
theorem Lies.off{w:World}{A:Option Addr}{xs:List Value}(h:Lies w A xs)(hne:xs≠[]){g:Nat}(hg:w.heap.size≤g):Off g A:=fun b off e=>by
 obtain⟨b',off',hA,hc⟩:=h hne
 rw[e]at hA
 injection hA with hA
 injection hA with h1 h2
 obtain⟨x,r,rfl⟩:∃x r,xs=x::r:=by
  cases xs with
  |nil=>exact absurd rfl hne
  |cons x r=>exact⟨x,r,rfl⟩
 have:=World.block_lt_of_cell? w _ (hc 0 x rfl)
 have this:b'<w.heap.size:=this
 omega
theorem Lies.grown{w w1:World}{A:Option Addr}{xs:List Value}{row:Option Nat}(h:Lies w A xs)(hg:w.grownBy w1 row)(ho:xs≠[]→∀g,row=some g→Off g A):Lies w1 A xs:=fun hne=>by
 obtain⟨b,off,hA,hc⟩:=h hne
 refine⟨b,off,hA,fun j u hu=>hg.cell (hc j u hu) fun e =>?_⟩
 exact ho hne b e.symm b off hA rfl
structure VwOff (g:Nat) (q:Vl):Prop where
 k:q.k≠[]→Off g q.K
 z:q.z≠[]→Off g q.Z
 x:∀z∈q.z,z.l≠[]→Off g z.X
 h:q.h≠[]→Off g q.H
 b:q.b≠[]→Off g q.B
 y:∀z∈q.b,z.b.v≠[]→Off g z.X
theorem VwLo.off{n0 g:Nat}{q:Vl}(h:VwLo n0 q)(hg:g<n0):VwOff g q:=
 ⟨fun _=>h.k.off hg,fun _=>h.z.1.off hg,fun z hz _=>(h.z.2 z hz).off hg,fun _=>h.h.off hg,fun _=>h.b.1.off hg,fun z hz _=>(h.b.2 z hz).off hg⟩
theorem st_ne{l:List (Int × Int)}(h:l≠[]):stCells l≠[]:=by
 cases l with
 |nil=>exact absurd rfl h
 |cons s r=>intro e;cases e
theorem wr_ne{l:List Wr}(h:l≠[]):Nt.wrCells l≠[]:=fun e=>h (Nt.wrCells_nil.1 e)
theorem zn_ne{L:List Zc}(h:L≠[]):zCells L≠[]:=fun e=>h (zCells_nil.1 e)
theorem ca_ne{L:List Bc}(h:L≠[]):Ca.cells L≠[]:=by
 cases L with
 |nil=>exact absurd rfl h
 |cons s r=>intro e;have:=congrArg List.length e;simp[Ca.cells,Ca.cell]at this
theorem by_ne{l:List Int}(h:l≠[]):bCells l≠[]:=by
 cases l with
 |nil=>exact absurd rfl h
 |cons s r=>intro e;have:=congrArg List.length e;simp[bCells]at this
theorem VwAt.off{w:World}{q:Vl}(h:VwAt w q){g:Nat}(hg:w.heap.size≤g):VwOff g q:=
 ⟨fun hn=>h.k.2.2.2.off (st_ne hn) hg,fun hn=>h.z.lies.off (zn_ne hn) hg,fun z hz hn=>(h.z.each z hz).2.2.2.off (st_ne hn) hg,fun hn=>h.h.2.2.2.off (wr_ne hn) hg,fun hn=>h.b.lies.off (ca_ne hn) hg,fun z hz hn=>(h.b.each z hz).lies.off (by_ne hn) hg⟩
theorem VwAt.grown{w w1:World}{q:Vl}{row:Option Nat}(h:VwAt w q)(hg:w.grownBy w1 row)(ho:∀g,row=some g→VwOff g q):VwAt w1 q:=by
 have ns:∀{l:List (Int × Int)},stCells l≠[]→l≠[]:=fun h e=>h (by rw[e];rfl)
 have nb:∀{l:List Int},bCells l≠[]→l≠[]:=fun h e=>h (by rw[e];rfl)
 have nl:∀{A:Option Addr} {c:Nat} {l:List (Int × Int)},OneL w A c l→(l≠[]→∀g,row=some g→Off g A)→OneL w1 A c l:=fun h o=>⟨h.1,h.2.1,h.2.2.1,h.2.2.2.grown hg (fun hn=>o (ns hn))⟩
 refine⟨nl h.k (fun hn g e=>(ho g e).k hn),⟨h.z.le,h.z.cap,h.z.noA,h.z.lies.grown hg (fun hn g e=>(ho g e).z (fun e2=>hn (by rw[e2];rfl))),fun z hz=>nl (h.z.each z hz) (fun hn g e=>(ho g e).x z hz hn)⟩,
  ⟨h.h.1,h.h.2.1,h.h.2.2.1,h.h.2.2.2.grown hg (fun hn g e=>(ho g e).h (fun e2=>hn (by rw[e2];rfl)))⟩,⟨h.b.le,h.b.cap,h.b.noA,h.b.lies.grown hg (fun hn g e=>(ho g e).b (fun e2=>hn (by rw[e2];rfl))),fun z hz =>?_⟩⟩
 have h1:=h.b.each z hz
 exact⟨h1.le,h1.cap,h1.noA,h1.lies.grown hg (fun hn g e=>(ho g e).y z hz (nb hn)),h1.byte⟩
def Clear(v:Value)(q:Vl):Prop:=∀g,v.ownBlock=some g→VwOff g q
theorem Clear.new{w:World}{base:Nat}{e:TypeId}{size n:Nat}{v:Value}{xs:List Value}{q:Vl}(h:w.ownsRow base e size v n xs){n0:Nat}(hn:w.heap.size≤n0)(hq:VwLo n0 q):Clear v q:=fun g hg=>hq.off (by have:=own_lt h g hg;omega)
theorem Clear.grown{w:World}{v v':Value}{q:Vl}(h:Clear v q)(hq:VwAt w q)(hv:v'.ownBlock=v.ownBlock∨v'.ownBlock=some w.heap.size):Clear v' q:=fun g hg=>by
 rcases hv with e|e
 ·exact h g (e ▸ hg)
 ·rw[e]at hg
  injection hg with hg
  exact hq.off (by omega)
theorem Clear.nil(q:Vl):Clear (.slice none 0 0) q:=fun g hg=>by cases hg
structure ViewLo:Prop where
 take:∀(q:Vl) (S E P U:Option Addr) (cs ce cp cu:Nat) (n:Note) (w:World),VwAt w q→NoteAt w S E P U cs ce cp cu n →
  Calls Tryz.prog 22 #[.agg (vwCells q),.agg (noteCells S E P U cs ce cp cu n)] w (GivesVwN (Vw.takeR q.vw n).1 (Vw.takeR q.vw n).2 w)
 write:∀(q:Vl) (me o skip:Int) (X:Option Addr) (d:Nat) (val:List Int) (gone:Bool) (w:World),Ve.top (Ve.cnt q.k)≤9223372036854775807→VwAt w q→OneB w X d val →
  Calls Tryz.prog 37 #[.agg (vwCells q),.int .i64 me,.int .i64 o,.int .i64 skip,.slice X val.length d,.bool gone] w (GivesVwNN (Vw.writeR q.vw me o skip val gone).1 (Vw.writeR q.vw me o skip val gone).2.1 (Vw.writeR q.vw me o skip val gone).2.2 w)
 body:∀(q:Vl) (X:Option Addr) (d:Nat) (x:Bd) (w:World),VwAt w q→OneB w X d x.v→Calls Tryz.prog 25 #[.agg (vwCells q),.agg (bdCells X d x)] w (GivesVwN (Vw.bodyR q.vw x).1 (Vw.bodyR q.vw x).2 w)
end Go.Proofs.YtjlfehpockfkdaaGreat
namespace Go.Proofs.YtjlfehpockfkdaaGreat
open Go.RowKit Fb
theorem vw_const(w:World)(t:TypeId)(fr:Nat × Nat)(l:List Int)(hl:l.length≤maxLen)(hb:∀x∈l,isB x):OneB (w.alloc (.cells (bCells l).toArray t fr)) (some ⟨w.heap.size,0,none⟩) l.length l:=
 ⟨Nat.le_refl _,hl,(fun h=>by cases h),(fun _=>⟨w.heap.size,0,rfl,fun j u hu=>by
  rw[Nat.zero_add,World.cell?_alloc_mark]
  simpa using hu⟩),hb⟩
set_option maxRecDepth 100000 in
set_option maxHeartbeats 6400000 in
theorem valive_any(S:ViewSpec)(w:World):Calls Tryz.prog 11 #[] w (Says (.bool true) w):=by
 have SS:=Hd S
 have n1:=S.new 9 w
 rw[Vw.alive1]at n1
 have N1:=Hd n1
 clear n1 S
 have HB0:=Hd (Below.refl w.heap.size w)
 go_enter Tryz.func11,Tryz.ntmps11
 go_wp2_with fail
 refine(N1.out).mono ?_
 rintro e w1 ⟨q1,rfl,hq1,hV1,b1⟩
 have HB1:=Hd (below_on HB0.out b1)
 clear HB0
 clear b1 N1
 obtain⟨K1,ck1,k1,Z1,cz1,z1,H1,ch1,h1,B1,cb1,bb1,r1⟩:=q1
 have HQ1:=Hd hq1
 have XV:=Hd hV1
 clear hq1 hV1
 unfold vwCells
 dsimp only
 obtain⟨ga,hgga⟩:∃ga,w1.heap.size=ga:=⟨_,rfl⟩
 have le_ga:w.heap.size≤ga:=by have:=HB1.out.size;rw[hgga]at this;exact this
 go_upto_region 2 with (fail)
 have b2:=below_new (Below.refl w1.heap.size w1) (.cells #[.slice K1 k1.length ck1,.slice Z1 z1.length cz1,.slice H1 h1.length ch1,.slice B1 bb1.length cb1,.int .i64 r1] 27)
 have hA:=Blk.new w1 27 #[.slice K1 k1.length ck1,.slice Z1 z1.length cz1,.slice H1 h1.length ch1,.slice B1 bb1.length cb1,.int .i64 r1]
 obtain⟨w2,hw2⟩:∃x,w1.alloc (.cells #[.slice K1 k1.length ck1,.slice Z1 z1.length cz1,.slice H1 h1.length ch1,.slice B1 bb1.length cb1,.int .i64 r1] 27)=x:=⟨_,rfl⟩
 rw[hw2]at b2 hA
 rw[hw2]
 have HB2:=Hd (below_on HB1.out b2)
 clear HB1
 replace XV:=Hd (XV.out.later b2)
 rw[hgga]at hA
 have HA:=Hd hA
 clear b2 hw2 hA
 have A_0:=HA.out.cell (i:=0) rfl
 have A_1:=HA.out.cell (i:=1) rfl
 have A_2:=HA.out.cell (i:=2) rfl
 have A_3:=HA.out.cell (i:=3) rfl
 have A_4:=HA.out.cell (i:=4) rfl
 have kc:=Lib.run_convert_bytes_const (P:=Tryz.prog) w2 47 5 #[.int .u8 104,.int .u8 105] 2 2 Tryz.underlying47 Tryz.underlying5
 have C1:=vw_const w2 5 (2,3) [104,105] (by unfold maxLen;simp) (by intro x hx;simp at hx;unfold isB;omega)
 have bz:=below_new (Below.refl w2.heap.size w2) (.cells #[.int .u8 104,.int .u8 105] 5 (2,3))
 have n2:=SS.out.write ⟨K1,ck1,k1,Z1,cz1,z1,H1,ch1,h1,B1,cb1,bb1,r1⟩ 0 3 0 (some ⟨w2.heap.size,0,none⟩) 2 [104,105] false _ (by have hk:k1=[]:=(show k1=Vw.v1.k from congrArg Vw.k HQ1.out).trans (by rfl);show Ve.top (Ve.cnt k1)≤9223372036854775807;rw[hk];decide) (XV.out.later bz) C1
 rw[HQ1.out,show(Vw.writeR Vw.v1 0 3 0 [104,105] false)=Vw.v2 from rfl]at n2
 rw[Vw.alive2.1]at n2
 have N2:=Hd (show Calls Tryz.prog 37 #[.agg #[.slice K1 k1.length ck1,.slice Z1 z1.length cz1,.slice H1 h1.length ch1,.slice B1 bb1.length cb1,.int .i64 r1],.int .i64 0,.int .i64 3,.int .i64 0,.slice (some ⟨w2.heap.size,0,none⟩) 2 2,.bool false] (w2.alloc (.cells #[.int .u8 104,.int .u8 105] 5 (2,3))) (GivesVwNE Vw.v2.1 Vw.v2.2.1 0 (w2.alloc (.cells #[.int .u8 104,.int .u8 105] 5 (2,3)))) from n2)
 replace HA:=Hd (HA.out.later bz)
 have HB3:=Hd (below_on HB2.out bz)
 clear HB2
 replace XV:=Hd (XV.out.later bz)
 clear C1 bz n2
 obtain⟨n2,hn2⟩:∃n,Vw.v2.2.1=n:=⟨_,rfl⟩
 have HN2:=Hd (show n2.ws.length=1 from by rw[←hn2];exact Vw.alive2.2)
 rw[hn2]at N2
 clear hn2
 go_wp2_with fail
 refine(N2.out).mono ?_
 rintro e w4 ⟨q2,S2,E2,P2,U2,cs2,ce2,cp2,cu2,rfl,hq2,hV2,hN2,b4⟩
 clear A_0 A_1 A_2 A_3 A_4
 replace HA:=Hd (HA.out.later b4)
 have HB4:=Hd (below_on HB3.out b4)
 clear HB3
 replace XV:=Hd (XV.out.later b4)
 clear b4 N2 kc
 obtain⟨K2,ck2,k2,Z2,cz2,z2,H2,ch2,h2,B2,cb2,bb2,r2⟩:=q2
 have HQ2:=Hd hq2
 clear XV
 have XV:=Hd hV2
 have XN:=Hd hN2
 clear hq2 hV2 hN2
 unfold vwCells noteCells
 dsimp only
 obtain⟨gn,hggn⟩:∃gn,w4.heap.size=gn:=⟨_,rfl⟩
 have lt_A_gn:ga<gn:=by have:=HA.out.lt;rw[hggn]at this;exact this
 have le_gn:w.heap.size≤gn:=by have:=HB4.out.size;rw[hggn]at this;exact this
 have A_0:=HA.out.cell (i:=0) rfl
 have A_1:=HA.out.cell (i:=1) rfl
 have A_2:=HA.out.cell (i:=2) rfl
 have A_3:=HA.out.cell (i:=3) rfl
 have A_4:=HA.out.cell (i:=4) rfl
 have A_f0:=HA.out.free 0
 have A_f1:=HA.out.free 1
 have A_f2:=HA.out.free 2
 have A_f3:=HA.out.free 3
 have A_f4:=HA.out.free 4
 go_upto_region 3 with (fail)
 have HN9:=XN
 clear XN
 clear A_0 A_1 A_2 A_3 A_4 A_f0 A_f1 A_f2 A_f3 A_f4
 obtain⟨w5,hw5⟩:∃x,w4.setCell ⟨ga,0,none⟩ (.slice K2 k2.length ck2)=x:=⟨_,rfl⟩
 have t_XV:=XV.out.far HA.out rfl 0 (.slice K2 k2.length ck2)
 have t_HA:Blk (w4.setCell ⟨ga,0,none⟩ (.slice K2 k2.length ck2)) (ga) 27 #[.slice K2 k2.length ck2,.slice Z1 z1.length cz1,.slice H1 h1.length ch1,.slice B1 bb1.length cb1,.int .i64 r1]:=HA.out.put 0 (.slice K2 k2.length ck2)
 have t_HB5:=HB4.out.setCell (p:=⟨ga,0,none⟩) (by show w.heap.size≤ga;omega) (.slice K2 k2.length ck2)
 rw[hw5]at t_XV t_HA t_HB5
 rw[hw5]
 replace XV:=Hd t_XV
 replace HA:=Hd t_HA
 have HB5:=Hd t_HB5
 replace hggn:w5.heap.size=gn:=by rw[←hw5];simpa using hggn
 clear t_XV t_HA t_HB5 hw5 HB4
 obtain⟨w6,hw6⟩:∃x,w5.setCell ⟨ga,1,none⟩ (.slice Z2 z2.length cz2)=x:=⟨_,rfl⟩
 have t_XV:=XV.out.far HA.out rfl 1 (.slice Z2 z2.length cz2)
 have t_HA:Blk (w5.setCell ⟨ga,1,none⟩ (.slice Z2 z2.length cz2)) (ga) 27 #[.slice K2 k2.length ck2,.slice Z2 z2.length cz2,.slice H1 h1.length ch1,.slice B1 bb1.length cb1,.int .i64 r1]:=HA.out.put 1 (.slice Z2 z2.length cz2)
 have t_HB6:=HB5.out.setCell (p:=⟨ga,1,none⟩) (by show w.heap.size≤ga;omega) (.slice Z2 z2.length cz2)
 rw[hw6]at t_XV t_HA t_HB6
 rw[hw6]
 replace XV:=Hd t_XV
 replace HA:=Hd t_HA
 have HB6:=Hd t_HB6
 replace hggn:w6.heap.size=gn:=by rw[←hw6];simpa using hggn
 clear t_XV t_HA t_HB6 hw6 HB5
 obtain⟨w7,hw7⟩:∃x,w6.setCell ⟨ga,2,none⟩ (.slice H2 h2.length ch2)=x:=⟨_,rfl⟩
 have t_XV:=XV.out.far HA.out rfl 2 (.slice H2 h2.length ch2)
 have t_HA:Blk (w6.setCell ⟨ga,2,none⟩ (.slice H2 h2.length ch2)) (ga) 27 #[.slice K2 k2.length ck2,.slice Z2 z2.length cz2,.slice H2 h2.length ch2,.slice B1 bb1.length cb1,.int .i64 r1]:=HA.out.put 2 (.slice H2 h2.length ch2)
 have t_HB7:=HB6.out.setCell (p:=⟨ga,2,none⟩) (by show w.heap.size≤ga;omega) (.slice H2 h2.length ch2)
 rw[hw7]at t_XV t_HA t_HB7
 rw[hw7]
 replace XV:=Hd t_XV
 replace HA:=Hd t_HA
 have HB7:=Hd t_HB7
 replace hggn:w7.heap.size=gn:=by rw[←hw7];simpa using hggn
 clear t_XV t_HA t_HB7 hw7 HB6
 obtain⟨w8,hw8⟩:∃x,w7.setCell ⟨ga,3,none⟩ (.slice B2 bb2.length cb2)=x:=⟨_,rfl⟩
 have t_XV:=XV.out.far HA.out rfl 3 (.slice B2 bb2.length cb2)
 have t_HA:Blk (w7.setCell ⟨ga,3,none⟩ (.slice B2 bb2.length cb2)) (ga) 27 #[.slice K2 k2.length ck2,.slice Z2 z2.length cz2,.slice H2 h2.length ch2,.slice B2 bb2.length cb2,.int .i64 r1]:=HA.out.put 3 (.slice B2 bb2.length cb2)
 have t_HB8:=HB7.out.setCell (p:=⟨ga,3,none⟩) (by show w.heap.size≤ga;omega) (.slice B2 bb2.length cb2)
 rw[hw8]at t_XV t_HA t_HB8
 rw[hw8]
 replace XV:=Hd t_XV
 replace HA:=Hd t_HA
 have HB8:=Hd t_HB8
 replace hggn:w8.heap.size=gn:=by rw[←hw8];simpa using hggn
 clear t_XV t_HA t_HB8 hw8 HB7
 obtain⟨w9,hw9⟩:∃x,w8.setCell ⟨ga,4,none⟩ (.int .i64 r2)=x:=⟨_,rfl⟩
 have t_XV:=XV.out.far HA.out rfl 4 (.int .i64 r2)
 have t_HA:Blk (w8.setCell ⟨ga,4,none⟩ (.int .i64 r2)) (ga) 27 #[.slice K2 k2.length ck2,.slice Z2 z2.length cz2,.slice H2 h2.length ch2,.slice B2 bb2.length cb2,.int .i64 r2]:=HA.out.put 4 (.int .i64 r2)
 have t_HB9:=HB8.out.setCell (p:=⟨ga,4,none⟩) (by show w.heap.size≤ga;omega) (.int .i64 r2)
 rw[hw9]at t_XV t_HA t_HB9
 rw[hw9]
 replace XV:=Hd t_XV
 replace HA:=Hd t_HA
 have HB9:=Hd t_HB9
 replace hggn:w9.heap.size=gn:=by rw[←hw9];simpa using hggn
 clear t_XV t_HA t_HB9 hw9 HB8
 have b10:=below_new (Below.refl w9.heap.size w9) (.cells #[.slice S2 n2.s.length cs2,.slice E2 n2.e.length ce2,.slice P2 n2.b.length cp2,.slice U2 n2.ws.length cu2] 40)
 have hN:=Blk.new w9 40 #[.slice S2 n2.s.length cs2,.slice E2 n2.e.length ce2,.slice P2 n2.b.length cp2,.slice U2 n2.ws.length cu2]
 obtain⟨w10,hw10⟩:∃x,w9.alloc (.cells #[.slice S2 n2.s.length cs2,.slice E2 n2.e.length ce2,.slice P2 n2.b.length cp2,.slice U2 n2.ws.length cu2] 40)=x:=⟨_,rfl⟩
 rw[hw10]at b10 hN
 rw[hw10]
 replace HA:=Hd (HA.out.later b10)
 have HB10:=Hd (below_on HB9.out b10)
 clear HB9
 replace XV:=Hd (XV.out.later b10)
 rw[hggn]at hN
 have HN:=Hd hN
 clear b10 hw10 hN
 have A_0:=HA.out.cell (i:=0) rfl
 have A_1:=HA.out.cell (i:=1) rfl
 have A_2:=HA.out.cell (i:=2) rfl
 have A_3:=HA.out.cell (i:=3) rfl
 have A_4:=HA.out.cell (i:=4) rfl
 have n3:=SS.out.read ⟨K2,ck2,k2,Z2,cz2,z2,H2,ch2,h2,B2,cb2,bb2,r2⟩ 3 w10 XV.out
 rw[HQ2.out,Vw.alive3]at n3
 have N3:=Hd (show Calls Tryz.prog 27 #[.agg #[.slice K2 k2.length ck2,.slice Z2 z2.length cz2,.slice H2 h2.length ch2,.slice B2 bb2.length cb2,.int .i64 r2],.int .i64 3] w10 (GivesRd [104,105] (1,0,3,false) 0 w10) from n3)
 clear n3 XV SS HQ1 HQ2
 go_wp2_with fail
 refine(N3.out).mono ?_
 rintro e w11 ⟨A4,c4,rfl,hB4,b11⟩
 clear A_0 A_1 A_2 A_3 A_4
 replace HA:=Hd (HA.out.later b11)
 replace HN:=Hd (HN.out.later b11)
 have HB11:=Hd (below_on HB10.out b11)
 clear HB10
 clear b11 N3
 have XB:=Hd hB4
 clear hB4
 unfold Nt.wrArr
 dsimp only
 obtain⟨gw,hggw⟩:∃gw,w11.heap.size=gw:=⟨_,rfl⟩
 have lt_A_gw:ga<gw:=by have:=HA.out.lt;rw[hggw]at this;exact this
 have lt_N_gw:gn<gw:=by have:=HN.out.lt;rw[hggw]at this;exact this
 have le_gw:w.heap.size≤gw:=by have:=HB11.out.size;rw[hggw]at this;exact this
 go_upto_region 4 with (fail)
 have b12:=below_new (Below.refl w11.heap.size w11) (.cells #[.int .i64 1,.int .i64 0,.int .i64 3,.bool false] 52)
 have hY:=Blk.new w11 52 #[.int .i64 1,.int .i64 0,.int .i64 3,.bool false]
 obtain⟨w12,hw12⟩:∃x,w11.alloc (.cells #[.int .i64 1,.int .i64 0,.int .i64 3,.bool false] 52)=x:=⟨_,rfl⟩
 rw[hw12]at b12 hY
 rw[hw12]
 replace HA:=Hd (HA.out.later b12)
 replace HN:=Hd (HN.out.later b12)
 have HB12:=Hd (below_on HB11.out b12)
 clear HB11
 replace XB:=Hd (XB.out.later b12)
 rw[hggw]at hY
 have HY:=Hd hY
 clear b12 hw12 hY
 have hs:strOfNums [104,105]=⟨#[104,105]⟩:=by decide +kernel
 have hc:(convert 47 9 (.slice A4 2 c4)).run Tryz.prog w12 = .ok (.string ⟨#[104,105]⟩) w12:=by
  have h9:=XB.out.text (P:=Tryz.prog) (src:=47) (e:=5) (dst:=9) Tryz.underlying47 Tryz.underlying5 (by kernel_rfl)
  rw[hs]at h9
  exact h9
 have Y_0:=HY.out.cell (i:=0) rfl
 have Y_1:=HY.out.cell (i:=1) rfl
 have Y_2:=HY.out.cell (i:=2) rfl
 have Y_3:=HY.out.cell (i:=3) rfl
 have N_3:=HN.out.cell (i:=3) rfl
 obtain⟨nl,hnl⟩:∃l,n2.ws.length=l:=⟨_,rfl⟩
 rw[hnl]at N_3 HN2
 obtain rfl:=HN2.out
 have HQ:=Hd HB12.out
 clear hnl XB HN9
 go_wp2
 go_ret
 exact⟨by first|rfl|simp,HQ.out⟩
end Go.Proofs.YtjlfehpockfkdaaGreat
namespace Go.Proofs.YtjlfehpockfkdaaGreat
open Go.RowKit
structure RowA (w:World) (base:Nat) (v:Value) (l:List Wr):Prop where
 own:w.ownsRow base 52 4 v l.length (Nt.wrCells l)
structure RowY (w:World) (base:Nat) (v:Value) (M:List Bc):Prop where
 own:w.ownsRow base 49 4 v M.length (Ca.cells M)
section
variable {w w':World} {base g:Nat} {v:Value} {l:List Wr} {M:List Bc} {cs:Array Value}
theorem RowA.later(h:RowA w base v l)(hb:Below w.heap.size w w'):RowA w' base v l:=⟨own_later h.own hb⟩
theorem RowY.later(h:RowY w base v M)(hb:Below w.heap.size w w'):RowY w' base v M:=⟨own_later h.own hb⟩
theorem RowA.far(h:RowA w base v l)(hB:Blk w g 27 cs)(_:dull cs=true)(i:Nat)(u:Value):RowA (w.setCell ⟨g,i,none⟩ u) base v l:=
 ⟨own_stays h.own fun k hk=>Below.heap_setCell w ⟨g,i,none⟩ u k (own_other h.own hB (by decide) k hk)⟩
theorem RowY.far(h:RowY w base v M)(hB:Blk w g 27 cs)(_:dull cs=true)(i:Nat)(u:Value):RowY (w.setCell ⟨g,i,none⟩ u) base v M:=
 ⟨own_stays h.own fun k hk=>Below.heap_setCell w ⟨g,i,none⟩ u k (own_other h.own hB (by decide) k hk)⟩
theorem RowA.nil(w:World)(base:Nat):RowA w base (.slice none 0 0) []:=⟨World.ownsRow_nil _ _ _ _⟩
theorem RowY.nil(w:World)(base:Nat):RowY w base (.slice none 0 0) []:=⟨World.ownsRow_nil _ _ _ _⟩
theorem RowY.grown{v2:Value}(h:RowY w base v M)(h2:RowA w base v2 l)(hg:w.grownBy w' v2.ownBlock):RowY w' base v M:=⟨ca_apart h.own h2.own (by decide) hg⟩
theorem RowA.grown{v2:Value}(h:RowA w base v l)(h2:RowY w base v2 M)(hg:w.grownBy w' v2.ownBlock):RowA w' base v l:=⟨ca_apart h.own h2.own (by decide) hg⟩
theorem RowA.box{t:TypeId}(h:RowA w base v l)(hB:Blk w g t cs)(ht:t≠52)(hg:w.grownBy w' v.ownBlock):Blk w' g t cs:=
 (hg.block g hB.lt (fun e=>own_other h.own hB ht g e.symm rfl)).trans hB
theorem RowY.box{t:TypeId}(h:RowY w base v M)(hB:Blk w g t cs)(ht:t≠49)(hg:w.grownBy w' v.ownBlock):Blk w' g t cs:=
 (hg.block g hB.lt (fun e=>own_other h.own hB ht g e.symm rfl)).trans hB
theorem Clear.newA{q:Vl}(h:RowA w base v l){n0:Nat}(hn:w.heap.size≤n0)(hq:VwLo n0 q):Clear v q:=Clear.new h.own hn hq
theorem Clear.newY{q:Vl}(h:RowY w base v M){n0:Nat}(hn:w.heap.size≤n0)(hq:VwLo n0 q):Clear v q:=Clear.new h.own hn hq
end
theorem Ac.cells14{w:World}{b off k:Nat}{a:Ac}(h:∀j u,(Ac.cell a)[j]?=some u→w.cell? ⟨b,off+(k*14+j),none⟩=some u) :
  w.cell? ⟨b,off+k*14,none⟩=some (.int .i64 a.kind) ∧
  (w.cell? ⟨b,off+k*14+1,none⟩=some (.slice a.n.S a.n.n.s.length a.n.cs)∧w.cell? ⟨b,off+k*14+1+1,none⟩=some (.slice a.n.E a.n.n.e.length a.n.ce)∧w.cell? ⟨b,off+k*14+1+2,none⟩=some (.slice a.n.B a.n.n.b.length a.n.cb)∧w.cell? ⟨b,off+k*14+1+3,none⟩=some (.slice a.n.V a.n.n.ws.length a.n.cv)) ∧
  (w.cell? ⟨b,off+k*14+5,none⟩=some (.int .i64 a.me)∧w.cell? ⟨b,off+k*14+5+1,none⟩=some (.int .i64 a.o)∧w.cell? ⟨b,off+k*14+5+2,none⟩=some (.int .i64 a.skip)∧w.cell? ⟨b,off+k*14+5+3,none⟩=some (.slice a.X a.val.length a.d)∧w.cell? ⟨b,off+k*14+5+4,none⟩=some (.bool a.gone)) ∧
  (w.cell? ⟨b,off+k*14+10,none⟩=some (.int .i64 a.y.b.o)∧w.cell? ⟨b,off+k*14+10+1,none⟩=some (.int .i64 a.y.b.c)∧w.cell? ⟨b,off+k*14+10+2,none⟩=some (.int .i64 a.y.b.n)∧w.cell? ⟨b,off+k*14+10+3,none⟩=some (.slice a.y.X a.y.b.v.length a.y.d)):=by
 have e:∀j,off+(k*14+j)=off+k*14+j:=fun j=>by omega
 refine⟨h 0 _ rfl,⟨e 1 ▸ h 1 _ rfl,e 2 ▸ h 2 _ rfl,e 3 ▸ h 3 _ rfl,e 4 ▸ h 4 _ rfl⟩,⟨e 5 ▸ h 5 _ rfl,e 6 ▸ h 6 _ rfl,e 7 ▸ h 7 _ rfl,e 8 ▸ h 8 _ rfl,e 9 ▸ h 9 _ rfl⟩,e 10 ▸ h 10 _ rfl,e 11 ▸ h 11 _ rfl,e 12 ▸ h 12 _ rfl,e 13 ▸ h 13 _ rfl⟩
theorem Ac.at14{w:World}{b off c k:Nat}{L:List Ac}{a:Ac}(h:OneA w (some ⟨b,off,none⟩) c L)(ha:L[k]?=some a) :
  ∀j u,(Ac.cell a)[j]?=some u→w.cell? ⟨b,off+(k*14+j),none⟩=some u:=by
 obtain⟨b',off',hA,hc⟩:=h.at (fun e=>by rw[e]at ha;simp at ha)
 injection hA with hA
 injection hA with h1 h2
 subst h1
 subst h2
 exact hc k a ha
theorem OneW.cells4{w:World}{b off c k:Nat}{l:List Wr}{y:Wr}(h:OneW w (some ⟨b,off,none⟩) c l)(hy:l[k]?=some y) :
  w.cell? ⟨b,off+k*4,none⟩=some (.int .i64 y.1)∧w.cell? ⟨b,off+k*4+1,none⟩=some (.int .i64 y.2.1) ∧
  w.cell? ⟨b,off+k*4+2,none⟩=some (.int .i64 y.2.2.1)∧w.cell? ⟨b,off+k*4+3,none⟩=some (.bool y.2.2.2):=by
 obtain⟨b',off',hA,hc⟩:=h.at (fun e=>by rw[e]at hy;simp at hy)
 injection hA with hA
 injection hA with h1 h2
 subst h1
 subst h2
 have hk:k<l.length:=(List.getElem?_eq_some_iff.1 hy).1
 have hg:l.getD k Nt.zeroW=y:=by rw[List.getD_eq_getElem?_getD,hy];rfl
 have h2:=hc k hk
 rw[hg]at h2
 exact h2
theorem Vw.take_has{l:List Wr}{k:Nat}{y:Wr}{v:Vw}(hy:l[k]?=some y):(l.take (k+1)).filter v.has=(l.take k).filter v.has++(if v.has y=true then [y] else []):=by
 obtain⟨hk,rfl⟩:=List.getElem?_eq_some_iff.1 hy
 rw[List.take_succ_eq_append_getElem hk,List.filter_append,List.filter_cons,List.filter_nil]
theorem RowA.snoc{w:World}{base:Nat}{v:Value}{l l2:List Wr}{n:Nat}(h:w.ownsRow base 52 4 v (l.length+n) (Nt.wrCells l++Nt.wrCells l2))(hn:n=l2.length):RowA w base v (l++l2):=by
 subst hn
 exact⟨by rw[List.length_append,Nt.wrCells_append];exact h⟩
theorem RowY.snoc{w:World}{base:Nat}{v:Value}{M:List Bc}{z:Bc}(h:w.ownsRow base 49 4 v (M.length+1) (Ca.cells M++Ca.cell z)):RowY w base v (M++[z]):=
 ⟨by rw[List.length_append,Ca.cells_append,show Ca.cells [z]=Ca.cell z from List.append_nil _];exact h⟩
theorem RowA.one{w:World}{base n c:Nat}{A:Option Addr}{l:List Wr}(h:RowA w base (.slice A n c) l):n=l.length∧OneW w A c l:=by
 obtain⟨A',c',e,ho⟩:=OneW.of_own h.own
 injection e with e1 e2 e3
 subst e1
 subst e3
 exact⟨e2,ho⟩
theorem RowY.one{w:World}{base n c:Nat}{A:Option Addr}{M:List Bc}(h:RowY w base (.slice A n c) M)(hb:∀z∈M,OneB w z.X z.d z.b.v):n=M.length∧OneC w A c M:=by
 obtain⟨A',c',e,h1,h2,h3,h4⟩:=own_form h.own
 injection e with e1 e2 e3
 subst e1
 subst e3
 exact⟨e2,h1,h2,h3,h4,hb⟩
theorem Lies.wr1{w:World}{b off:Nat}{y:Wr}(h:Lies w (some ⟨b,off,none⟩) (Nt.wrCells [y])) :
  w.cell? ⟨b,off,none⟩=some (.int .i64 y.1)∧w.cell? ⟨b,off+1,none⟩=some (.int .i64 y.2.1)∧w.cell? ⟨b,off+2,none⟩=some (.int .i64 y.2.2.1)∧w.cell? ⟨b,off+3,none⟩=some (.bool y.2.2.2):=by
 obtain⟨b',off',hA,hc⟩:=h (by intro e;cases e)
 injection hA with hA
 injection hA with h1 h2
 subst h1
 subst h2
 exact⟨hc 0 _ rfl,hc 1 _ rfl,hc 2 _ rfl,hc 3 _ rfl⟩
theorem Vw.any_succ{l:List Wr}{k:Nat}{y:Wr}{o:Int}(hy:l[k]?=some y):(l.take (k+1)).any (fun p=>decide (p.2.2.1=o))=((l.take k).any (fun p=>decide (p.2.2.1=o))||decide (y.2.2.1=o)):=by
 obtain⟨hk,rfl⟩:=List.getElem?_eq_some_iff.1 hy
 rw[List.take_succ_eq_append_getElem hk,List.any_append,List.any_cons,List.any_nil,Bool.or_false]
theorem Lies.farW{w:World}{g:Nat}{t:TypeId}{cs:Array Value}{A:Option Addr}{y:Wr}(h:Lies w A (Nt.wrCells [y]))(hB:Blk w g t cs)(hd:dull cs=true)(i:Nat)(u:Value):Lies (w.setCell ⟨g,i,none⟩ u) A (Nt.wrCells [y]):=h.mild (fun _=>⟨_,_,rfl,rfl,rfl,rfl⟩) (Mild.put hB hd i u)
theorem mod3(n:Int):∃m:Nat,m<3∧(IntKind.u64.wrap n).tmod 3=(m:Int):=by
 have h0:0≤IntKind.u64.wrap n:=by simp[IntKind.wrap,IntKind.bits,IntKind.signed];omega
 have h1:(IntKind.u64.wrap n).tmod 3=IntKind.u64.wrap n % 3:=Int.tmod_eq_emod_of_nonneg h0
 exact⟨(IntKind.u64.wrap n % 3).toNat,by omega,by rw[h1];omega⟩
end Go.Proofs.YtjlfehpockfkdaaGreat
namespace Go.Proofs.YtjlfehpockfkdaaGreat
open Go.RowKit Fb
def NwF(B:Nat)(t:TypeId)(kk:Nat→Value)(nx:Vw)(er:Int)(i:Nat)(v:Nat→Value)(wx:World):Prop:=match i with
 |0=>v 0=kk 0
 |1=>v 1=kk 1
 |2=>v 2=kk 2
 |3=>v 3=kk 3
 |4=>v 4=kk 4
 |5=>v 5=kk 5
 |6=>∃q,v 6 = .tuple #[.agg (vwCells q),.int .i64 er]∧q.vw=nx∧VwAt wx q∧VwLo B q
 |7=>∃q,v 7 = .tuple #[.agg (vwCells q),.int .i64 er]∧q.vw=nx∧VwAt wx q∧VwLo B q
 |8=>∃q,v 8 = .agg (vwCells q)∧q.vw=nx∧VwAt wx q∧VwLo B q
 |9=>v 9 = .int .i64 er
 |10=>∃g p,v 10 = .pointer (some ⟨g,0,none⟩)∧B≤g∧Blk wx g t (vwCells p)
 |11=>∃g q,v 10 = .pointer (some ⟨g,0,none⟩)∧B≤g∧Blk wx g t (vwCells q)∧q.vw=nx∧VwAt wx q∧VwLo B q
 |12=>v 12 = .int .i64 er
 |_=>True
section
variable {B:Nat} {t:TypeId} {kk:Nat→Value} {nx:Vw} {er:Int}
theorem NwF.later{i:Nat}{v:Nat→Value}{w w':World}(h:NwF B t kk nx er i v w)(hb:Below w.heap.size w w'):NwF B t kk nx er i v w':=by
 match i,h with
 |0,h=>exact h
 |1,h=>exact h
 |2,h=>exact h
 |3,h=>exact h
 |4,h=>exact h
 |5,h=>exact h
 |6,⟨q,h1,h2,h3,h4⟩=>exact⟨q,h1,h2,h3.later hb,h4⟩
 |7,⟨q,h1,h2,h3,h4⟩=>exact⟨q,h1,h2,h3.later hb,h4⟩
 |8,⟨q,h1,h2,h3,h4⟩=>exact⟨q,h1,h2,h3.later hb,h4⟩
 |9,h=>exact h
 |10,⟨g,p,h1,h2,h3⟩=>exact⟨g,p,h1,h2,h3.later hb⟩
 |11,⟨g,q,h1,h2,h3,h4,h5,h6⟩=>exact⟨g,q,h1,h2,h3.later hb,h4,h5.later hb,h6⟩
 |12,h=>exact h
 |i+13,_=>trivial
theorem NwF.loc{i k:Nat}{v:Nat→Value}{x:Value}{w:World}(hk:k≠i)(h8:i=11→k≠10)(h:NwF B t kk nx er i v w):NwF B t kk nx er i (upd v k x) w:=by
 have e:∀j,k≠j→upd v k x j=v j:=fun j hj=>upd_other v k x (fun e=>hj e.symm)
 match i,hk,h8,h with
 |0,hk,_,h=>unfold NwF at h ⊢;simp only[e 0 hk];exact h
 |1,hk,_,h=>unfold NwF at h ⊢;simp only[e 1 hk];exact h
 |2,hk,_,h=>unfold NwF at h ⊢;simp only[e 2 hk];exact h
 |3,hk,_,h=>unfold NwF at h ⊢;simp only[e 3 hk];exact h
 |4,hk,_,h=>unfold NwF at h ⊢;simp only[e 4 hk];exact h
 |5,hk,_,h=>unfold NwF at h ⊢;simp only[e 5 hk];exact h
 |6,hk,_,h=>unfold NwF at h ⊢;simp only[e 6 hk];exact h
 |7,hk,_,h=>unfold NwF at h ⊢;simp only[e 7 hk];exact h
 |8,hk,_,h=>unfold NwF at h ⊢;simp only[e 8 hk];exact h
 |9,hk,_,h=>unfold NwF at h ⊢;simp only[e 9 hk];exact h
 |10,hk,_,h=>unfold NwF at h ⊢;simp only[e 10 hk];exact h
 |11,_,h8,h=>unfold NwF at h ⊢;simp only[e 10 (h8 rfl)];exact h
 |12,hk,_,h=>unfold NwF at h ⊢;simp only[e 12 hk];exact h
 |i+13,_,_,_=>trivial
theorem NwF.store{v:Nat→Value}{w:World}{g:Nat}{p q:Vl}(hv:v 10 = .pointer (some ⟨g,0,none⟩))(hg:B≤g)(hb:Blk w g t (vwCells p))(hq:q.vw=nx)(hV:VwAt w q)(hL:VwLo B q) :
  Below B w (((((w.setCell ⟨g,0,none⟩ (.slice q.K q.k.length q.ck)).setCell ⟨g,1,none⟩ (.slice q.Z q.z.length q.cz)).setCell ⟨g,2,none⟩ (.slice q.H q.h.length q.ch)).setCell ⟨g,3,none⟩ (.slice q.B q.b.length q.cb)).setCell ⟨g,4,none⟩ (.int .i64 q.r)) ∧
  (∀x,NwF B t kk nx er 11 (upd v 11 x) (((((w.setCell ⟨g,0,none⟩ (.slice q.K q.k.length q.ck)).setCell ⟨g,1,none⟩ (.slice q.Z q.z.length q.cz)).setCell ⟨g,2,none⟩ (.slice q.H q.h.length q.ch)).setCell ⟨g,3,none⟩ (.slice q.B q.b.length q.cb)).setCell ⟨g,4,none⟩ (.int .i64 q.r))) ∧
  ∀j,j<13→j≠11→NwF B t kk nx er j v w→NwF B t kk nx er j v (((((w.setCell ⟨g,0,none⟩ (.slice q.K q.k.length q.ck)).setCell ⟨g,1,none⟩ (.slice q.Z q.z.length q.cz)).setCell ⟨g,2,none⟩ (.slice q.H q.h.length q.ch)).setCell ⟨g,3,none⟩ (.slice q.B q.b.length q.cb)).setCell ⟨g,4,none⟩ (.int .i64 q.r)):=by
 have hp:∀q2:Vl,VwAt w q2→VwAt (((((w.setCell ⟨g,0,none⟩ (.slice q.K q.k.length q.ck)).setCell ⟨g,1,none⟩ (.slice q.Z q.z.length q.cz)).setCell ⟨g,2,none⟩ (.slice q.H q.h.length q.ch)).setCell ⟨g,3,none⟩ (.slice q.B q.b.length q.cb)).setCell ⟨g,4,none⟩ (.int .i64 q.r)) q2:=fun q2 h2=>h2.puts hb (by simp[dull,dullL,headInt,int_slice,byte_slice,int_i64,byte_i64]) ⟨rfl,rfl,rfl,rfl,rfl⟩
 have hB:Blk (((((w.setCell ⟨g,0,none⟩ (.slice q.K q.k.length q.ck)).setCell ⟨g,1,none⟩ (.slice q.Z q.z.length q.cz)).setCell ⟨g,2,none⟩ (.slice q.H q.h.length q.ch)).setCell ⟨g,3,none⟩ (.slice q.B q.b.length q.cb)).setCell ⟨g,4,none⟩ (.int .i64 q.r)) g t (vwCells q):=((((hb.put 0 _).put 1 _).put 2 _).put 3 _).put 4 _
 have hbl:Below B w (((((w.setCell ⟨g,0,none⟩ (.slice q.K q.k.length q.ck)).setCell ⟨g,1,none⟩ (.slice q.Z q.z.length q.cz)).setCell ⟨g,2,none⟩ (.slice q.H q.h.length q.ch)).setCell ⟨g,3,none⟩ (.slice q.B q.b.length q.cb)).setCell ⟨g,4,none⟩ (.int .i64 q.r)):=(((((Below.refl B w).setCell (p:=⟨g,0,none⟩) hg _).setCell (p:=⟨g,1,none⟩) hg _).setCell (p:=⟨g,2,none⟩) hg _).setCell (p:=⟨g,3,none⟩) hg _).setCell (p:=⟨g,4,none⟩) hg _
 obtain⟨w9,hw9⟩:∃x,(((((w.setCell ⟨g,0,none⟩ (.slice q.K q.k.length q.ck)).setCell ⟨g,1,none⟩ (.slice q.Z q.z.length q.cz)).setCell ⟨g,2,none⟩ (.slice q.H q.h.length q.ch)).setCell ⟨g,3,none⟩ (.slice q.B q.b.length q.cb)).setCell ⟨g,4,none⟩ (.int .i64 q.r))=x:=⟨_,rfl⟩
 rw[hw9]at hp hB hbl ⊢
 clear hw9 hb
 refine⟨hbl,fun x=>⟨g,q,(upd_other v 11 x (by decide)).trans hv,hg,hB,hq,hp q hV,hL⟩,fun j hj hne h =>?_⟩
 match j,hj,hne,h with
 |0,_,_,h=>exact h
 |1,_,_,h=>exact h
 |2,_,_,h=>exact h
 |3,_,_,h=>exact h
 |4,_,_,h=>exact h
 |5,_,_,h=>exact h
 |6,_,_,⟨q2,h1,h2,h3,h4⟩=>exact⟨q2,h1,h2,hp q2 h3,h4⟩
 |7,_,_,⟨q2,h1,h2,h3,h4⟩=>exact⟨q2,h1,h2,hp q2 h3,h4⟩
 |8,_,_,⟨q2,h1,h2,h3,h4⟩=>exact⟨q2,h1,h2,hp q2 h3,h4⟩
 |9,_,_,h=>exact h
 |10,_,_,_=>exact⟨g,q,hv,hg,hB⟩
 |11,_,hne,_=>exact absurd rfl hne
 |12,_,_,h=>exact h
end
end Go.Proofs.YtjlfehpockfkdaaGreat
