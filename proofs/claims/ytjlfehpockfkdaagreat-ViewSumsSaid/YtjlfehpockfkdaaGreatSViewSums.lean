/-
  For any view and any list of spans, the law ViewSums returns true and leaves its arguments as they were. No condition.
-/
import Derived.Test.YtjlfehpockfkdaaGreatB01
import Derived.ProofKit
import Derived.Below
import Derived.WideKeyArgs
import Derived.OpenShut
import Derived.Lib.SmallJoins
import Derived.Deep.Slices
import Derived.Test.YtjlfehpockfkdaaGreatRows
import Derived.WalkKit
import Derived.SizedLaws
import Derived.Test.YtjlfehpockfkdaaGreatSViewSumsB
import Derived.Test.YtjlfehpockfkdaaGreatB02
import Derived.Test.YtjlfehpockfkdaaGreatB04
import Derived.Test.YtjlfehpockfkdaaGreatB03
import Derived.Test.YtjlfehpockfkdaaGreatB05
import Derived.Test.YtjlfehpockfkdaaGreatSViewSumsA
import Derived.Test.YtjlfehpockfkdaaGreatB06
import Derived.Test.YtjlfehpockfkdaaGreatB07
import Derived.Lib.SlBytesConst
namespace Go.Proofs.YtjlfehpockfkdaaGreat
open Go.RowKit
namespace Vd
def zAt(zs:List Zn)(i:Nat):Zn:=zs.getD i (0,0,[])
def spAt(zs:List Zn)(i:Nat):Int × Int:=((zAt zs i).1,(zAt zs i).2.1)
def vecAt(zs:List Zn)(i:Nat):List (Int × Int):=(zAt zs i).2.2
def tch(zs:List Zn)(it:List (Int × Int))(i:Nat):Bool:=Sp.touch (Sp.inL it) (Sp.inL [spAt zs i])
def told1(zs:List Zn)(it:List (Int × Int))(k p:Nat):Bool:=(List.range k).any fun i=>tch zs it i&&decide (vecAt zs i=vecAt zs p)
def em(zs:List Zn)(it:List (Int × Int))(i:Nat):Bool:=tch zs it i && !told1 zs it i i
def alikeTo(zs:List Zn)(i p:Nat):List (Int × Int):=((List.range p).filter fun j=>decide (vecAt zs j=vecAt zs i)).map (spAt zs)
def obj(zs:List Zn)(it:List (Int × Int))(i:Nat):Nat→Bool:=fun o=>Sp.inL it o&&Sp.inL (alikeTo zs i zs.length) o
def outTo(v:Vw)(it:List (Int × Int))(k:Nat):List Note:=((List.range k).filter (em v.z it)).map fun i=>Vw.part v (vecAt v.z i) (obj v.z it i)
theorem told_succ(zs:List Zn)(it:List (Int × Int))(k p:Nat):told1 zs it (k+1) p=(told1 zs it k p||(tch zs it k&&decide (vecAt zs k=vecAt zs p))):=by
 unfold told1
 rw[List.range_succ,List.any_append]
 simp
theorem out_succ(v:Vw)(it:List (Int × Int))(k:Nat):outTo v it (k+1)=outTo v it k++(if em v.z it k=true then [Vw.part v (vecAt v.z k) (obj v.z it k)] else []):=by
 unfold outTo
 rw[List.range_succ,List.filter_append,List.map_append,List.filter_cons]
 split<;>rfl
theorem alike_succ(zs:List Zn)(i p:Nat):alikeTo zs i (p+1)=alikeTo zs i p++(if vecAt zs p=vecAt zs i then [spAt zs p] else []):=by
 unfold alikeTo
 rw[List.range_succ,List.filter_append,List.map_append,List.filter_cons]
 by_cases h:vecAt zs p=vecAt zs i<;>simp[h]
theorem alike_len(zs:List Zn)(i p:Nat):(alikeTo zs i p).length≤p:=by
 unfold alikeTo
 rw[List.length_map]
 exact Nat.le_trans (List.length_filter_le _ _) (by rw[List.length_range];exact Nat.le_refl _)
theorem out_len(v:Vw)(it:List (Int × Int))(k:Nat):(outTo v it k).length≤k:=by
 unfold outTo
 rw[List.length_map]
 exact Nat.le_trans (List.length_filter_le _ _) (by rw[List.length_range];exact Nat.le_refl _)
section
variable {zs:List Zn} (hz:Tr.fmd zs=true)
include hz
theorem z_ok{i:Nat}(hi:i<zs.length):0≤(zAt zs i).1∧(zAt zs i).1≤(zAt zs i).2.1∧(zAt zs i).2.1≤255:=((Tr.fmd_iff zs).1 hz i hi).1
theorem z_up(i:Nat):∀d,i+d+1<zs.length→(zAt zs i).2.1<(zAt zs (i+d+1)).1
 |0,h=>by
  have:=(((Tr.fmd_iff zs).1 hz (i+1) h).2.2 (by omega)).1
  exact this
 |d+1,h=>by
  have h1:=z_up i d (by omega)
  have h2:=z_ok hz (i:=i+d+1) (by omega)
  have h3:=(((Tr.fmd_iff zs).1 hz (i+d+1+1) h).2.2 (by omega)).1
  have h3:(zAt zs (i+d+1)).2.1<(zAt zs (i+d+1+1)).1:=h3
  rw[show i+(d+1)+1=i+d+1+1 from by omega]
  omega
theorem z_lt{i j:Nat}(hij:i<j)(hj:j<zs.length):(zAt zs i).2.1<(zAt zs j).1:=by
 have:=z_up hz i (j-i-1) (by omega)
 rwa [show i+(j-i-1)+1=j from by omega]at this
theorem at_of{i p:Nat}(hi:i<zs.length)(h:Tr.holds (zAt zs i) (p:Int)=true):Tr.at_ zs (p:Int)=some (vecAt zs i):=by
 have h0:=of_decide_eq_true h
 rcases Tr.at_ways zs (p:Int) with ⟨-,-,h1⟩|⟨k,h1,-,h2,h3,h4⟩
 ·have:=h1 i hi
  rw[show zs.getD i (0,0,[])=zAt zs i from rfl,h]at this
  cases this
 ·have h3':=of_decide_eq_true (show Tr.holds (zAt zs k) (p:Int)=true from h3)
  rcases Nat.lt_trichotomy k i with hk|hk|hk
  ·have:=z_lt hz hk hi
   omega
  ·subst hk
   exact h2
  ·have:=h4 i hk
   rw[show zs.getD i (0,0,[])=zAt zs i from rfl,h]at this
   cases this
end
theorem of_at{zs:List Zn}{p:Nat}{x:List (Int × Int)}(h:Tr.at_ zs (p:Int)=some x):∃i,i<zs.length∧Tr.holds (zAt zs i) (p:Int)=true∧vecAt zs i=x:=by
 rcases Tr.at_ways zs (p:Int) with ⟨-,h1,-⟩|⟨k,h1,-,h2,h3,-⟩
 ·rw[h]at h1;cases h1
 ·rw[h]at h2
  injection h2 with h2
  exact⟨k,h1,h3,h2.symm⟩
theorem in_alike(zs:List Zn)(i p o:Nat):Sp.inL (alikeTo zs i p) o=true↔∃j,j<p∧vecAt zs j=vecAt zs i∧Tr.holds (zAt zs j) (o:Int)=true:=by
 rw[Sp.inL_iff]
 unfold alikeTo
 constructor
 ·rintro ⟨s,h1,h2⟩
  obtain⟨j,h3,rfl⟩:=List.mem_map.1 h1
  obtain⟨h4,h5⟩:=List.mem_filter.1 h3
  exact⟨j,List.mem_range.1 h4,of_decide_eq_true h5,decide_eq_true h2⟩
 ·rintro ⟨j,h1,h2,h3⟩
  exact⟨_,List.mem_map.2 ⟨j,List.mem_filter.2 ⟨List.mem_range.2 h1,decide_eq_true h2⟩,rfl⟩,of_decide_eq_true h3⟩
theorem obj_like{v:Vw}(hz:Tr.fmd v.z=true){it:List (Int × Int)}{i o:Nat}(hi:i<v.z.length)(ho:Tr.holds (zAt v.z i) (o:Int)=true)(p:Nat):obj v.z it i p=Vw.like v it o p:=by
 have hr:Tr.rch v.z v.k (o:Int)=vecAt v.z i:=by unfold Tr.rch;rw[at_of hz hi ho];rfl
 unfold obj Vw.like
 rw[hr]
 cases Sp.inL it p with
 |false=>rfl
 |true=>
  rw[Bool.true_and,Bool.true_and]
  cases hb:Sp.inL (alikeTo v.z i v.z.length) p with
  |true=>
   obtain⟨j,h1,h2,h3⟩:=(in_alike v.z i v.z.length p).1 hb
   have h4:=at_of hz h1 h3
   unfold Vw.isB Tr.rch
   rw[h4]
   simp[h2]
  |false=>
   cases ha:Tr.at_ v.z (p:Int) with
   |none=>unfold Vw.isB;rw[ha];rfl
   |some x=>
    obtain⟨j,h1,h2,h3⟩:=of_at ha
    unfold Vw.isB Tr.rch
    rw[ha]
    by_cases hx:x=vecAt v.z i
    ·have:=(in_alike v.z i v.z.length p).2 ⟨j,h1,h3.trans hx,h2⟩
     rw[hb]at this
     cases this
    ·simp[hx]
theorem part_ext{v:Vw}(hh:Sf.fmd v.h=true)(reach:List (Int × Int)){f g:Nat→Bool}(h:∀o,o<256→f o=g o):Vw.part v reach f=Vw.part v reach g:=by
 have h1:Sp.ofL (fun o =>!f o)=Sp.ofL (fun o =>!g o):=Sp.ofL_ext (fun o ho=>by rw[h o ho])
 have h2:(v.h.filter fun x=>f x.2.2.1.toNat)=v.h.filter fun x=>g x.2.2.1.toNat:=List.filter_congr fun y hy=>by
  have:=(Sf.right_iff y).1 (((Sf.fmd_list v.h).1 hh).1 y hy)
  exact h _ (by omega)
 unfold Vw.part
 rw[h1,h2]
def fst(zs:List Zn)(it:List (Int × Int))(i:Nat):Nat:=((List.range 256).find? fun p=>Sp.inL it p&&Tr.holds (zAt zs i) (p:Int)).getD 0
theorem fst_spec{zs:List Zn}{it:List (Int × Int)}{i:Nat}(h:tch zs it i=true) :
  fst zs it i<256∧Sp.inL it (fst zs it i)=true∧Tr.holds (zAt zs i) (fst zs it i:Int)=true∧∀q,q<fst zs it i→Sp.inL it q=true→Tr.holds (zAt zs i) (q:Int)=false:=by
 obtain⟨o,ho,h1,h2⟩:=(Sp.touch_iff _ _).1 h
 have h3:Tr.holds (zAt zs i) (o:Int)=true:=by
  rw[Sp.inL_iff]at h2
  obtain⟨s,hs,h4⟩:=h2
  rw[List.mem_singleton]at hs
  subst hs
  exact decide_eq_true h4
 unfold fst
 cases hf:(List.range 256).find? (fun p=>Sp.inL it p&&Tr.holds (zAt zs i) (p:Int)) with
 |none=>
  rw[List.find?_eq_none]at hf
  have:=hf o (List.mem_range.2 ho)
  rw[h1,h3]at this
  exact absurd rfl this
 |some p=>
  obtain⟨a1,k,hk,a2,a3⟩:=List.find?_eq_some_iff_getElem.1 hf
  rw[List.getElem_range]at a2
  subst a2
  rw[Bool.and_eq_true]at a1
  rw[List.length_range]at hk
  refine⟨hk,a1.1,a1.2,fun q hq hi =>?_⟩
  have:=a3 q hq
  rw[List.getElem_range,hi,Bool.true_and]at this
  simpa using this
theorem sorted_ext:∀(l r:List Nat),l.Pairwise (· < ·)→r.Pairwise (· < ·)→(∀x,x∈l↔x∈r)→l=r
 | [],[],_,_,_=>rfl
 | [],b::r,_,_,h=>absurd ((h b).2 List.mem_cons_self) (by simp)
 |a::l,[],_,_,h=>absurd ((h a).1 List.mem_cons_self) (by simp)
 |a::l,b::r,hl,hr,h=>by
  have hl2:=List.pairwise_cons.1 hl
  have hr2:=List.pairwise_cons.1 hr
  have hab:a=b:=by
   rcases List.mem_cons.1 ((h a).1 List.mem_cons_self) with e|e
   ·exact e
   ·rcases List.mem_cons.1 ((h b).2 List.mem_cons_self) with e2|e2
    ·exact e2.symm
    ·have:=hl2.1 b e2
     have:=hr2.1 a e
     omega
  subst hab
  congr 1
  refine sorted_ext l r hl2.2 hr2.2 fun x=>⟨fun hx =>?_,fun hx =>?_⟩
  ·rcases List.mem_cons.1 ((h x).1 (List.mem_cons_of_mem _ hx)) with e|e
   ·have:=hl2.1 x hx
    omega
   ·exact e
  ·rcases List.mem_cons.1 ((h x).2 (List.mem_cons_of_mem _ hx)) with e|e
   ·have:=hr2.1 x hx
    omega
   ·exact e
theorem told_iff(zs:List Zn)(it:List (Int × Int))(k p:Nat):told1 zs it k p=true↔∃i,i<k∧tch zs it i=true∧vecAt zs i=vecAt zs p:=by
 unfold told1
 rw[List.any_eq_true]
 constructor
 ·rintro ⟨i,h1,h2⟩
  rw[Bool.and_eq_true]at h2
  exact⟨i,List.mem_range.1 h1,h2.1,of_decide_eq_true h2.2⟩
 ·rintro ⟨i,h1,h2,h3⟩
  exact⟨i,List.mem_range.2 h1,by rw[h2,decide_eq_true h3];rfl⟩
theorem em_iff(zs:List Zn)(it:List (Int × Int))(i:Nat):em zs it i=true↔tch zs it i=true∧∀j,j<i→tch zs it j=true→vecAt zs j≠vecAt zs i:=by
 unfold em
 rw[Bool.and_eq_true]
 refine and_congr_right fun _ =>?_
 cases ht:told1 zs it i i with
 |true=>
  obtain⟨j,h1,h2,h3⟩:=(told_iff zs it i i).1 ht
  exact⟨(fun h=>by cases h),fun h=>absurd h3 (h j h1 h2)⟩
 |false=>exact⟨(fun _ j h1 h2 h3=>by rw[(told_iff zs it i i).2 ⟨j,h1,h2,h3⟩]at ht;cases ht),fun _=>rfl⟩
theorem tch_of{zs:List Zn}{it:List (Int × Int)}{i o:Nat}(ho:o<256)(h1:Sp.inL it o=true)(h2:Tr.holds (zAt zs i) (o:Int)=true):tch zs it i=true:=
 (Sp.touch_iff _ _).2 ⟨o,ho,h1,(Sp.inL_iff _ _).2 ⟨_,List.mem_singleton.2 rfl,of_decide_eq_true h2⟩⟩
theorem fst_list{v:Vw}(hz:Tr.fmd v.z=true)(it:List (Int × Int)):(List.range 256).filter (Vw.first v it)=((List.range v.z.length).filter (em v.z it)).map (fst v.z it):=by
 refine sorted_ext _ _ (List.pairwise_lt_range.filter _) ?_ fun p =>?_
 ·rw[List.pairwise_map]
  refine(List.pairwise_lt_range.filter _).imp_of_mem fun {i j} hi hj hij =>?_
  obtain⟨i1,i2⟩:=List.mem_filter.1 hi
  obtain⟨j1,j2⟩:=List.mem_filter.1 hj
  obtain⟨-,-,a,-⟩:=fst_spec ((em_iff _ _ _).1 i2).1
  obtain⟨-,-,b,-⟩:=fst_spec ((em_iff _ _ _).1 j2).1
  have a:=of_decide_eq_true a
  have b:=of_decide_eq_true b
  have:=z_lt hz hij (List.mem_range.1 j1)
  omega
 ·rw[List.mem_filter,List.mem_range,Vw.first_iff,List.mem_map]
  constructor
  ·rintro ⟨hp,h1,h2,h3⟩
   obtain⟨x,hx⟩:∃x,Tr.at_ v.z (p:Int)=some x:=Option.isSome_iff_exists.1 h2
   obtain⟨i,hi,hh,hv⟩:=of_at hx
   have ht:=tch_of hp h1 hh
   have hl:=fun q=>obj_like hz (it:=it) hi hh q
   obtain⟨f1,f2,f3,f4⟩:=fst_spec ht
   have hfp:fst v.z it i=p:=by
    rcases Nat.lt_trichotomy (fst v.z it i) p with h|h|h
    ·have:=h3 _ h
     rw[←hl]at this
     have h5:obj v.z it i (fst v.z it i)=true:=by
      unfold obj
      rw[f2,(in_alike v.z i v.z.length _).2 ⟨i,hi,rfl,f3⟩]
      rfl
     rw[h5]at this
     cases this
    ·exact h
    ·have:=f4 p h h1
     rw[hh]at this
     cases this
   refine⟨i,List.mem_filter.2 ⟨List.mem_range.2 hi,(em_iff _ _ _).2 ⟨ht,fun j hj hjt hjv =>?_⟩⟩,hfp⟩
   obtain⟨g1,g2,g3,-⟩:=fst_spec hjt
   have hlt:=z_lt hz hj hi
   have q1:=of_decide_eq_true g3
   have q2:=of_decide_eq_true hh
   have:=h3 (fst v.z it j) (by omega)
   rw[←hl]at this
   have h5:obj v.z it i (fst v.z it j)=true:=by
    unfold obj
    rw[g2,(in_alike v.z i v.z.length _).2 ⟨j,by omega,hjv,g3⟩]
    rfl
   rw[h5]at this
   cases this
  ·rintro ⟨i,hi,rfl⟩
   obtain⟨i1,i2⟩:=List.mem_filter.1 hi
   have i1:=List.mem_range.1 i1
   obtain⟨ht,hn⟩:=(em_iff _ _ _).1 i2
   obtain⟨f1,f2,f3,f4⟩:=fst_spec ht
   refine⟨f1,f2,by unfold Vw.isB;rw[at_of hz i1 f3];rfl,fun q hq =>?_⟩
   rw[←obj_like hz (it:=it) i1 f3 q]
   cases ho:obj v.z it i q with
   |false=>rfl
   |true=>
    exfalso
    unfold obj at ho
    rw[Bool.and_eq_true]at ho
    obtain⟨j,j1,j2,j3⟩:=(in_alike v.z i v.z.length q).1 ho.2
    rcases Nat.lt_trichotomy j i with h|h|h
    ·exact hn j h (tch_of (by omega) ho.1 j3) j2
    ·subst h
     have:=f4 q hq ho.1
     rw[j3]at this
     cases this
    ·have h1:=z_lt hz h j1
     have q1:=of_decide_eq_true f3
     have q2:=of_decide_eq_true j3
     omega
theorem sum_zones{v:Vw}(hf:Vw.fmd v=true)(it:List (Int × Int)):(Vw.sumR v it)=(Vw.part v v.k (fun o=>Sp.inL it o && !Vw.isB v o)::outTo v it v.z.length,0):=by
 obtain⟨-,hz,hh,-⟩:=Vw.fmd_all hf
 unfold Vw.sumR
 rw[if_pos hf,fst_list hz it,List.map_map]
 unfold outTo
 congr 2
 refine List.map_congr_left fun i hi =>?_
 obtain⟨i1,i2⟩:=List.mem_filter.1 hi
 have i1:=List.mem_range.1 i1
 obtain⟨f1,f2,f3,-⟩:=fst_spec ((em_iff _ _ _).1 i2).1
 have hr:Tr.rch v.z v.k (fst v.z it i:Int)=vecAt v.z i:=by unfold Tr.rch;rw[at_of hz i1 f3];rfl
 show Vw.part v (Tr.rch v.z v.k (fst v.z it i:Int)) (Vw.like v it (fst v.z it i))=_
 rw[hr]
 exact part_ext hh _ fun o _=>(obj_like hz i1 f3 o).symm
end Vd
end Go.Proofs.YtjlfehpockfkdaaGreat
namespace Go.Proofs.YtjlfehpockfkdaaGreat
open Go.RowKit Go.Shelf Fb
attribute [local go_sem] Oper.semAt_some
set_option maxRecDepth 100000 in
set_option maxHeartbeats 3200000 in
theorem spless_any(A B:Option Addr)(c d:Nat)(l r:List (Int × Int))(w:World)(h1:OneL w A c l)(h2:OneL w B d r) :
  Calls Tryz.prog 92 #[.slice A l.length c,.slice B r.length d] w (GivesS (Sp.lessS l r) w):=by
 have n0:=fun t=>setOf_one h1 t
 have n1:=fun wx (hx:OneL wx B d r)=>spAll_any B d r wx hx
 have hsq:=fun n₀ B bc dc D wx hx h1 h2=>walkO_stops (Sp.inL r) n₀ B bc dc D wx hx h1 h2
 have hall:=Sp.hasF_all (Sp.inL r)
 unfold Sp.lessS
 obtain⟨J,hJ⟩:∃J,Sp.comesO Sp.objF (Sp.inL r) 256=J:=⟨_,rfl⟩
 obtain⟨L,hL⟩:∃L,Sp.ofL (Sp.inL r)=L:=⟨_,rfl⟩
 obtain⟨f,hf⟩:∃f,Sp.inL l=f:=⟨_,rfl⟩
 obtain⟨g,hg⟩:∃g,Sp.inL r=g:=⟨_,rfl⟩
 rw[hJ]at hsq hall
 rw[hL]at n1 hsq
 rw[hg]at hall ⊢
 rw[hf]at n0 ⊢
 have SQ:=Hd hsq
 have N0:=Hd n0
 have N1:=Hd n1
 have H2:=Hd h2
 have HALL:=Hd hall
 clear n0 n1 h1 h2 hJ hL hf hg hsq hall
 refine(callsIn_wide (n:=3)).1 ?_
 refine callsIn_of_wp_marks Tryz.func92 rfl trivial ?_ rfl
 simp only[Tryz.ntmps92,List.size_toArray,List.length_cons,List.length_nil,Nat.reduceAdd,Nat.reduceSub,Array.replicate_succ,Array.replicate_zero,List.push_toArray,List.append_toArray,List.nil_append,List.cons_append]
 gi_wp2_with fail
 refine⟨trivial,(callsIn_wide.2 (N0.out _)).mono ?_⟩
 rintro e w1 ⟨rfl,b1⟩
 have E5:=Blk.new w1 178 (Sp.arr fun _=>false)
 have F5:=E5.row (Sp.arr f)
 have b3:=below_setRow (below_new b1 (.cells (Sp.arr fun _=>false) 178)) b1.size (Sp.arr f)
 have z3:((w1.alloc (.cells (Sp.arr fun _=>false) 178)).setRow w1.heap.size (Sp.arr f)).heap.size=w1.heap.size+1:=by simp
 rw[←set_zero]at E5
 gi_wp2_with (refine in_store_row rfl 178 _ _ rfl w1.heap.size _ rfl rfl 178 _ E5 (by rw[Sp.arr_size];exact infoSet) (by rw[set_zero,Sp.arr_size,Sp.arr_size]) (one_marks _) ?_)
 rw[set_zero]
 obtain⟨W3,hW3⟩:∃W3,(w1.alloc (.cells (Sp.arr fun _=>false) 178)).setRow w1.heap.size (Sp.arr f)=W3:=⟨_,rfl⟩
 rw[hW3]at F5 b3 z3 ⊢
 have hz1:=b1.size
 clear hW3 E5 N0
 refine⟨trivial,(callsIn_wide.2 (N1.out _ (H2.out.later b3))).mono ?_⟩
 rintro e w4 ⟨bc,D,dc,rfl,hc,hfar,b4⟩
 have bb4:=below_on b3 b4
 have G5:=F5.later b4
 have z4:=b4.size
 clear F5 N1 H2
 gi_wp2_with fail
 refine wpIn_rangeFunc_ownF rfl (by omega) (gf:=172) (lb:=#[.pointer (some ⟨bc,0,none⟩)]) rfl trivial enters_eachO (SQ.out w.heap.size W3.heap.size bc dc D w4 b4.size hc hfar) KeepC.trans (fun W l' o o' _ h1 h2 _=>KeepC.mark W l' o o' h1 h2) (Below.refl _ _) (fun _=>rfl)
  (fun pre W=>Blk W w1.heap.size 178 (Sp.arr fun j=>f j && !Sp.hasF pre j)∧Below w.heap.size w W)
  (fun _ _ _=>False) ?hI (fun _ _ _ _ _ h _ _=>h) ⟨G5.marks_same (fun i _=>by show f i=(f i && !false);cases f i<;>rfl),bb4⟩
  (fun x=>{ tmps:=#[.slice A l.length c,.slice B r.length d,undef,undef,.slice none 0 0,.pointer (some ⟨w1.heap.size,0,none⟩),.int .i64 (x.val:Int),.slice A l.length c,.slice (some ⟨w.heap.size,0,none⟩) 1 1,.agg (Sp.arr f),.slice B r.length d,.func (.func 172) #[] #[.pointer (some ⟨bc,0,none⟩)],.int .i64 (x.val:Int),undef,undef,undef,undef],defers:=[] }) ?assign ?body ?done ?stop
 case hI=>exact OwnFrom.and (Own.from (blk_own _ _ fun pre=>Sp.arr fun j=>f j && !Sp.hasF pre j) _) (ownFrom_below (Nat.le_refl _) bb4.size)
 case assign=>
  intro l' x W K hK
  unfold tellO
  gi_wp2
  exact hK
 case body=>
  rintro l' pre x W ⟨hB5,hBw⟩ _
  have c2:=hB5.marks_cell x.val x.isLt
  have c3:=hB5.free x.val
  have hx0:(0:Int)≤(x.val:Int):=by omega
  have hx1:(x.val:Int)<256:=by have:=x.isLt;omega
  have hst:∀i,i<256→(if i=x.val then false else (f i && !Sp.hasF pre i))=(f i && !Sp.hasF (pre++[x]) i):=fun i _=>by
   rw[Sp.hasF_snoc]
   by_cases hi:i=x.val
   ·rw[if_pos hi,decide_eq_true hi.symm,Bool.or_true,Bool.not_true,Bool.and_false]
   ·rw[if_neg hi,decide_eq_false (fun h=>hi h.symm),Bool.or_false]
  have B5:=(hB5.marks_put x.val x.isLt false).marks_same hst
  have hbs:=hBw.setCell (p:=⟨w1.heap.size,x.val,none⟩) hz1 (.bool false)
  have HB5:=Hd B5
  clear hst hB5 B5
  gi_wp2
  exact⟨KeepsOthers.setCell _ _ _,KeepC.set _ _ _ hz1 (by show w1.heap.size<W3.heap.size;omega),HB5.out,hbs⟩
 case done=>
  rintro DD ys W hD hys ⟨hB5,hBw⟩ hK
  rw[hys]at hB5
  have hN2:=hB5.marks_same (f':=fun j=>f j && !g j) (fun i hi=>by rw[HALL.out i hi])
  have hDl:=(Array.getElem?_eq_some_iff.1 hK).1
  have HN:=Hd hN2
  clear hB5 hN2 G5
  gi_wp2_with (refine in_load_row rfl 178 _ rfl w1.heap.size rfl 178 _ _ HN.out Tryz.underlying178 rfl (by rw[Sp.arr_size];exact infoSet) ?_)
  refine⟨trivial,(callsIn_wide.2 (spans_any _ _)).mono ?_⟩
  rintro e w5 ⟨v,rfl,ho,b5⟩
  have hK5:=(b5.block DD hDl).trans hK
  have hb5:=below_on hBw b5
  have HO:=Hd ho
  clear ho HN
  gi_wp2
  refine⟨by simp,.inl ⟨_,_,rfl,run_takeDeferred hK5,?_⟩⟩
  exact⟨_,results_tmp rfl _ _ _,v,rfl,ownsRow_putObj (own_base HO.out hBw.size) _ hK5 rfl,hb5.trans (belowK_b (w:=w) (Nat.le_refl _) w5 DD _ _ (by have:=bb4.size;omega) hK5 rfl rfl)⟩
 case stop=>
  rintro DD c pre W _ _ h _
  exact h.elim
set_option maxHeartbeats 800000 in
theorem sptouch_any(A B:Option Addr)(c d:Nat)(l r:List (Int × Int))(w:World)(h1:OneL w A c l)(h2:OneL w B d r) :
  Calls Tryz.prog 93 #[.slice A l.length c,.slice B r.length d] w (Says (.bool (Sp.touch (Sp.inL l) (Sp.inL r))) w):=by
 have n1:=spmeet_any A B c d l r w h1 h2
 have ht:Sp.touch (Sp.inL l) (Sp.inL r)=decide (0<(Sp.meetS l r).length):=Sp.touch_ref _ _
 have hlen:(Sp.meetS l r).length≤128:=Sp.ofL_len _
 rw[ht]
 obtain⟨M,hM⟩:∃M,Sp.meetS l r=M:=⟨_,rfl⟩
 rw[hM]at n1 hlen ⊢
 have N1:=Hd n1
 clear n1 h1 h2 ht hM
 go_enter Tryz.func93,Tryz.ntmps93
 go_wp2_with fail
 refine N1.out.mono ?_
 rintro e w1 ⟨v,rfl,ho,b1⟩
 obtain⟨D,dc,rfl,_⟩:=own_far ho
 clear ho N1
 go_wp2
 go_ret
 exact⟨by simp,b1⟩
end Go.Proofs.YtjlfehpockfkdaaGreat
namespace Go.Proofs.YtjlfehpockfkdaaGreat
open Go.RowKit Go.Shelf Fb
attribute [local go_sem] Oper.semAt_some
structure Vd.Stay (p:Nat) (w1 X:World):Prop where
 size:w1.heap.size≤X.heap.size
 same:∀k,k<w1.heap.size→k≠p→X.heap[k]?=w1.heap[k]?
namespace Vd
variable {p:Nat} {w1 X Y:World}
theorem Stay.refl(p:Nat)(w1:World):Stay p w1 w1:=⟨Nat.le_refl _,fun _ _ _=>rfl⟩
theorem Stay.later(h:Stay p w1 X)(hb:Below X.heap.size X Y):Stay p w1 Y:=⟨Nat.le_trans h.size hb.size,fun k hk hp=>(hb.block k (Nat.lt_of_lt_of_le hk h.size)).trans (h.same k hk hp)⟩
theorem Stay.set(h:Stay p w1 X)(i:Nat)(v:Value):Stay p w1 (X.setCell ⟨p,i,none⟩ v):=⟨Nat.le_trans h.size (KeepsOthers.setCell X _ v).size,fun k hk hp=>(Below.heap_setCell X ⟨p,i,none⟩ v k hp).trans (h.same k hk hp)⟩
theorem Stay.grown(h:Stay p w1 X){row:Option Nat}(hg:X.grownBy Y row)(hr:∀r,row=some r→w1.heap.size≤r):Stay p w1 Y:=⟨Nat.le_trans h.size hg.size,fun k hk hp=>(hg.block k (Nat.lt_of_lt_of_le hk h.size) (fun e=>by have:=hr k e.symm;omega)).trans (h.same k hk hp)⟩
theorem Stay.own{β:Type}{B:Nat}(hB:w1.heap.size≤B):OwnFrom B (fun (_:β) X=>Stay p w1 X):=fun _ _ _ _ h hg hr=>h.grown hg (fun r e=>Nat.le_trans hB (hr r e).1)
theorem Stay.blk(h:Stay p w1 X){k:Nat}{t:TypeId}{cs:Array Value}(hB:Blk w1 k t cs)(hk:k≠p):Blk X k t cs:=(h.same k hB.lt hk).trans hB
theorem Stay.cell(h:Stay p w1 X){a:Addr}{v:Value}(hc:w1.cell? a=some v)(ha:a.block≠p):X.cell? a=some v:=by
 obtain⟨o,ho,-⟩:=cells_of_cell hc
 exact(World.cell?_of_block (h.same _ (Array.getElem?_eq_some_iff.1 ho).1 ha)).trans hc
theorem Stay.oneW(h:Stay p w1 X){A:Option Addr}{c:Nat}{l:List Wr}(hl:OneW w1 A c l)(hA:∀b off,l≠[]→A=some ⟨b,off,none⟩→b≠p):OneW X A c l:=
 ⟨hl.1,hl.2.1,hl.2.2.1,fun hne=>by
  obtain⟨b,off,e,hc⟩:=hl.2.2.2 hne
  exact⟨b,off,e,fun j u hu=>h.cell (hc j u hu) (hA b off (fun e=>hne (Nt.wrCells_nil.2 e)) e)⟩⟩
end Vd
theorem OneL.kept{w w':World}{A:Option Addr}{c:Nat}{l:List (Int × Int)}(h:OneL w A c l){D:Nat}{o:Obj}{o':Obj}(hD:w.heap[D]?=some o)(ho:o.isCells=false)(hw:w'=w.putObj D o'):OneL w' A c l:=
 ⟨h.1,h.2.1,h.2.2.1,fun hne=>by
  obtain⟨b,off,e,hc⟩:=h.2.2.2 hne
  exact⟨b,off,e,fun j u hu=>by rw[hw];exact cell_kept (hc j u hu) (grownBy_putObj' w D o') (fun r e=>by cases e;exact⟨o,hD,ho⟩)⟩⟩
set_option maxRecDepth 100000 in
set_option maxHeartbeats 3200000 in
theorem sdall_list(A:Option Addr)(c:Nat)(l:List Wr)(w0 w:World)(h:OneW w0 A c l)(hb:Below w0.heap.size w0 w)(hf:Sf.fmd l=true)(xs:List Sf.RW)(hxs:xs.map Subtype.val=l) :
  Calls Tryz.prog 110 #[.slice A l.length c] w fun e w1=>∃gf lb VA vc,e = .returned (.func (.func gf) #[] lb)∧Below w.heap.size w w1∧(∀args w,(callFunc gf args).run Tryz.prog w = .ok (.enter gf args) w) ∧
   OneW w1 VA vc l∧(∀b off,l≠[]→VA=some ⟨b,off,none⟩→w.heap.size≤b)∧SeqStopsK Fence.wide 2 Tryz.prog gf lb (fun x:Sf.RW=>toldW x.val) (KeepL VA vc l) (· = xs) (· <+: xs) l.length w1:=by
 have N1:=Hd (sdformed_any A c l w (h.later hb))
 have HL:=Hd h
 have HB:=Hd hb
 have fin:∀(A':Option Addr) (c' bl:Nat) (w1:World),OneW w1 A' c' l→w1.cell? ⟨bl,0,none⟩=some (.slice A' l.length c')→SeqStopsK Fence.wide 2 Tryz.prog 171 #[.pointer (some ⟨bl,0,none⟩)] (fun x:Sf.RW=>toldW x.val) (KeepL A' c' l) (· = xs) (· <+: xs) l.length w1:=
  fun A' c' bl w1 h1 h3=>eachW_stops Subtype.val xs l hxs 2 (by omega) bl c' A' w1 h1 h3
 have FIN:=Hd fin
 clear h hb fin hxs
 rw[hf]at N1
 have hl:=Sf.fmd_len hf
 clear hf
 go_enter Tryz.func110,Tryz.ntmps110
 go_wp2_with fail
 refine N1.out.mono ?_
 rintro e w1 ⟨rfl,b1⟩
 have NC:=Hd (cloneW_any A c l w1 (by omega) (HL.out.later (below_on HB.out b1)))
 have B1:=Hd b1
 clear N1 b1
 go_wp2_with fail
 refine NC.out.mono ?_
 rintro e w2 ⟨v,rfl,ho,b2⟩
 have hfar:∀b off c',l≠[]→v = .slice (some ⟨b,off,none⟩) l.length c'→w.heap.size≤b:=fun b off c' hne e=>by
  obtain⟨g,cap,hv⟩:=own_len ho (List.length_pos_iff.2 hne)
  rw[hv]at e
  injection e with e
  injection e with e
  injection e with e
  have:=own_ge ho g (by rw[hv];rfl)
  have:=B1.out.size
  omega
 obtain⟨VA,vc,rfl,hO⟩:=OneW.of_own ho
 have HO:=Hd hO
 have HF:=Hd hfar
 have B2:=Hd (below_on B1.out b2)
 have NE:=Hd (each_any VA vc l w2)
 clear NC ho hO hfar b2 B1
 go_wp2_with fail
 refine NE.out.mono ?_
 rintro e w3 ⟨bl,rfl,hbl,b3⟩
 have BB:=Hd (below_on B2.out b3)
 have HC:=Hd hbl
 have H3:=Hd (HO.out.later b3)
 clear NE b3 hbl HO B2
 go_wp2
 go_ret
 exact⟨_,_,VA,vc,rfl,BB.out,enters_eachW,H3.out,(fun b off hne e=>HF.out b off vc hne (by rw[e])),FIN.out VA vc bl w3 H3.out HC.out⟩
theorem vdalone_any(lo hi:Int)(w:World) :
  Calls Tryz.prog 94 #[.agg #[.int .i64 lo,.int .i64 hi]] w fun e w'=>∃g,e = .returned (.slice (some ⟨g,0,none⟩) 1 1)∧OneL w' (some ⟨g,0,none⟩) 1 [(lo,hi)]∧Below w.heap.size w w':=by
 have hB:=Blk.new (w.alloc (.cells #[.int .i64 lo,.int .i64 hi] 97)) 97 #[.int .i64 lo,.int .i64 hi]
 have h1:OneL ((w.alloc (.cells #[.int .i64 lo,.int .i64 hi] 97)).alloc (.cells #[.int .i64 lo,.int .i64 hi] 97)) (some ⟨w.heap.size+1,0,none⟩) 1 [(lo,hi)]:=⟨Nat.le_refl _,by unfold maxLen;simp,fun e=>(by cases e),fun _=>⟨w.heap.size+1,0,rfl,fun j u hu=>by
  rw[Nat.zero_add]
  rw[World.size_alloc]at hB
  exact hB.cell (by simpa[stCells] using hu)⟩⟩
 have H1:=Hd h1
 clear hB h1
 go_enter Tryz.func94,Tryz.ntmps94
 go_wp2
 go_ret
 exact⟨_,rfl,H1.out,below_new (below_new (Below.refl _ _) _) _⟩
theorem Vd.in_ofL(f:Nat→Bool){o:Nat}(ho:o<256):inOf (Sp.ofL f) (o:Int)=f o:=by
 unfold inOf
 rw[decide_eq_true (by omega),Bool.true_and,Int.toNat_natCast,Sp.inL_ofL f o ho]
def Vd.told(f:Nat→Bool)(l:List Wr):List Wr:=l.filter fun x=>f x.2.2.1.toNat
theorem Vd.told_snoc(f:Nat→Bool)(l:List Wr)(x:Wr):Vd.told f (l++[x])=Vd.told f l++(if f x.2.2.1.toNat=true then [x] else []):=by
 unfold Vd.told
 rw[List.filter_append,List.filter_cons]
 rfl
set_option maxRecDepth 100000 in
set_option maxHeartbeats 6400000 in
theorem vdtelling_any(q:Vl)(E U:Option Addr)(ce cu:Nat)(reach:List (Int × Int))(f:Nat→Bool)(w:World)(h:VwAt w q)(hf:Sf.fmd q.h=true)(he:OneL w E ce reach)(hr:reach.length≤64)(hu:OneL w U cu (Sp.ofL f)) :
  Calls Tryz.prog 91 #[.agg (vwCells q),.slice E reach.length ce,.slice U (Sp.ofL f).length cu] w (AnsN (Vw.part q.vw reach f) w):=by
 obtain⟨i0,hI,hZ0,hZ1,hZ2⟩:=info_parts infoWr
 obtain⟨xs,hxs⟩:=Sf.rights q.h ((Sf.fmd_list q.h).1 hf).1
 have hlen:=Sf.fmd_len hf
 have hP:Vw.part q.vw reach f=⟨[],reach,Sp.ofL (fun o =>!f o),Vd.told f q.h⟩:=rfl
 rw[hP]
 clear hP
 obtain⟨TW,hTW⟩:∃TW,Vd.told f q.h=TW:=⟨_,rfl⟩
 obtain⟨BL,hBL⟩:∃BL,Sp.ofL (fun o =>!f o)=BL:=⟨_,rfl⟩
 rw[hTW,hBL]
 obtain⟨K,ck,kn,Z,cz,zs,H,ch,hs,B,cb,bs,room⟩:=q
 unfold vwCells
 dsimp only at hxs hlen hf hTW ⊢
 have HTW:=Hd hTW
 have HBL:=Hd hBL
 clear hTW hBL
 have b0:=below_new (below_new (below_new (below_new (Below.refl w.heap.size w) (.cells #[.slice K kn.length ck,.slice Z zs.length cz,.slice H hs.length ch,.slice B bs.length cb,.int .i64 room] 27)) (.cells #[.slice U (Sp.ofL f).length cu] 28)) (.cells #[.slice none 0 0,.slice none 0 0,.slice none 0 0,.slice none 0 0] 40)) (.cells #[.slice none 0 0] 24)
 have V0:=(((Blk.new w 27 #[.slice K kn.length ck,.slice Z zs.length cz,.slice H hs.length ch,.slice B bs.length cb,.int .i64 room]).alloc (.cells #[.slice U (Sp.ofL f).length cu] 28)).alloc (.cells #[.slice none 0 0,.slice none 0 0,.slice none 0 0,.slice none 0 0] 40)).alloc (.cells #[.slice none 0 0] 24)
 have U0:=((Blk.new (w.alloc (.cells #[.slice K kn.length ck,.slice Z zs.length cz,.slice H hs.length ch,.slice B bs.length cb,.int .i64 room] 27)) 28 #[.slice U (Sp.ofL f).length cu]).alloc (.cells #[.slice none 0 0,.slice none 0 0,.slice none 0 0,.slice none 0 0] 40)).alloc (.cells #[.slice none 0 0] 24)
 have N0:=(Blk.new ((w.alloc (.cells #[.slice K kn.length ck,.slice Z zs.length cz,.slice H hs.length ch,.slice B bs.length cb,.int .i64 room] 27)).alloc (.cells #[.slice U (Sp.ofL f).length cu] 28)) 40 #[.slice none 0 0,.slice none 0 0,.slice none 0 0,.slice none 0 0]).alloc (.cells #[.slice none 0 0] 24)
 have R0:=Blk.new (((w.alloc (.cells #[.slice K kn.length ck,.slice Z zs.length cz,.slice H hs.length ch,.slice B bs.length cb,.int .i64 room] 27)).alloc (.cells #[.slice U (Sp.ofL f).length cu] 28)).alloc (.cells #[.slice none 0 0,.slice none 0 0,.slice none 0 0,.slice none 0 0] 40)) 24 #[.slice none 0 0]
 simp only[World.size_alloc]at U0 N0 R0
 obtain⟨W,hW⟩:∃W,(((w.alloc (.cells #[.slice K kn.length ck,.slice Z zs.length cz,.slice H hs.length ch,.slice B bs.length cb,.int .i64 room] 27)).alloc (.cells #[.slice U (Sp.ofL f).length cu] 28)).alloc (.cells #[.slice none 0 0,.slice none 0 0,.slice none 0 0,.slice none 0 0] 40)).alloc (.cells #[.slice none 0 0] 24)=W:=⟨_,rfl⟩
 have hWz:w.heap.size+4=W.heap.size:=by rw[←hW];simp
 rw[hW]at b0 V0 U0 N0 R0
 have NA:=Hd (sdall_list H ch hs w W h.h b0 hf xs hxs)
 have NC:=Hd (fun wx (hb:Below w.heap.size w wx)=>cloneS_any E ce reach wx (by omega) (he.later hb))
 have HU:=Hd hu
 have HW:=Hd hW
 have HXS:=Hd hxs
 have v2:W.cell? ⟨w.heap.size,2,none⟩=some (.slice H hs.length ch):=V0.cell (i:=2) rfl
 obtain⟨g,hg⟩:∃g,w.heap.size=g:=⟨_,rfl⟩
 clear hW h hf hxs he hu
 refine(callsIn_wide (n:=3)).1 ?_
 refine callsIn_of_wp_marks Tryz.func91 rfl trivial ?_ rfl
 simp only[Tryz.ntmps91,List.size_toArray,List.length_cons,List.length_nil,Nat.reduceAdd,Nat.reduceSub,Array.replicate_succ,Array.replicate_zero,List.push_toArray,List.append_toArray,List.nil_append,List.cons_append]
 have v2':((((w.alloc (.cells #[.slice K kn.length ck,.slice Z zs.length cz,.slice H hs.length ch,.slice B bs.length cb,.int .i64 room] 27)).alloc (.cells #[.slice U (Sp.ofL f).length cu] 28)).alloc (.cells #[.slice none 0 0,.slice none 0 0,.slice none 0 0,.slice none 0 0] 40)).alloc (.cells #[.slice none 0 0] 24)).cell? ⟨w.heap.size,2,none⟩=some (.slice H hs.length ch):=by rw[HW.out];exact v2
 gi_wp2_with fail
 rw[HW.out]
 refine⟨trivial,(callsIn_wide.2 NA.out).mono ?_⟩
 rintro e w1 ⟨gf,lb,CA,cc,rfl,b1,hent,hCO,hfar,hseq⟩
 have V1:=V0.later b1
 have U1:=U0.later b1
 have N1:=N0.later b1
 have R1:=R0.later b1
 have bb1:=below_on b0 b1
 have hz1:=b1.size
 have hz0:=bb1.size
 rw[hg]at V1 U1 N1 R1 hWz
 have HV1:=Hd V1
 have HU1:=Hd (show Blk w1 (g+1) 28 #[.slice U (Sp.ofL f).length cu] from U1)
 have HN1:=Hd (show Blk w1 (g+2) 40 #[.slice none 0 0,.slice none 0 0,.slice none 0 0,.slice none 0 0] from N1)
 have R1:Blk w1 (g+3) 24 #[.slice none 0 0]:=R1
 have HCO:=Hd hCO
 have hcp:∀b off,hs≠[]→CA=some ⟨b,off,none⟩→b≠g+3:=fun b off hne e=>by have:=hfar b off hne e;omega
 have HCP:=Hd hcp
 have HBB1:=Hd bb1
 clear V0 U0 N0 R0 b0 b1 HW NA V1 U1 N1 v2 v2' hfar hcp hCO
 gi_wp2_with fail
 try simp only[Nat.add_assoc,Nat.reduceAdd]
 refine wpIn_rangeFunc_ownH rfl (by omega) (gf:=gf) (lb:=lb) rfl trivial hent hseq KeepL.trans (fun W l' o o' _ h1 h2 _=>KeepL.put W l' o o' h1 h2) (Below.refl _ _) (fun _=>rfl)
  (fun pre X=>((∃v,Boxed X (g+3) 24 v∧X.ownsRow w1.heap.size 52 4 v (Vd.told f (pre.map Subtype.val)).length (Nt.wrCells (Vd.told f (pre.map Subtype.val)))∧True)∧Vd.Stay (g+3) w1 X)∧Below w.heap.size w X)
  (fun _ _ _=>False)
  ?hI (fun _ _ _ _ _ h _ _=>h) ⟨⟨⟨.slice none 0 0,R1,⟨rfl,.inl ⟨rfl,rfl⟩⟩,trivial⟩,Vd.Stay.refl _ _⟩,bb1⟩
  (fun x a' X=>∃Bx,w1.heap.size≤Bx∧Blk X Bx 52 (Nt.wrArr x.val)∧a'={ tmps:=#[.agg #[.slice K kn.length ck,.slice Z zs.length cz,.slice H hs.length ch,.slice B bs.length cb,.int .i64 room],.slice E reach.length ce,.slice U (Sp.ofL f).length cu,.pointer (some ⟨g,0,none⟩),undef,.pointer (some ⟨g+1,0,none⟩),.pointer (some ⟨g+2,0,none⟩),.pointer (some ⟨g+3,0,none⟩),.int .i64 x.val.2.2.1,.pointer (some ⟨Bx,0,none⟩),undef,.pointer (some ⟨g,2,none⟩),.slice H hs.length ch,.func (.func gf) #[] lb,.int .i64 x.val.2.2.1,Nt.wrV x.val,undef,undef,undef,undef,undef,undef,undef,undef,undef,undef,undef,undef,undef,undef,undef,undef],defers:=[] })
  ?hAx ?assign ?body ?done (fun _ _ _ _ _ _ h _=>h.elim)
 case hI=>exact OwnFrom.and (OwnFrom.and (Own.from (holdsRow_own w1.heap.size (g+3) 24 52 4 (fun (pre:List Sf.RW)=>(Vd.told f (pre.map Subtype.val)).length) (fun pre=>Nt.wrCells (Vd.told f (pre.map Subtype.val))) (fun _ _=>True)) _) (Vd.Stay.own (Nat.le_refl _))) (ownFrom_below (Nat.le_refl _) (by omega))
 case hAx=>exact fun x a' _ X Y row ⟨Bx,h0,h1,h2⟩ hg hr=>⟨Bx,h0,blk_own _ _ (fun (_:Unit)=>Nt.wrArr x.val) () X Y row h1 hg (fun r e=>(hr r e).2),h2⟩
 case assign=>
  rintro l' pre ⟨x,hx⟩ X K ⟨⟨⟨v,i0,i1,-⟩,i2⟩,i3⟩ hK
  obtain⟨x0,x1,x2,x3⟩:=x
  unfold toldW Nt.wrV
  unfold Nt.wrV Nt.wrArr at hK
  dsimp only at hK ⊢
  have bN:=below_new (Below.refl X.heap.size X) (.cells #[.int .i64 x0,.int .i64 x1,.int .i64 x2,.bool x3] 52)
  have HK:=Hd hK
  have F0:=Hd (Blk.later i0 bN)
  have F1:=Hd (own_later i1 bN)
  have F2:=Hd (i2.later bN)
  have F3:=Hd (below_on i3 bN)
  have F4:=Hd (Blk.new X 52 #[.int .i64 x0,.int .i64 x1,.int .i64 x2,.bool x3])
  have F5:=Hd bN
  have F6:=Hd i2.size
  clear hK i0 i1 i2 i3 bN hseq R1
  gi_wp2
  exact HK.out _ _ (keepsF_below F5.out) (fun h=>h.later F5.out) ⟨⟨⟨_,F0.out,F1.out,trivial⟩,F2.out⟩,F3.out⟩ ⟨_,F6.out,F4.out,rfl⟩
 case body=>
  rintro l' pre ⟨x,hx⟩ a' X hl _ ⟨⟨⟨v8,hv,hrow,-⟩,i2⟩,i3⟩ ⟨Bx,hBx,hX,rfl⟩ hlt
  have hsn:Vd.told f ((pre++[(⟨x,hx⟩:Sf.RW)]).map Subtype.val)=Vd.told f (pre.map Subtype.val)++(if f x.2.2.1.toNat=true then [x] else []):=by rw[List.map_append];exact Vd.told_snoc f _ x
  have hfl:(Vd.told f (pre.map Subtype.val)).length≤256:=Nat.le_trans (List.length_filter_le _ _) (by rw[List.length_map];omega)
  have hob:=(Sf.right_iff x).1 hx
  obtain⟨M,hM⟩:∃M,Vd.told f (pre.map Subtype.val)=M:=⟨_,rfl⟩
  rw[hM]at hsn hrow hfl
  obtain⟨VA,vc,hvv,-,-,-,-⟩:=own_form hrow
  subst hvv
  obtain⟨x0,x1,x2,x3⟩:=x
  dsimp only at hX hob hsn ⊢
  unfold Nt.wrV
  unfold Nt.wrArr at hX
  dsimp only at hX ⊢
  obtain⟨o,rfl⟩:∃o:Nat,x2=(o:Int):=⟨x2.toNat,by omega⟩
  rw[Int.toNat_natCast]at hsn
  have ho:o<256:=by omega
  have u0:=(i2.blk HU1.out (by omega)).cell (i:=0) rfl
  have n1:=sphas_any U cu (Sp.ofL f) (o:Int) X (HU.out.later i3)
  rw[Vd.in_ofL f ho]at n1
  have N1:=Hd n1
  have HX:=Hd hX
  have HV:=Hd hv
  have HROW:=Hd hrow
  have I2:=Hd i2
  have I3:=Hd i3
  have hz3:=i3.size
  have hz2:=i2.size
  have hgp:g+3<w1.heap.size:=R1.lt
  cases hq:f o with
  |false=>
   rw[hq,if_neg Bool.false_ne_true,List.append_nil]at hsn
   rw[hq]at N1
   have HSN:=Hd hsn
   clear hX hv hrow i2 i3 hsn hq hseq R1 hl hM hfl hob n1
   gi_wp2_with fail
   refine⟨trivial,(CallsIn.inRound l' (callsIn_wide.2 N1.out)).mono ?_⟩
   rintro e w2 ⟨rfl,b2⟩
   have FIN:=Hd (show KeepsFrom w1.heap.size X w2∧KeepL CA cc hs X w2∧((∃v,Boxed w2 (g+3) 24 v∧w2.ownsRow w1.heap.size 52 4 v (Vd.told f ((pre++[(⟨(x0,x1,(o:Int),x3),hx⟩:Sf.RW)]).map Subtype.val)).length (Nt.wrCells (Vd.told f ((pre++[(⟨(x0,x1,(o:Int),x3),hx⟩:Sf.RW)]).map Subtype.val)))∧True)∧Vd.Stay (g+3) w1 w2)∧Below w.heap.size w w2 from
    ⟨keepsF_below b2,fun h=>h.later b2,⟨⟨_,Blk.later HV.out b2,by rw[HSN.out];exact own_later HROW.out b2,trivial⟩,I2.out.later b2⟩,below_on I3.out b2⟩)
   clear b2 HV HROW HX
   gi_wp2
   exact FIN.out
  |true=>
   rw[hq,if_pos rfl]at hsn
   rw[hq]at N1
   have HSN:=Hd hsn
   clear hX hv hrow i2 i3 hsn hq hseq hl hM hob n1 R1
   gi_wp2_with fail
   refine⟨trivial,(CallsIn.inRound l' (callsIn_wide.2 N1.out)).mono ?_⟩
   rintro e w2 ⟨rfl,b2⟩
   have X2:=HX.out.later b2
   have hv6:Boxed w2 (g+3) 24 (.slice VA M.length vc):=Blk.later HV.out b2
   have hc6:=hv6.cell
   have hrow6:=own_later HROW.out b2
   have hrowL:=own_base hrow6 (show w.heap.size≤w1.heap.size by omega)
   have hlt6:=hv6.lt
   have hbw6:=below_on I3.out b2
   have hst6:=I2.out.later b2
   have hsz6:=hst6.size
   have hszL:=hbw6.size
   have k0:=X2.cell (i:=0) rfl
   have k1:=X2.cell (i:=1) rfl
   have k2:=X2.cell (i:=2) rfl
   have k3:=X2.cell (i:=3) rfl
   have HBW6:=Hd hbw6
   have HST6:=Hd hst6
   have B2:=Hd b2
   clear b2 hbw6 hst6 X2 N1 u0
   gi_wp2_with (gi_at_builtin;refine Go.Proofs.YtjlfehpockfkdaaGreat.wpListIn_append_lies _ rfl _ _ 24 rfl w1.heap.size 52 i0 (.agg #[.int .i64 0,.int .i64 0,.int .i64 0,.bool false]) 4 32 Tryz.underlying24 hI hZ0 hZ1 hZ2 rfl (by decide) _ M.length (Nt.wrCells M) rfl (hrow6.alloc _) (some ⟨w2.heap.size,0,none⟩) 1 1 (fun h=>by cases h) (Nt.wrCells [(x0,x1,(o:Int),x3)]) rfl rfl ?c1 (Nt.wrCells_one _) ?c3 ?c4 ?c5 ?_)
   case c1=>
    intro _
    refine⟨w2.heap.size,0,rfl,fun j u hu =>?_⟩
    rw[Nat.zero_add]
    exact(Blk.new w2 52 #[.int .i64 x0,.int .i64 x1,.int .i64 (o:Int),.bool x3]).cell (by simpa[Nt.wrCells,Nt.wrCell] using hu)
   case c3=>unfold maxLen;omega
   case c4=>omega
   case c5=>simp;omega
   intro v' w7 hown1 hg1 hm1
   obtain⟨g',cap',rfl⟩:=ownsRow_succ hown1
   obtain⟨hv1,hv2,-,hk2,hb2⟩:=hv6.appended (by decide) hrowL hszL (by omega) (own_base hown1 (show w.heap.size≤w1.heap.size by omega)) hg1
   have hr2:=hown1.kept (grownBy_setCell' w7 (g+3) (.slice (some ⟨g',0,none⟩) (M.length+1) cap')) (.inr (hv1.not_row (by decide) hown1).symm)
   have hst7:=((HST6.out.later (below_new (Below.refl w2.heap.size w2) (.cells #[.int .i64 x0,.int .i64 x1,.int .i64 (o:Int),.bool x3] 52))).grown hg1 (fun r e=>own_ge hrow6 r e)).set 0 (.slice (some ⟨g',0,none⟩) (M.length+1) cap')
   have hc1:=hv1.cell
   have hf1:=hv1.frozen
   have HV2:=Hd hv2
   have HR2:=Hd hr2
   have HST7:=Hd hst7
   have KF:=Hd (KeepsFrom.trans (keepsF_below (n0:=w1.heap.size) B2.out) (hk2.from _))
   have FB:=Hd (HBW6.out.trans hb2)
   clear hv2 hr2 hown1 hg1 hrow6 hrowL hv6 hv1 hk2 hb2 hc6 hst7
   gi_wp2
   exact⟨KF.out,fun _=>HST7.out.oneW HCO.out HCP.out,⟨⟨_,HV2.out,by rw[HSN.out,Nt.wrCells_append,List.length_append];exact HR2.out,trivial⟩,HST7.out⟩,FB.out⟩
 case done=>
  rintro DD ys X hDD hys ⟨⟨⟨v,hv,hrow,-⟩,i2⟩,i3⟩ hK
  subst hys
  rw[HXS.out,HTW.out]at hrow
  obtain⟨VA,vc,hvv,-,-,-,-⟩:=own_form hrow
  subst hvv
  have HROW:=Hd hrow
  have HRB:=Hd (show Blk X (g+3) 24 #[.slice VA TW.length vc] from hv)
  have HNB:=Hd (i2.blk HN1.out (by omega))
  have HUB:=Hd (i2.blk HU1.out (by omega))
  have I3:=Hd i3
  have HK:=Hd hK
  have hDl:=(Array.getElem?_eq_some_iff.1 hK).1
  have hgd:DD≠g+2:=fun e=>by
   have h1:X.heap[g+2]?=_:=HNB.out
   rw[←e,hK]at h1
   cases h1
  have HGD:=Hd hgd
  clear hv hrow i2 i3 hK hseq R1 hgd
  gi_wp2_with fail
  refine⟨trivial,(callsIn_wide.2 (vdalone_any 0 255 X)).mono ?_⟩
  rintro e w2 ⟨ga,rfl,hga,b2⟩
  have HB3:=Hd (below_on I3.out b2)
  have NL:=Hd (fun wx (hb:Below w2.heap.size w2 wx)=>(spless_any (some ⟨ga,0,none⟩) U 1 cu [(0,255)] (Sp.ofL f) wx (hga.later hb) ((HU.out.later (below_on I3.out b2)).later hb)).mono fun _ _ hg=>hg.one)
  rw[rest_is f,HBL.out]at NL
  have HNC:=Hd (HNB.out.later b2)
  have HUC:=Hd (HUB.out.later b2)
  have HRC:=Hd (HRB.out.later b2)
  have HRW:=Hd (own_later HROW.out b2)
  have HK2:=Hd ((b2.block DD hDl).trans HK.out)
  have hDl2:=(Array.getElem?_eq_some_iff.1 HK2.out).1
  have u0:=HUC.out.cell (i:=0) rfl
  have r0:=HRC.out.cell (i:=0) rfl
  clear b2 hga HNB HUB HRB HROW HK hDl
  gi_wp2_with fail
  refine wpIn_wide.2 ?_
  refine wp_region_facts 7 (by kernel_rfl) (by kernel_rfl)
   (fun v=>{ tmps:=#[.agg #[.slice K kn.length ck,.slice Z zs.length cz,.slice H hs.length ch,.slice B bs.length cb,.int .i64 room],.slice E reach.length ce,.slice U (Sp.ofL f).length cu,.pointer (some ⟨g,0,none⟩),undef,.pointer (some ⟨g+1,0,none⟩),.pointer (some ⟨g+2,0,none⟩),.pointer (some ⟨g+3,0,none⟩),undef,undef,.slice (some ⟨ga,0,none⟩) 1 1,.pointer (some ⟨g,2,none⟩),.slice H hs.length ch,.func (Fn.func gf) #[] lb,undef,undef,undef,undef,undef,undef,undef,undef,undef,.agg #[.int .i64 0,.int .i64 255],.slice (some ⟨ga,0,none⟩) 1 1,v 0,v 1,v 2,v 3,v 4,v 5,v 6],defers:=[{ target :=.collected DD,args:=#[] }] }) (fun _=>undef)
   (fun i x wx=>match i with
    |0=>x = .slice E reach.length ce
    |1=>∃A9 c9,x = .slice A9 reach.length c9∧OneL wx A9 c9 reach
    |2=>x = .slice (some ⟨ga,0,none⟩) 1 1
    |3=>x = .slice U (Sp.ofL f).length cu
    |4=>∃A9 c9,x = .slice A9 BL.length c9∧OneL wx A9 c9 BL
    |5=>x = .slice VA TW.length vc
    |6=>∃Aa ca Ab cb',x = .agg #[.slice none 0 0,.slice Aa reach.length ca,.slice Ab BL.length cb',.slice VA TW.length vc]∧OneL wx Aa ca reach∧OneL wx Ab cb' BL
    |_=>True)
   (fun w1 w2=>Below w1.heap.size w1 w2) (fun h1 h2=>below_on h1 h2) (fun _=>Below.refl _ _) (Below.drew (Below.refl _ _)) ?stabR ?stepR ?doneR
  case stabR=>
   rintro i x w1 w2 h hb
   match i,h with
   |0,h=>exact h
   |1,h=>obtain⟨A9,c9,e9,h9⟩:=h;exact⟨A9,c9,e9,h9.later hb⟩
   |2,h=>exact h
   |3,h=>exact h
   |4,h=>obtain⟨A9,c9,e9,h9⟩:=h;exact⟨A9,c9,e9,h9.later hb⟩
   |5,h=>exact h
   |6,h=>obtain⟨Aa,ca,Ab,cb',ex,k1,k2⟩:=h;exact⟨Aa,ca,Ab,cb',ex,k1.later hb,k2.later hb⟩
   |i+7,_=>trivial
  case stepR=>
   intro i hi v w' hb hd
   match i,hi with
   |0,_=>
    refine wpOp_oneH rfl fun KK HKK =>?_
    clear hd
    go_wp2
    exact HKK.out _ _ ⟨_,(by simp[upd];done),Below.refl _ _,rfl⟩
   |1,_=>
    have h0:v 0=_:=hdx hd 0 (by kernel_rfl)
    refine wpOp_oneH rfl fun KK HKK =>?_
    clear hd
    rw[h0]
    go_wp2_with fail
    refine(NC.out _ (below_on HB3.out hb)).mono ?_
    rintro e w'' ⟨u,rfl,ho,b⟩
    obtain⟨A9,c9,rfl,hB⟩:=OneL.of_own ho
    go_wp2
    exact HKK.out _ _ ⟨_,(by simp[upd,h0];done),b,A9,c9,rfl,hB⟩
   |2,_=>
    refine wpOp_oneH rfl fun KK HKK =>?_
    clear hd
    go_wp2
    exact HKK.out _ _ ⟨_,(by simp[upd];done),Below.refl _ _,rfl⟩
   |3,_=>
    refine wpOp_oneH rfl fun KK HKK =>?_
    clear hd
    have q0:=cell_later hb u0
    go_wp2
    exact HKK.out _ _ ⟨_,(by simp[upd];done),Below.refl _ _,rfl⟩
   |4,_=>
    have h2:v 2=_:=hdx hd 2 (by kernel_rfl)
    have h3:v 3=_:=hdx hd 3 (by kernel_rfl)
    refine wpOp_oneH rfl fun KK HKK =>?_
    clear hd
    rw[h2,h3]
    go_wp2_with fail
    refine(NL.out _ hb).mono ?_
    rintro e w'' ⟨A9,c9,rfl,hB,b⟩
    go_wp2
    exact HKK.out _ _ ⟨_,(by simp[upd,h2,h3];done),b,A9,c9,rfl,hB⟩
   |5,_=>
    refine wpOp_oneH rfl fun KK HKK =>?_
    clear hd
    have q0:=cell_later hb r0
    go_wp2
    exact HKK.out _ _ ⟨_,(by simp[upd];done),Below.refl _ _,rfl⟩
   |6,_=>
    obtain⟨A1,c1,h1,o1⟩:=hd 1 (List.elem_iff.1 (by kernel_rfl))
    obtain⟨A4,c4,h4,o4⟩:=hd 4 (List.elem_iff.1 (by kernel_rfl))
    have h5:v 5=_:=hdx hd 5 (by kernel_rfl)
    refine wpOp_oneH rfl fun KK HKK =>?_
    clear hd
    rw[h1,h4,h5]
    go_wp2
    exact HKK.out _ _ ⟨_,(by simp[upd,h1,h4,h5];done),Below.refl _ _,A1,c1,A4,c4,rfl,o1,o4⟩
   |k+7,hk=>exact absurd hk (by omega)
  case doneR=>
   intro v w5 hb hf
   have h0:v 0=_:=hf 0 (by decide)
   obtain⟨A1,c1,h1,o1⟩:=hf 1 (by decide)
   have h2:v 2=_:=hf 2 (by decide)
   have h3:v 3=_:=hf 3 (by decide)
   obtain⟨A4,c4,h4,o4⟩:=hf 4 (by decide)
   have h5:v 5=_:=hf 5 (by decide)
   obtain⟨EA,ec,BA,bc,h6,oe,ob⟩:=hf 6 (by decide)
   clear hf
   rw[h0,h1,h2,h3,h4,h5,h6]
   have NN:=HNC.out.later hb
   have hB5:=below_on HB3.out hb
   have hK5:=(hb.block DD hDl2).trans HK2.out
   have m0:=NN.cell (i:=0) rfl
   have m1:=NN.cell (i:=1) rfl
   have m2:=NN.cell (i:=2) rfl
   have m3:=NN.cell (i:=3) rfl
   have f0:=NN.free 0
   have f1:=NN.free 1
   have f2:=NN.free 2
   have f3:=NN.free 3
   have hge:w.heap.size≤g+2:=by omega
   have P4:=((((NN.put 0 (.slice none 0 0)).put 1 (.slice EA reach.length ec)).put 2 (.slice BA BL.length bc)).put 3 (.slice VA TW.length vc))
   have Q4:=((((hB5.setCell (p:=⟨g+2,0,none⟩) hge (.slice none 0 0)).setCell (p:=⟨g+2,1,none⟩) hge (.slice EA reach.length ec)).setCell (p:=⟨g+2,2,none⟩) hge (.slice BA BL.length bc)).setCell (p:=⟨g+2,3,none⟩) hge (.slice VA TW.length vc))
   have E4:=((((oe.far (show Blk _ (g+2) 40 #[.slice none 0 0,.slice none 0 0,.slice none 0 0,.slice none 0 0] from NN) rfl 0 (.slice none 0 0)).far (show Blk _ (g+2) 40 #[.slice none 0 0,.slice none 0 0,.slice none 0 0,.slice none 0 0] from(NN.put 0 (.slice none 0 0))) rfl 1 (.slice EA reach.length ec)).far (show Blk _ (g+2) 40 #[.slice none 0 0,.slice EA reach.length ec,.slice none 0 0,.slice none 0 0] from((NN.put 0 (.slice none 0 0)).put 1 (.slice EA reach.length ec))) rfl 2 (.slice BA BL.length bc)).far (show Blk _ (g+2) 40 #[.slice none 0 0,.slice EA reach.length ec,.slice BA BL.length bc,.slice none 0 0] from(((NN.put 0 (.slice none 0 0)).put 1 (.slice EA reach.length ec)).put 2 (.slice BA BL.length bc))) rfl 3 (.slice VA TW.length vc))
   have B4:=((((ob.far (show Blk _ (g+2) 40 #[.slice none 0 0,.slice none 0 0,.slice none 0 0,.slice none 0 0] from NN) rfl 0 (.slice none 0 0)).far (show Blk _ (g+2) 40 #[.slice none 0 0,.slice none 0 0,.slice none 0 0,.slice none 0 0] from(NN.put 0 (.slice none 0 0))) rfl 1 (.slice EA reach.length ec)).far (show Blk _ (g+2) 40 #[.slice none 0 0,.slice EA reach.length ec,.slice none 0 0,.slice none 0 0] from((NN.put 0 (.slice none 0 0)).put 1 (.slice EA reach.length ec))) rfl 2 (.slice BA BL.length bc)).far (show Blk _ (g+2) 40 #[.slice none 0 0,.slice EA reach.length ec,.slice BA BL.length bc,.slice none 0 0] from(((NN.put 0 (.slice none 0 0)).put 1 (.slice EA reach.length ec)).put 2 (.slice BA BL.length bc))) rfl 3 (.slice VA TW.length vc))
   obtain⟨RA,rc,re,hRO⟩:=OneW.of_own HRW.out
   injection re with re1 _ re2
   subst re1 re2
   have R4:=(((((hRO.later hb).far (show Blk _ (g+2) 40 #[.slice none 0 0,.slice none 0 0,.slice none 0 0,.slice none 0 0] from NN) rfl 0 (.slice none 0 0)).far (show Blk _ (g+2) 40 #[.slice none 0 0,.slice none 0 0,.slice none 0 0,.slice none 0 0] from(NN.put 0 (.slice none 0 0))) rfl 1 (.slice EA reach.length ec)).far (show Blk _ (g+2) 40 #[.slice none 0 0,.slice EA reach.length ec,.slice none 0 0,.slice none 0 0] from((NN.put 0 (.slice none 0 0)).put 1 (.slice EA reach.length ec))) rfl 2 (.slice BA BL.length bc)).far (show Blk _ (g+2) 40 #[.slice none 0 0,.slice EA reach.length ec,.slice BA BL.length bc,.slice none 0 0] from(((NN.put 0 (.slice none 0 0)).put 1 (.slice EA reach.length ec)).put 2 (.slice BA BL.length bc))) rfl 3 (.slice VA TW.length vc))
   have K4:=((Below.heap_setCell (((w5.setCell ⟨g+2,0,none⟩ (.slice none 0 0)).setCell ⟨g+2,1,none⟩ (.slice EA reach.length ec)).setCell ⟨g+2,2,none⟩ (.slice BA BL.length bc)) ⟨g+2,3,none⟩ (.slice VA TW.length vc) DD HGD.out).trans ((Below.heap_setCell ((w5.setCell ⟨g+2,0,none⟩ (.slice none 0 0)).setCell ⟨g+2,1,none⟩ (.slice EA reach.length ec)) ⟨g+2,2,none⟩ (.slice BA BL.length bc) DD HGD.out).trans ((Below.heap_setCell (w5.setCell ⟨g+2,0,none⟩ (.slice none 0 0)) ⟨g+2,1,none⟩ (.slice EA reach.length ec) DD HGD.out).trans ((Below.heap_setCell w5 ⟨g+2,0,none⟩ (.slice none 0 0) DD HGD.out).trans hK5))))
   have HP4:=Hd (show Blk ((((w5.setCell ⟨g+2,0,none⟩ (.slice none 0 0)).setCell ⟨g+2,1,none⟩ (.slice EA reach.length ec)).setCell ⟨g+2,2,none⟩ (.slice BA BL.length bc)).setCell ⟨g+2,3,none⟩ (.slice VA TW.length vc)) (g+2) 40 #[.slice none 0 0,.slice EA reach.length ec,.slice BA BL.length bc,.slice VA TW.length vc] from P4)
   have FIN:=Hd (show AnsN ⟨[],reach,BL,TW⟩ w (.returned (.agg #[.slice none 0 0,.slice EA reach.length ec,.slice BA BL.length bc,.slice VA TW.length vc])) (((((w5.setCell ⟨g+2,0,none⟩ (.slice none 0 0)).setCell ⟨g+2,1,none⟩ (.slice EA reach.length ec)).setCell ⟨g+2,2,none⟩ (.slice BA BL.length bc)).setCell ⟨g+2,3,none⟩ (.slice VA TW.length vc)).putObj DD (.deferred none)) from
    ⟨none,EA,BA,VA,0,ec,bc,vc,rfl,⟨OneL.nil,OneL.kept E4 K4 rfl rfl,OneL.kept B4 K4 rfl rfl,oneW_own VA vc TW () _ _ (some DD) R4 (grownBy_putObj' _ DD (.deferred none)) (fun r e=>by cases e;exact⟨_,K4,rfl⟩)⟩,Q4.trans (belowK_b (w:=w) (Nat.le_refl _) _ DD _ (.deferred none) (by omega) K4 rfl rfl)⟩)
   have HK4:=Hd K4
   clear NN hB5 hK5 P4 Q4 E4 B4 R4 K4 o1 o4 oe ob hb u0 r0
   go_wp2_with fail
   gi_wp2
   refine⟨by simp,.inl ⟨_,_,rfl,run_takeDeferred HK4.out,?_⟩⟩
   have QP:=blk_own _ _ (fun (_:Unit)=>#[.slice none 0 0,.slice EA reach.length ec,.slice BA BL.length bc,.slice VA TW.length vc]) () _ _ (some DD) HP4.out (grownBy_putObj' _ DD (.deferred none)) (fun r e=>by cases e;exact⟨_,HK4.out,rfl⟩)
   exact⟨.agg #[.slice none 0 0,.slice EA reach.length ec,.slice BA BL.length bc,.slice VA TW.length vc],results_cell_row rfl _ _ (g+2) 40 #[.slice none 0 0,.slice EA reach.length ec,.slice BA BL.length bc,.slice VA TW.length vc] (0,0) _ rfl QP Tryz.underlying40 rfl infoNt4,FIN.out⟩
end Go.Proofs.YtjlfehpockfkdaaGreat
namespace Go.Proofs.YtjlfehpockfkdaaGreat
open Go.RowKit
namespace Vw
theorem part_fmd{v:Vw}(hv:Ok v){reach:List (Int × Int)}(hr:Ve.fmd reach=true){f:Nat→Bool}(hf:∀y∈v.h,f y.2.2.1.toNat=true→hasOf reach y.1 y.2.1=true):Nt.fmd (part v reach f)=true:=by
 have hws:Nt.wsOk (part v reach f)=true:=by
  rw[Nt.wsOk_iff]
  have hsub:((part v reach f).ws).Sublist v.h:=List.filter_sublist
  have hl:=(Sf.fmd_list v.h).1 hv.h
  have hp:=hl.2.sublist hsub
  intro j hj
  have hg:(part v reach f).ws.getD j Nt.zeroW=(part v reach f).ws[j]:=by rw[List.getD_eq_getElem?_getD,List.getElem?_eq_getElem hj];rfl
  have hm:(part v reach f).ws[j]∈v.h.filter fun x=>f x.2.2.1.toNat:=List.getElem_mem hj
  obtain⟨m1,m2⟩:=List.mem_filter.1 hm
  have ho:=obj_right hv.h m1
  refine⟨by rw[hg];exact hf _ m1 m2,by unfold Nt.obj;rw[hg];exact ho,?_,fun h0 =>?_⟩
  ·unfold Nt.obj
   rw[hg]
   unfold inOf
   rw[decide_eq_true ho,Bool.true_and]
   show Sp.inL (Sp.ofL (fun o =>!f o)) _=false
   rw[Sp.inL_ofL _ _ (by omega)]
   rw[show f (part v reach f).ws[j].2.2.1.toNat=true from m2]
   rfl
  ·have:=(List.pairwise_iff_getElem.1 hp) (j-1) j (by omega) hj (by omega)
   unfold Nt.obj
   rw[hg,show(part v reach f).ws.getD (j-1) Nt.zeroW=(part v reach f).ws[j-1] from by rw[List.getD_eq_getElem?_getD,List.getElem?_eq_getElem (by omega)];rfl]
   exact this
 unfold Nt.fmd
 rw[hws]
 show(Ve.fmd []&&(Ve.fmd reach&&(Ve.cov (Ve.cnt reach) (Ve.cnt [])&&(Sp.fmd (Sp.ofL (fun o =>!f o))&&true))))=true
 rw[hr,Sp.fmd_ofL,show Ve.fmd []=true from rfl,show Ve.cov (Ve.cnt reach) (Ve.cnt [])=true from(Ve.cov_iff _ _).2 (fun i _=>Ve.cnt_nonneg reach i)]
 rfl
theorem rch_fmd{v:Vw}(hv:Ok v)(o:Int):Ve.fmd (Tr.rch v.z v.k o)=true:=by
 unfold Tr.rch
 rcases Tr.at_ways v.z o with ⟨-,h,-⟩|⟨k,h1,-,h,-,-⟩
 ·rw[h];exact hv.k
 ·rw[h]
  refine(z_each hv.z (z:=v.z.getD k (0,0,[])) ?_).2
  rw[List.getD_eq_getElem?_getD,List.getElem?_eq_getElem h1]
  exact List.getElem_mem h1
theorem has_rch{v:Vw}(hv:Ok v){y:Wr}(hy:y∈v.h):hasOf (Tr.rch v.z v.k y.2.2.1) y.1 y.2.1=true:=by
 have h1:=hv.has y hy
 unfold Vw.has at h1
 rwa [rchR_in hv (obj_right hv.h hy)]at h1
theorem part_sharp{v:Vw}(hv:Ok v)(it:List (Int × Int)):Nt.fmd (part v v.k (fun o=>Sp.inL it o && !isB v o))=true:=
 part_fmd hv hv.k (fun y hy hf=>by
  have h1:=has_rch hv hy
  have ho:=obj_right hv.h hy
  simp only[Bool.and_eq_true,Bool.not_eq_true']at hf
  have h2:=hf.2
  unfold isB at h2
  rw[show((y.2.2.1.toNat:Nat):Int)=y.2.2.1 by omega]at h2
  unfold Tr.rch at h1
  rw[show Tr.at_ v.z y.2.2.1=none from by cases hx:Tr.at_ v.z y.2.2.1 with
   |none=>rfl
   |some u=>rw[hx]at h2;cases h2]at h1
  exact h1)
theorem part_like{v:Vw}(hv:Ok v)(it:List (Int × Int))(o:Nat):Nt.fmd (part v (Tr.rch v.z v.k (o:Int)) (like v it o))=true:=
 part_fmd hv (rch_fmd hv _) (fun y hy hf=>by
  have h1:=has_rch hv hy
  have ho:=obj_right hv.h hy
  have h2:=((like_iff v it o _).1 hf).2.2
  rw[show((y.2.2.1.toNat:Nat):Int)=y.2.2.1 by omega]at h2
  rwa [h2]at h1)
theorem sum_fmd{v:Vw}(it:List (Int × Int)):∀n∈(sumR v it).1,Nt.fmd n=true:=by
 intro n hn
 by_cases hf:fmd v=true
 ·have hv:=(ok_iff v).1 hf
  unfold sumR at hn
  rw[if_pos hf]at hn
  rcases List.mem_cons.1 hn with rfl|hn
  ·exact part_sharp hv it
  ·obtain⟨o,-,rfl⟩:=List.mem_map.1 hn
   exact part_like hv it o
 ·unfold sumR at hn
  rw[if_neg hf]at hn
  cases hn
end Vw
end Go.Proofs.YtjlfehpockfkdaaGreat
namespace Go.Proofs.YtjlfehpockfkdaaGreat
open Go.RowKit Go.Maps Fb
def Vd.KeepM(w X:World):Prop:=w.heap.size≤X.heap.size∧∀(k:Nat) (o:Obj),w.heap[k]?=some o→o.isCells=true→X.heap[k]?=some o
namespace Vd
variable {w X Y:World}
theorem KeepM.refl(w:World):KeepM w w:=⟨Nat.le_refl _,fun _ _ h _=>h⟩
theorem KeepM.later(h:KeepM w X)(hb:Below X.heap.size X Y):KeepM w Y:=⟨Nat.le_trans h.1 hb.size,fun k o h1 h2=>by
 have h3:=h.2 k o h1 h2
 exact(hb.block k (Array.getElem?_eq_some_iff.1 h3).1).trans h3⟩
theorem KeepM.grown(h:KeepM w X){row:Option Nat}(hg:X.grownBy Y row)(hr:∀r,row=some r→w.heap.size≤r∨∃o:Obj,X.heap[r]?=some o∧o.isCells=false):KeepM w Y:=⟨Nat.le_trans h.1 hg.size,fun k o h1 h2=>by
 have h3:=h.2 k o h1 h2
 refine(hg.block k (Array.getElem?_eq_some_iff.1 h3).1 (fun e =>?_)).trans h3
 rcases hr k e.symm with h4|⟨o',h4,h5⟩
 ·have:=(Array.getElem?_eq_some_iff.1 h1).1
  omega
 ·rw[h3]at h4
  cases h4
  rw[h2]at h5
  cases h5⟩
theorem KeepM.blk(h:KeepM w X){k:Nat}{t:TypeId}{cs:Array Value}(hB:Blk w k t cs):Blk X k t cs:=h.2 k _ hB rfl
theorem KeepM.cell(h:KeepM w X){a:Addr}{v:Value}(hc:w.cell? a=some v):X.cell? a=some v:=by
 obtain⟨o,ho,hoc⟩:=cells_of_cell hc
 exact(World.cell?_of_block ((h.2 _ _ ho hoc).trans ho.symm)).trans hc
theorem KeepM.oneL(h:KeepM w X){A:Option Addr}{c:Nat}{l:List (Int × Int)}(hl:OneL w A c l):OneL X A c l:=
 ⟨hl.1,hl.2.1,hl.2.2.1,fun hne=>by
  obtain⟨b,off,e,hc⟩:=hl.2.2.2 hne
  exact⟨b,off,e,fun j u hu=>h.cell (hc j u hu)⟩⟩
theorem KeepM.oneW(h:KeepM w X){A:Option Addr}{c:Nat}{l:List Wr}(hl:OneW w A c l):OneW X A c l:=
 ⟨hl.1,hl.2.1,hl.2.2.1,fun hne=>by
  obtain⟨b,off,e,hc⟩:=hl.2.2.2 hne
  exact⟨b,off,e,fun j u hu=>h.cell (hc j u hu)⟩⟩
theorem KeepM.ns(h:KeepM w X){base:Nat}{t:TypeId}{v:Value}{L:List Nl}(hn:OwnNs w base t v L):OwnNs X base t v L:=by
 have hrow:∀k,v.ownBlock=some k→X.heap[k]?=w.heap[k]?:=fun k hk=>by
  rcases hn.row.2 with ⟨hv,_⟩|⟨g3,cap,cur,hv,_,hB3,_⟩
  ·rw[hv]at hk;cases hk
  ·rw[hv]at hk
   injection hk with hk
   subst hk
   exact(h.2 _ _ hB3 rfl).trans hB3.symm
 refine⟨own_stays hn.row hrow,fun g n c e =>?_,fun z hz =>?_⟩
 ·obtain⟨cs,t',fr,h1,h2⟩:=hn.flat g n c e
  exact⟨cs,t',fr,(hrow g (by rw[e];rfl)).trans h1,h2⟩
 ·have hz:=hn.each z hz
  exact⟨h.oneL hz.hs,h.oneL hz.he,h.oneL hz.hb,h.oneW hz.hv⟩
theorem map_stays{H:Type}{P:Program}{k:TypeId}{R:Value→Option (DataW H × List MemPlace)}{w w':World}{b n:Nat}{D:DataW H}(h:w.ownsMap P k R b n D)(hs:w'.heap[b]?=w.heap[b]?):w'.ownsMap P k R b n D:=by
 obtain⟨es,clock,hh,F,hs',hD⟩:=h
 exact⟨es,clock,hs.trans hh,F,hs',hD⟩
theorem told_eq{zs:List Zn}{it:List (Int × Int)}{k p:Nat}(h:vecAt zs k=vecAt zs p)(ht:told1 zs it k k=true):told1 zs it k p=true:=by
 obtain⟨i,h1,h2,h3⟩:=(told_iff zs it k k).1 ht
 exact(told_iff zs it k p).2 ⟨i,h1,h2,h3.trans h⟩
end Vd
theorem infoSpn:(Tryz.prog.info? 97).map (fun i=>(i.zero,i.size,i.bytes))=some (some (.agg #[.int .i64 0,.int .i64 0]),2,16):=by kernel_rfl
set_option maxRecDepth 100000 in
set_option maxHeartbeats 6400000 in
theorem vdsum_any(q:Vl)(I:Option Addr)(ci:Nat)(it:List (Int × Int))(w:World)(h:VwAt w q)(hi:OneL w I ci it) :
  Calls Tryz.prog 30 #[.agg (vwCells q),.slice I it.length ci] w (GivesNE (Vw.sumR q.vw it).1 (Vw.sumR q.vw it).2 w):=by
 obtain⟨i0,hI0,hz0,hz1,hz2⟩:=info_parts infoNt44
 obtain⟨j0,hJ0,hy0,hy1,hy2⟩:=info_parts infoSpn
 have c1:=fun wx (hb:Below w.heap.size w wx)=>vdformed_any q wx (h.later hb)
 cases hf:Vw.fmd q.vw with
 |false=>
  have hR:Vw.sumR q.vw it=([],1):=by unfold Vw.sumR;rw[if_neg (by rw[hf];exact Bool.false_ne_true)]
  rw[hR]
  rw[hf]at c1
  clear hR hf h hi
  obtain⟨K,ck,kn,Z,cz,zs,H,ch,hs,B,cb,bs,room⟩:=q
  unfold vwCells at c1 ⊢
  try dsimp only at c1 ⊢
  have C1:=Hd c1
  clear c1
  have hb0:=below_new (Below.refl w.heap.size w) (.cells #[.slice K kn.length ck,.slice Z zs.length cz,.slice H hs.length ch,.slice B bs.length cb,.int .i64 room] 27)
  have hV:=Blk.new w 27 #[.slice K kn.length ck,.slice Z zs.length cz,.slice H hs.length ch,.slice B bs.length cb,.int .i64 room]
  obtain⟨W,hW⟩:∃W,w.alloc (.cells #[.slice K kn.length ck,.slice Z zs.length cz,.slice H hs.length ch,.slice B bs.length cb,.int .i64 room] 27)=W:=⟨_,rfl⟩
  rw[hW]at hb0 hV
  have HW:=Hd hW
  obtain⟨g,hgg⟩:∃g,w.heap.size=g:=⟨_,rfl⟩
  rw[hgg]at hV
  have HV:=Hd (show Blk W (g) 27 #[.slice K kn.length ck,.slice Z zs.length cz,.slice H hs.length ch,.slice B bs.length cb,.int .i64 room] from hV)
  have HB0:=Hd hb0
  clear hW hb0 hV
  go_enter Tryz.func30,Tryz.ntmps30
  go_upto_region 1 with (fail)
  rw[HW.out]
  clear HW
  have V_0:=HV.out.cell (i:=0) rfl
  have V_1:=HV.out.cell (i:=1) rfl
  have V_2:=HV.out.cell (i:=2) rfl
  have V_3:=HV.out.cell (i:=3) rfl
  have V_4:=HV.out.cell (i:=4) rfl
  go_wp2_with fail
  refine(C1.out _ HB0.out).mono ?_
  rintro e w1 ⟨rfl,b1⟩
  clear V_0 V_1 V_2 V_3 V_4
  replace HV:=Hd (HV.out.later b1)
  have HB1:=Hd (below_on HB0.out b1)
  clear HB0
  clear b1 C1
  have HQ:=Hd HB1.out
  go_wp2
  go_ret2
  exact⟨none,0,rfl,OneN.nil _,(fun _ _ h=>by cases h),HQ.out⟩
 |true=>
  rw[Vd.sum_zones hf it]
  obtain⟨hkf,hzf,hhf,-⟩:=Vw.fmd_all hf
  obtain⟨zl1,zl2⟩:=Vd.z_len (zs:=q.z) hzf
  have hkl:q.k.length≤64:=Vw.k_len (show Ve.fmd q.k=true from hkf)
  have c2:=fun wx (hb:Below w.heap.size w wx)=>tblurred_any q.Z q.cz q.z wx (h.later hb).z
  have hL0:Sp.lessS (Sp.ofL (Sp.inL it)) (Tr.blr (q.z.map Zc.zn))=Sp.ofL (fun o=>Sp.inL it o && !Vw.isB q.vw o):=Sp.ofL_ext (fun o ho=>by
   rw[Sp.inL_ofL _ o ho,Tr.blr_in (show Tr.fmd (q.z.map Zc.zn)=true from hzf) ho]
   rfl)
  have c3:=fun A c B d wx (hA:OneL wx A c (Sp.ofL (Sp.inL it))) (hB:OneL wx B d (Tr.blr (q.z.map Zc.zn)))=>(spless_any A B c d (Sp.ofL (Sp.inL it)) (Tr.blr (q.z.map Zc.zn)) wx hA hB).mono fun _ _ hg=>hg.one
  rw[hL0]at c3
  have c4:=fun A c wx (hb:Below w.heap.size w wx) (hA:OneL wx A c (Sp.ofL (fun o=>Sp.inL it o && !Vw.isB q.vw o)))=>vdtelling_any q q.K A q.ck c q.k (fun o=>Sp.inL it o && !Vw.isB q.vw o) wx (h.later hb) hhf (h.later hb).k hkl hA
  have hzx:=fun (k:Nat) (x:Zc) (hx:q.z[k]?=some x)=>(show(Vd.spAt q.vw.z k).1=x.lo∧(Vd.spAt q.vw.z k).2=x.hi∧Vd.vecAt q.vw.z k=x.l from by
   have hg:Vd.zAt (q.z.map Zc.zn) k=x.zn:=by unfold Vd.zAt;exact zn_getD hx
   refine⟨?_,?_,?_⟩
   ·show(Vd.zAt (q.z.map Zc.zn) k).1=x.lo
    rw[hg];rfl
   ·show(Vd.zAt (q.z.map Zc.zn) k).2.1=x.hi
    rw[hg];rfl
   ·show(Vd.zAt (q.z.map Zc.zn) k).2.2=x.l
    rw[hg];rfl)
  have htc:=fun k=>show Vd.tch q.vw.z it k=Sp.touch (Sp.inL (Sp.ofL (Sp.inL it))) (Sp.inL [Vd.spAt q.vw.z k]) from by
   unfold Vd.tch
   rw[Bool.eq_iff_iff,Sp.touch_iff,Sp.touch_iff]
   exact⟨fun⟨o,h1,h2,h3⟩=>⟨o,h1,by rw[Sp.inL_ofL _ o h1];exact h2,h3⟩,fun⟨o,h1,h2,h3⟩=>⟨o,h1,by rw[Sp.inL_ofL _ o h1]at h2;exact h2,h3⟩⟩
  have c5:=fun (k:Nat) (lo hi:Int) (X:Option Addr) (cx:Nat) (l:List (Int × Int)) A c B d wx (hq:(Vd.spAt q.vw.z k).1=lo∧(Vd.spAt q.vw.z k).2=hi∧Vd.vecAt q.vw.z k=l) (hA:OneL wx A c (Sp.ofL (Sp.inL it))) (hB:OneL wx B d [(lo,hi)])=>(by
   have hh:=sptouch_any A B c d (Sp.ofL (Sp.inL it)) [(lo,hi)] wx hA hB
   rw[show [(lo,hi)]=[Vd.spAt q.vw.z k] from by rw[←hq.1,←hq.2.1],←htc k]at hh
   exact hh:Calls Tryz.prog 93 #[.slice A (Sp.ofL (Sp.inL it)).length c,.slice B 1 d] wx (Says (.bool (Vd.tch q.vw.z it k)) wx))
  have hOB:=fun k=>show Sp.meetS (Sp.ofL (Sp.inL it)) (Vd.alikeTo q.vw.z k q.vw.z.length)=Sp.ofL (Vd.obj q.vw.z it k) from Sp.ofL_ext (fun o ho=>by rw[Sp.inL_ofL _ o ho];rfl)
  have hzl:q.vw.z.length=q.z.length:=List.length_map _
  have d6:=fun (k:Nat) A c B d wx (hA:OneL wx A c (Sp.ofL (Sp.inL it))) (hB:OneL wx B d (Vd.alikeTo q.vw.z k q.vw.z.length))=>(spmeet_any A B c d (Sp.ofL (Sp.inL it)) (Vd.alikeTo q.vw.z k q.vw.z.length) wx hA hB).mono fun _ _ hg=>hg.one
  have c6:=fun (k:Nat) A c B d wx (hA:OneL wx A c (Sp.ofL (Sp.inL it))) (hB:OneL wx B d (Vd.alikeTo q.vw.z k q.vw.z.length))=>(by
   have hh:=d6 k A c B d wx hA hB
   rw[hOB k]at hh
   exact hh:Calls Tryz.prog 96 #[.slice A (Sp.ofL (Sp.inL it)).length c,.slice B (Vd.alikeTo q.vw.z k q.vw.z.length).length d] wx (Ans (Sp.ofL (Vd.obj q.vw.z it k)) wx))
  have d7:=fun (k:Nat) X cx A c wx (hb:Below w.heap.size w wx) (hX:OneL wx X cx (Vd.vecAt q.vw.z k)) (hl:(Vd.vecAt q.vw.z k).length≤64) (hA:OneL wx A c (Sp.ofL (Vd.obj q.vw.z it k)))=>vdtelling_any q X A cx c (Vd.vecAt q.vw.z k) (Vd.obj q.vw.z it k) wx (h.later hb) hhf hX hl hA
  have hvl:∀k,(Vd.vecAt q.vw.z k).length≤64:=fun k=>by
   rcases Nat.lt_or_ge k q.z.length with hk|hk
   ·rw[(hzx k _ (List.getElem?_eq_getElem hk)).2.2]
    exact zl2 _ (List.getElem_mem hk)
   ·unfold Vd.vecAt Vd.zAt
    rw[List.getD_eq_getElem?_getD,List.getElem?_eq_none (by rw[hzl];exact hk)]
    exact Nat.zero_le _
  have c7:=fun (k:Nat) X cx A c wx (hb:Below w.heap.size w wx) (hX:OneL wx X cx (Vd.vecAt q.vw.z k)) (hA:OneL wx A c (Sp.ofL (Vd.obj q.vw.z it k)))=>d7 k X cx A c wx hb hX (hvl k) hA
  have ot0:Vd.outTo q.vw it 0=[]:=rfl
  have ots:=fun k=>Vd.out_succ q.vw it k
  have otn:=fun k=>Vd.out_len q.vw it k
  have td0:=fun p=>show Vd.told1 q.vw.z it 0 p=false from rfl
  have tds:=fun k p=>Vd.told_succ q.vw.z it k p
  have tde:=fun k p=>Vd.told_eq (zs:=q.vw.z) (it:=it) (k:=k) (p:=p)
  have ems:=fun k=>show Vd.em q.vw.z it k=(Vd.tch q.vw.z it k && !Vd.told1 q.vw.z it k k) from rfl
  have al0:=fun k=>show Vd.alikeTo q.vw.z k 0=[] from rfl
  have als:=fun k p=>Vd.alike_succ q.vw.z k p
  have aln:=fun k p=>Vd.alike_len q.vw.z k p
  rw[hzl]at c6 ⊢
  obtain⟨PT,hPT⟩:∃f,(fun k=>Vw.part q.vw (Vd.vecAt q.vw.z k) (Vd.obj q.vw.z it k))=f:=⟨_,rfl⟩
  have hPT:=fun k=>congrFun hPT k
  try dsimp only at hPT
  simp only[hPT]at ots c7
  obtain⟨OBL,hOBL⟩:∃f,(fun k=>Sp.ofL (Vd.obj q.vw.z it k))=f:=⟨_,rfl⟩
  have hOBL:=fun k=>congrFun hOBL k
  try dsimp only at hOBL
  simp only[hOBL]at c6 c7
  obtain⟨OT,hOT⟩:∃f,Vd.outTo q.vw it=f:=⟨_,rfl⟩
  obtain⟨TD,hTD⟩:∃f,Vd.told1 q.vw.z it=f:=⟨_,rfl⟩
  obtain⟨TC,hTC⟩:∃f,Vd.tch q.vw.z it=f:=⟨_,rfl⟩
  obtain⟨EM,hEM⟩:∃f,Vd.em q.vw.z it=f:=⟨_,rfl⟩
  obtain⟨AL,hAL⟩:∃f,Vd.alikeTo q.vw.z=f:=⟨_,rfl⟩
  obtain⟨SP,hSP⟩:∃f,Vd.spAt q.vw.z=f:=⟨_,rfl⟩
  obtain⟨VCt,hVC⟩:∃f,Vd.vecAt q.vw.z=f:=⟨_,rfl⟩
  obtain⟨N0,hN0⟩:∃n,Vw.part q.vw q.k (fun o=>Sp.inL it o && !Vw.isB q.vw o)=n:=⟨_,rfl⟩
  obtain⟨L0,hL0'⟩:∃n,Sp.ofL (fun o=>Sp.inL it o && !Vw.isB q.vw o)=n:=⟨_,rfl⟩
  obtain⟨WL,hWL⟩:∃n,Sp.ofL (Sp.inL it)=n:=⟨_,rfl⟩
  obtain⟨bl,hbl⟩:∃n,Tr.blr (q.z.map Zc.zn)=n:=⟨_,rfl⟩
  rw[show q.vw.k=q.k from rfl,hOT,hN0]
  rw[hOT]at ot0 ots otn
  rw[hEM]at ots ems
  rw[hTD]at td0 tds tde ems
  rw[hTC]at tds ems c5
  rw[hVC]at tds tde als c7 c5 hzx
  rw[hAL]at al0 als aln c6
  rw[hSP]at als hzx c5
  rw[hN0,hL0']at c4
  rw[hL0',hWL,hbl]at c3
  rw[hWL]at c5 c6
  rw[hbl]at c2
  have HWL:=Hd hWL
  have HZ:=Hd h.z
  have HI:=Hd hi
  have HZ256:=Hd zl1
  rw[hf]at c1
  clear d6 d7 hN0 hL0' hWL hbl hOT hTD hTC hEM hAL hSP hVC hPT hOBL hL0 htc hOB hzl hvl zl1 zl2 hkl hkf hzf hhf hf h hi
  obtain⟨K,ck,kn,Z,cz,zs,H,ch,hs,B,cb,bs,room⟩:=q
  unfold vwCells at c1 c4 c7 ⊢
  dsimp only at c1 c2 c3 c4 c5 c6 c7 hzx HZ HZ256 ⊢
  have C1:=Hd c1
  have C2:=Hd c2
  have C3:=Hd c3
  have C4:=Hd c4
  have C5:=Hd c5
  have C6:=Hd c6
  have C7:=Hd c7
  have HZX:=Hd hzx
  have HOT0:=Hd ot0
  have HOT:=Hd ots
  have HOTn:=Hd otn
  have HTD0:=Hd td0
  have HTD:=Hd tds
  have HTE:=Hd tde
  have HEM:=Hd ems
  have HAL0:=Hd al0
  have HAL:=Hd als
  have HALn:=Hd aln
  clear c1 c2 c3 c4 c5 c6 c7 hzx ot0 ots otn td0 tds tde ems al0 als aln
  have hb0:=below_new (Below.refl w.heap.size w) (.cells #[.slice K kn.length ck,.slice Z zs.length cz,.slice H hs.length ch,.slice B bs.length cb,.int .i64 room] 27)
  have hV:=Blk.new w 27 #[.slice K kn.length ck,.slice Z zs.length cz,.slice H hs.length ch,.slice B bs.length cb,.int .i64 room]
  obtain⟨W,hW⟩:∃W,w.alloc (.cells #[.slice K kn.length ck,.slice Z zs.length cz,.slice H hs.length ch,.slice B bs.length cb,.int .i64 room] 27)=W:=⟨_,rfl⟩
  rw[hW]at hb0 hV
  have HW:=Hd hW
  obtain⟨g,hgg⟩:∃g,w.heap.size=g:=⟨_,rfl⟩
  rw[hgg]at hV
  have HV:=Hd (show Blk W (g) 27 #[.slice K kn.length ck,.slice Z zs.length cz,.slice H hs.length ch,.slice B bs.length cb,.int .i64 room] from hV)
  have HB0:=Hd hb0
  clear hW hb0 hV
  go_enter Tryz.func30,Tryz.ntmps30
  go_upto_region 1 with (fail)
  rw[HW.out]
  clear HW
  have V_0:=HV.out.cell (i:=0) rfl
  have V_1:=HV.out.cell (i:=1) rfl
  have V_2:=HV.out.cell (i:=2) rfl
  have V_3:=HV.out.cell (i:=3) rfl
  have V_4:=HV.out.cell (i:=4) rfl
  go_wp2_with fail
  refine(C1.out _ HB0.out).mono ?_
  rintro e w1 ⟨rfl,b1⟩
  clear V_0 V_1 V_2 V_3 V_4
  replace HV:=Hd (HV.out.later b1)
  have HB1:=Hd (below_on HB0.out b1)
  clear HB0
  clear b1 C1
  go_wp2_with fail
  refine(join_one (HI.out.later HB1.out) _).mono ?_
  rintro e w2 ⟨u,rfl,ho,b2⟩
  replace HV:=Hd (HV.out.later b2)
  have HB2:=Hd (below_on HB1.out b2)
  clear HB1
  clear b2
  obtain⟨WA,wc,rfl,hWL⟩:=OneL.of_own ho
  rw[HWL.out]at hWL ⊢
  have XW:=Hd hWL
  clear ho hWL
  have V_0:=HV.out.cell (i:=0) rfl
  have V_1:=HV.out.cell (i:=1) rfl
  have V_2:=HV.out.cell (i:=2) rfl
  have V_3:=HV.out.cell (i:=3) rfl
  have V_4:=HV.out.cell (i:=4) rfl
  go_upto_region 4 with (fail)
  refine wp_region_facts 10 (by kernel_rfl) (by kernel_rfl)
   (fun v=>{ tmps:=#[.agg #[.slice K kn.length ck,.slice Z zs.length cz,.slice H hs.length ch,.slice B bs.length cb,.int .i64 room],.slice I it.length ci,.pointer (some ⟨g,0,none⟩),undef,.slice none 0 0,.int .i64 0,.slice WA WL.length wc,undef,undef,undef,undef,undef,undef,undef,undef,undef,.agg #[.slice K kn.length ck,.slice Z zs.length cz,.slice H hs.length ch,.slice B bs.length cb,.int .i64 room],.bool true,.bool false,.slice I it.length ci,.slice (some ⟨w1.heap.size,0,none⟩) 1 1,.slice WA WL.length wc,v 0,v 1,v 2,v 3,v 4,v 5,v 6,v 7,v 8,v 9,undef,undef,undef,undef,undef,undef,undef,undef,undef,undef,undef,undef,undef,undef,undef,undef,undef,undef,undef,undef,undef,undef,undef,undef,undef,undef,undef,undef,undef,undef,undef,undef,undef,undef,undef,undef,undef,undef,undef,undef,undef,undef,undef,undef,undef,undef,undef,undef,undef,undef,undef,undef,undef,undef,undef,undef,undef,undef],defers:=[] }) (fun _=>undef)
   (fun i x wx=>match i with
    |0=>x = .agg #[.slice K kn.length ck,.slice Z zs.length cz,.slice H hs.length ch,.slice B bs.length cb,.int .i64 room]
    |1=>x = .pointer (some ⟨g,0,none⟩)
    |2=>x = .slice K kn.length ck
    |3=>x = .slice WA WL.length wc
    |4=>x = .pointer (some ⟨g,1,none⟩)
    |5=>x = .slice Z zs.length cz
    |6=>∃A9 c9,x = .slice A9 bl.length c9∧OneL wx A9 c9 bl
    |7=>∃Ax cx,x = .slice Ax L0.length cx∧OneL wx Ax cx L0
    |8=>∃zz:Nl,x = .agg #[.slice zz.S zz.n.s.length zz.cs,.slice zz.E zz.n.e.length zz.ce,.slice zz.B zz.n.b.length zz.cb,.slice zz.V zz.n.ws.length zz.cv]∧zz.n=N0∧zz.At wx
    |9=>∃(gx:Nat) (zz:Nl),x = .slice (some ⟨gx,0,none⟩) 1 1∧Blk wx gx 40 #[.slice zz.S zz.n.s.length zz.cs,.slice zz.E zz.n.e.length zz.ce,.slice zz.B zz.n.b.length zz.cb,.slice zz.V zz.n.ws.length zz.cv]∧w.heap.size≤gx∧zz.n=N0∧zz.At wx
    |_=>True)
   (fun w1 w2=>Below w1.heap.size w1 w2) (fun h1 h2=>below_on h1 h2) (fun _=>Below.refl _ _) (Below.drew (Below.refl _ _)) ?stabP ?stepP ?doneP
  case stabP=>
   rintro i x w1 w2 h hb
   match i,h with
   |0,h=>exact h
   |1,h=>exact h
   |2,h=>exact h
   |3,h=>exact h
   |4,h=>exact h
   |5,h=>exact h
   |6,h=>obtain⟨A9,c9,e9,h9⟩:=h;exact⟨A9,c9,e9,h9.later hb⟩
   |7,h=>obtain⟨Ax,cx,ex,hx⟩:=h;exact⟨Ax,cx,ex,hx.later hb⟩
   |8,h=>obtain⟨zz,e9,n9,h9⟩:=h;exact⟨zz,e9,n9,NoteAt.later h9 hb⟩
   |9,h=>obtain⟨gx,zz,e9,b9,m9,n9,h9⟩:=h;exact⟨gx,zz,e9,b9.later hb,m9,n9,NoteAt.later h9 hb⟩
   |i+10,_=>trivial
  case stepP=>
   intro i hi v w' hb hd
   match i,hi with
   |0,_=>
    refine wpOp_oneH rfl fun KK HKK =>?_
    clear hd
    have q0:=cell_later hb V_0
    have q1:=cell_later hb V_1
    have q2:=cell_later hb V_2
    have q3:=cell_later hb V_3
    have q4:=cell_later hb V_4
    go_wp2
    exact HKK.out _ _ ⟨_,(by simp[upd];done),Below.refl _ _,rfl⟩
   |1,_=>
    refine wpOp_oneH rfl fun KK HKK =>?_
    clear hd
    go_wp2
    exact HKK.out _ _ ⟨_,(by simp[upd];done),Below.refl _ _,rfl⟩
   |2,_=>
    have h1:v 1=_:=hdx hd 1 (by kernel_rfl)
    refine wpOp_oneH rfl fun KK HKK =>?_
    clear hd
    rw[h1]
    have q0:=cell_later hb V_0
    go_wp2
    exact HKK.out _ _ ⟨_,(by simp[upd,h1];done),Below.refl _ _,rfl⟩
   |3,_=>
    refine wpOp_oneH rfl fun KK HKK =>?_
    clear hd
    go_wp2
    exact HKK.out _ _ ⟨_,(by simp[upd];done),Below.refl _ _,rfl⟩
   |4,_=>
    refine wpOp_oneH rfl fun KK HKK =>?_
    clear hd
    go_wp2
    exact HKK.out _ _ ⟨_,(by simp[upd];done),Below.refl _ _,rfl⟩
   |5,_=>
    have h4:v 4=_:=hdx hd 4 (by kernel_rfl)
    refine wpOp_oneH rfl fun KK HKK =>?_
    clear hd
    rw[h4]
    have q0:=cell_later hb V_1
    go_wp2
    exact HKK.out _ _ ⟨_,(by simp[upd,h4];done),Below.refl _ _,rfl⟩
   |6,_=>
    have h5:v 5=_:=hdx hd 5 (by kernel_rfl)
    refine wpOp_oneH rfl fun KK HKK =>?_
    clear hd
    rw[h5]
    go_wp2_with fail
    refine(C2.out _ (below_on HB2.out hb)).mono ?_
    rintro e w'' ⟨A9,c9,rfl,hB,b⟩
    go_wp2
    exact HKK.out _ _ ⟨_,(by simp[upd,h5];done),b,A9,c9,rfl,hB⟩
   |7,_=>
    have h3:v 3=_:=hdx hd 3 (by kernel_rfl)
    obtain⟨A6,c6,h6,o6⟩:=hd 6 (List.elem_iff.1 (by kernel_rfl))
    refine wpOp_oneH rfl fun KK HKK =>?_
    clear hd
    rw[h3,h6]
    have NX:=Hd (C3.out WA wc A6 c6 w' (XW.out.later hb) o6)
    clear o6
    go_wp2_with fail
    refine NX.out.mono ?_
    rintro e w'' ⟨Ax,cx,rfl,hB,b⟩
    go_wp2
    exact HKK.out _ _ ⟨_,(by simp[upd,h3,h6];done),b,Ax,cx,rfl,hB⟩
   |8,_=>
    have h0:v 0=_:=hdx hd 0 (by kernel_rfl)
    have h2:v 2=_:=hdx hd 2 (by kernel_rfl)
    obtain⟨A7,c7,h7,o7⟩:=hd 7 (List.elem_iff.1 (by kernel_rfl))
    refine wpOp_oneH rfl fun KK HKK =>?_
    clear hd
    rw[h0,h2,h7]
    have NX:=Hd (C4.out A7 c7 w' (below_on HB2.out hb) o7)
    clear o7
    go_wp2_with fail
    refine NX.out.mono ?_
    rintro e w'' ⟨NS,NE,NB,NV,ns,ne,nb,nv,rfl,hNA,b⟩
    unfold noteCells
    dsimp only
    go_wp2
    exact HKK.out _ _ ⟨_,(by simp[upd,h0,h2,h7];done),b,⟨NS,NE,NB,NV,ns,ne,nb,nv,N0⟩,rfl,rfl,hNA⟩
   |9,_=>
    obtain⟨zz8,h8,zn8,o8⟩:=hd 8 (List.elem_iff.1 (by kernel_rfl))
    refine wpOp_oneH rfl fun KK HKK =>?_
    clear hd
    rw[h8]
    have ZN:=Hd zn8
    clear zn8
    have bn:=below_new (Below.refl w'.heap.size w') (.cells #[.slice zz8.S zz8.n.s.length zz8.cs,.slice zz8.E zz8.n.e.length zz8.ce,.slice zz8.B zz8.n.b.length zz8.cb,.slice zz8.V zz8.n.ws.length zz8.cv] 40)
    have HBN:=Hd (Blk.new w' 40 #[.slice zz8.S zz8.n.s.length zz8.cs,.slice zz8.E zz8.n.e.length zz8.ce,.slice zz8.B zz8.n.b.length zz8.cb,.slice zz8.V zz8.n.ws.length zz8.cv])
    have HZN:=Hd (NoteAt.later o8 bn)
    have hsz:=(below_on HB2.out hb).size
    go_wp2
    exact HKK.out _ _ ⟨_,(by simp[upd,h8];done),bn,_,zz8,rfl,HBN.out,hsz,ZN.out,HZN.out⟩
   |k+10,hk=>exact absurd hk (by omega)
  case doneP=>
   intro v w5 hb hf
   have h0:v 0=_:=hf 0 (by decide)
   have h1:v 1=_:=hf 1 (by decide)
   have h2:v 2=_:=hf 2 (by decide)
   have h3:v 3=_:=hf 3 (by decide)
   have h4:v 4=_:=hf 4 (by decide)
   have h5:v 5=_:=hf 5 (by decide)
   obtain⟨A6,c6,h6,o6⟩:=hf 6 (by decide)
   obtain⟨A7,c7,h7,o7⟩:=hf 7 (by decide)
   obtain⟨zz8,h8,zn8,o8⟩:=hf 8 (by decide)
   obtain⟨g9,zz9,h9,o9,m9,zn9,y9⟩:=hf 9 (by decide)
   clear hf
   rw[h0,h1,h2,h3,h4,h5,h6,h7,h8,h9]
   clear V_0 V_1 V_2 V_3 V_4
   replace HV:=Hd (HV.out.later hb)
   have HB3:=Hd (below_on HB2.out hb)
   clear HB2
   replace XW:=Hd (XW.out.later hb)
   clear hb
   have hns:OwnNs w5 w.heap.size 40 (.slice (some ⟨g9,0,none⟩) 1 1) [zz9]:=⟨⟨rfl,.inr ⟨g9,1,_,rfl,m9,o9,Nat.le_refl _,by unfold maxLen;omega,rfl,rfl⟩⟩,(fun g' n' c' e9=>by cases e9;exact⟨_,_,_,o9,rfl⟩),fun z hz=>by rw[List.mem_singleton]at hz;subst hz;exact y9⟩
   have hn9:[zz9].map Nl.n=[N0]:=by rw[List.map_cons,zn9];rfl
   have XN:=Hd hns
   have HN9:=Hd hn9
   clear hns hn9 o6 o7 o8 o9 m9 zn8 zn9 y9
   have bm:=below_new (Below.refl w5.heap.size w5) (.map #[] 0)
   have y1:=(HV.out.later bm).cell (i:=1) rfl
   have HM0:=Hd (World.ownsMap_made (H:=Unit) w5 Tryz.prog 3 unitElem)
   have HV6:=Hd (HV.out.later bm)
   have XW6:=Hd (XW.out.later bm)
   have XN6:=Hd (XN.out.later bm)
   have HB6:=Hd (below_on HB3.out bm)
   obtain⟨mb,hmb⟩:∃mb,w5.heap.size=mb:=⟨_,rfl⟩
   rw[hmb]at HM0
   have HMB:=Hd (show w.heap.size≤mb from by have:=HB3.out.size;omega)
   clear HV XW XN HB3 bm C2 C3 C4
   have hmm :=@run_makeMap Tryz.prog
   go_wp2_with fail
   obtain⟨w6,hw6⟩:∃x,w5.alloc (.map #[] 0)=x:=⟨_,rfl⟩
   rw[hw6]at HV6 XW6 XN6 HB6 HM0 y1
   simp only[hw6]
   clear y1 hmm
   go_loopw [7,36] (fun s7 s36 wr=>∃(k m:Nat) (D:DataW Unit) (L:List Nl),k≤zs.length∧s36 = .int .i64 (k:Int)∧L.map Nl.n=N0::OT k∧OwnNs wr w.heap.size 40 s7 L∧wr.ownsMap Tryz.prog 3 unitElem mb m D∧m≤k*256∧IsMap D∧(∀p:Nat,p<zs.length→(Maps.has D (.int .i64 (p:Int))=true↔TD k p=true))∧Blk wr g 27 #[.slice K kn.length ck,.slice Z zs.length cz,.slice H hs.length ch,.slice B bs.length cb,.int .i64 room]∧OneL wr WA wc WL∧Below w.heap.size w wr) (fun _ s36 _=>zs.length-(intOf s36).toNat)
   case atStart=>exact⟨0,0,.map [],[zz9],Nat.zero_le _,rfl,by rw[HN9.out,HOT0.out],XN6.out,HM0.out,Nat.zero_le _,⟨_,rfl⟩,(fun p _=>by rw[HTD0.out];exact⟨fun h=>by simp[Maps.has]at h,fun h=>by cases h⟩),HV6.out,XW6.out,HB6.out⟩
   case round=>
    obtain⟨k,m,D,L,hk,rfl,hL,hN,hM,hm,hD,hT,hV,hW,hbw⟩:=hrel
    obtain⟨VN,nc,hvv,-,-,-,-⟩:=own_form hN.row
    subst hvv
    by_cases hlt:k<zs.length
    rotate_left
    ·
     obtain rfl:k=zs.length:=by omega
     obtain⟨A2,c2',e2,hO⟩:=hN.one
     have hgeN:=own_ge hN.row
     rw[hL]at hO
     have HLL:=Hd (show L.length=(N0::OT zs.length).length from by rw[←hL,List.length_map])
     have HGE:=Hd hgeN
     injection e2 with e3 _ e4
     subst e3 e4
     have HO:=Hd hO
     have BW:=Hd hbw
     clear hL hN hM hD hT hV hW hbw hO hgeN
     go_wp2
     go_ret2
     refine⟨VN,nc,by rw[←HLL.out];rfl,HO.out,(fun b off e9=>HGE.out b (by rw[e9];rfl)),BW.out⟩
    have hne:zs≠[]:=fun e=>by subst e;simp at hlt
    have hz:=HZ.out.later hbw
    obtain⟨b,off,hA,hc⟩:=hz.at hne
    obtain⟨x,hx⟩:∃x,zs[k]?=some x:=⟨zs[k],List.getElem?_eq_getElem hlt⟩
    obtain⟨e0,e1,e2⟩:=hc k x hx
    have hxl:=hz.each x (List.mem_of_getElem? hx)
    have hzx:=HZX.out k x hx
    have hi0:(0:Int)≤(k:Int):=by omega
    have hi1:(k:Int)<(zs.length:Int):=by omega
    have hk256:=HZ256.out
    obtain⟨lo,hi,X,cx,l⟩:=x
    dsimp only at e0 e1 e2 hxl hzx
    have HZ':=HZ
    subst hA
    have bx:=below_new (Below.refl wr.heap.size wr) (.cells #[.int .i64 lo,.int .i64 hi,.slice X l.length cx] 99)
    have hX:=Blk.new wr 99 #[.int .i64 lo,.int .i64 hi,.slice X l.length cx]
    have hMx:=map_later hM bx
    have hmx:mb<(wr.alloc (.cells #[.int .i64 lo,.int .i64 hi,.slice X l.length cx] 99)).heap.size:=hMx.lt
    obtain⟨W1,hW1⟩:∃W1,wr.alloc (.cells #[.int .i64 lo,.int .i64 hi,.slice X l.length cx] 99)=W1:=⟨_,rfl⟩
    rw[hW1]at bx hX hMx
    obtain⟨gx,hgx⟩:∃gx,wr.heap.size=gx:=⟨_,rfl⟩
    obtain⟨rt,hlk,hrt0⟩:=look_set hMx Tryz.underlying134 Tryz.underlying3 (zeroUnit W1) (k:Int)
    have hrt:=hrt0 (WalkArith.wf_i64 (by omega))
    have hrd:rt=TD k k:=by
     rw[hrt]
     exact Bool.eq_iff_iff.2 (hT k hlt)
    have HRD:=Hd hrd
    have bz:=below_new (Below.refl W1.heap.size W1) (.cells #[] 135)
    have bzx:=below_on bx bz
    have HX:=Hd (hX.later bz)
    have HM:=Hd (map_later hMx bz)
    have HN:=Hd (hN.later bzx)
    have HVr:=Hd (hV.later bzx)
    have HWr:=Hd (hW.later bzx)
    have HXL:=Hd (hxl.later bzx)
    have BW:=Hd (below_on hbw bzx)
    have HL:=Hd hL
    have HD:=Hd hD
    have HT:=Hd hT
    have HZX1:=Hd hzx
    have HW1:=Hd hW1
    have HTS:=Hd (fun p=>HTD.out k p)
    have HOS:=Hd (HOT.out k)
    have HES:=Hd (HEM.out k)
    rw[hgx]at HX
    have HGX:=Hd hgx
    clear hgx
    obtain⟨W2,hW2⟩:∃W2,W1.alloc (.cells #[] 135)=W2:=⟨_,rfl⟩
    rw[hW2]at HX HM HN HVr HWr HXL BW
    have HW2:=Hd hW2
    have p0:=HX.out.cell (i:=0) rfl
    have p1:=HX.out.cell (i:=1) rfl
    clear hc hz hx hxl hzx hL hN hM hD hT hV hW hbw bx hX hMx hrt hrt0 hrd bz bzx hW1 hW2 hne hmx
    cases rt with
    |true=>
     have FL:=Hd (show OT (k+1)=OT k from by rw[HOS.out,HES.out,←HRD.out];simp)
     have FT:=Hd (show ∀p,TD (k+1) p=TD k p from fun p=>by
      rw[HTS.out p]
      cases h1:TC k with
      |false=>simp
      |true=>
       by_cases h2:VCt k=VCt p
       ·rw[HTE.out k p h2 HRD.out.symm];simp
       ·simp[h2])
     clear HRD
     go_upto_region 9 with (fail)
     rw[HW1.out]
     rw[HGX.out]
     clear HW1 e0 e1 e2
     go_wp2_with fail
     go_roundw
     case rel=>exact⟨k+1,m,D,L,by omega,by go_num,by rw[FL.out];exact HL.out,by rw[←HW2.out]at HN;exact HN.out,by rw[←HW2.out]at HM;exact HM.out,by omega,HD.out,(fun p hp=>by rw[FT.out p];exact HT.out p hp),by rw[←HW2.out]at HVr;exact HVr.out,by rw[←HW2.out]at HWr;exact HWr.out,by rw[←HW2.out]at BW;exact BW.out⟩
     case measure=>simp[intOf];omega
    |false=>
    go_upto_region 9 with (fail)
    rw[HW1.out]
    rw[HGX.out]
    clear HW1 e0 e1 e2
    go_upto_region 10 with (fail)
    rw[HW2.out]
    clear HW2 hlk
    go_wp2_with fail
    refine(vdalone_any lo hi W2).mono ?_
    rintro e w7 ⟨ga,rfl,hga,b7⟩
    have NT:=Hd (C5.out k lo hi X cx l WA wc (some ⟨ga,0,none⟩) 1 w7 HZX1.out (HWr.out.later b7) hga)
    replace HX:=Hd (HX.out.later b7)
    replace HM:=Hd (map_later HM.out b7)
    replace HN:=Hd (HN.out.later b7)
    replace HVr:=Hd (HVr.out.later b7)
    replace HWr:=Hd (HWr.out.later b7)
    replace HXL:=Hd (HXL.out.later b7)
    replace BW:=Hd (below_on BW.out b7)
    clear p0 p1 hga b7
    go_wp2_with fail
    refine NT.out.mono ?_
    rintro e w8 ⟨rfl,b8⟩
    replace HX:=Hd (HX.out.later b8)
    replace HM:=Hd (map_later HM.out b8)
    replace HN:=Hd (HN.out.later b8)
    replace HVr:=Hd (HVr.out.later b8)
    replace HWr:=Hd (HWr.out.later b8)
    replace HXL:=Hd (HXL.out.later b8)
    replace BW:=Hd (below_on BW.out b8)
    clear NT b8
    cases htc:TC k with
    |false=>
     have FL:=Hd (show OT (k+1)=OT k from by rw[HOS.out,HES.out,htc];simp)
     have FT:=Hd (show ∀p,TD (k+1) p=TD k p from fun p=>by rw[HTS.out p,htc];simp)
     clear HRD htc
     go_wp2_with fail
     go_roundw
     case rel=>exact⟨k+1,m,D,L,by omega,by go_num,by rw[FL.out];exact HL.out,HN.out,HM.out,by omega,HD.out,(fun p hp=>by rw[FT.out p];exact HT.out p hp),HVr.out,HWr.out,BW.out⟩
     case measure=>simp[intOf];omega
    |true=>
    have FL:=Hd (show OT (k+1)=OT k++[PT k] from by rw[HOS.out,HES.out,htc,←HRD.out];simp)
    have FT:=Hd (show ∀p,TD (k+1) p=(TD k p||decide (VCt k=VCt p)) from fun p=>by rw[HTS.out p,htc];simp)
    have HAS:=Hd (fun p=>HAL.out k p)
    have HAN:=Hd (fun p=>HALn.out k p)
    have HVK:=Hd (show VCt k=l from HZX1.out.2.2)
    have y1:=HVr.out.cell (i:=1) rfl
    clear HRD htc HTS HOS HES
    have HWZ:=Hd BW.out.size
    go_wp2_with fail
    go_loopw [13,59] (fun s13 s59 wr=>∃(p m':Nat) (D':DataW Unit),p≤zs.length∧s59 = .int .i64 (p:Int)∧wr.ownsRow w8.heap.size 97 2 s13 (AL k p).length (stCells (AL k p))∧wr.ownsMap Tryz.prog 3 unitElem mb m' D'∧m'≤m+p∧IsMap D'∧(∀u:Nat,u<zs.length→(Maps.has D' (.int .i64 (u:Int))=true↔(TD k u=true∨(u<p∧VCt k=VCt u))))∧Vd.KeepM w8 wr∧Below w.heap.size w wr) (fun _ s59 _=>zs.length-(intOf s59).toNat)
    case atStart=>exact⟨0,m,D,Nat.zero_le _,rfl,by rw[HAL0.out k];exact⟨rfl,.inl ⟨rfl,rfl⟩⟩,HM.out,by omega,HD.out,(fun u hu=>by rw[HT.out u hu];exact⟨fun h =>.inl h,fun h=>h.elim id (fun h=>absurd h.1 (by omega))⟩),Vd.KeepM.refl _,BW.out⟩
    case round=>
     obtain⟨p,m',D',hp,rfl,hR,hM',hm',hD',hT',hK',hbw'⟩:=hrel
     obtain⟨VR,rc,hvv,-,-,-,-⟩:=own_form hR
     subst hvv
     by_cases hpl:p<zs.length
     ·have hz:=HZ'.out.later hbw'
      obtain⟨b',off',hA',hc⟩:=hz.at (fun e=>by subst e;simp at hpl)
      injection hA' with hA'
      injection hA' with hA1 hA2 _
      subst hA1 hA2
      obtain⟨y,hy⟩:∃y,zs[p]?=some y:=⟨zs[p],List.getElem?_eq_getElem hpl⟩
      obtain⟨e0,e1,e2⟩:=hc p y hy
      have hyl:=hz.each y (List.mem_of_getElem? hy)
      have hzy:=HZX.out p y hy
      have hj0:(0:Int)≤(p:Int):=by omega
      have hj1:(p:Int)<(zs.length:Int):=by omega
      obtain⟨lo2,hi2,Y,cy,r⟩:=y
      dsimp only at e0 e1 e2 hyl hzy
      have bx:=below_new (Below.refl wr.heap.size wr) (.cells #[.int .i64 lo2,.int .i64 hi2,.slice Y r.length cy] 99)
      have hY:=Blk.new wr 99 #[.int .i64 lo2,.int .i64 hi2,.slice Y r.length cy]
      have hXk:=(hK'.blk HX.out).later bx
      have hXk2:=(hK'.oneL HXL.out).later bx
      obtain⟨W3,hW3⟩:∃W3,wr.alloc (.cells #[.int .i64 lo2,.int .i64 hi2,.slice Y r.length cy] 99)=W3:=⟨_,rfl⟩
      rw[hW3]at bx hY hXk hXk2
      have NQ:=Hd (veq_any Y X cy cx r l W3 (hyl.later bx) hXk2)
      have HY:=Hd hY
      have HR3:=Hd (own_later hR bx)
      have HM3:=Hd (map_later hM' bx)
      have HK3:=Hd (hK'.later bx)
      have BW3:=Hd (below_on hbw' bx)
      have HD3:=Hd hD'
      have HT3:=Hd hT'
      have HZY:=Hd hzy
      have HW3:=Hd hW3
      have q2:=hY.cell (i:=2) rfl
      have x2:=hXk.cell (i:=2) rfl
      clear hz hc hy hyl hzy bx hY hXk hXk2 hW3 hR hM' hK' hbw' hD' hT'
      go_upto_region 15 with (fail)
      rw[HW3.out]
      clear HW3 e0 e1 e2
      go_wp2_with fail
      refine NQ.out.mono ?_
      rintro e w9 ⟨rfl,b9⟩
      replace HY:=Hd (HY.out.later b9)
      replace HR3:=Hd (own_later HR3.out b9)
      replace HM3:=Hd (map_later HM3.out b9)
      replace HK3:=Hd (HK3.out.later b9)
      replace BW3:=Hd (below_on BW3.out b9)
      have HAP:=Hd (HAS.out p)
      have HVP:=Hd (show VCt p=r from HZY.out.2.2)
      have hanl:=HAN.out p
      clear NQ b9 q2 x2
      by_cases heq:r=l
      ·rw[decide_eq_true heq]
       have FA:=Hd (show AL k (p+1)=AL k p++[(lo2,hi2)] from by rw[HAP.out,if_pos (by rw[HVP.out,HVK.out,heq])];rw[show SP p=(lo2,hi2) from by rw[←HZY.out.1,←HZY.out.2.1]])
       have hkey:keyOf Tryz.prog 3 (.int .i64 (p:Int))=some (.int .i64 (p:Int)):=keyOf_int_mk Tryz.underlying3 (WalkArith.wf_i64 (by omega))
       have hM4:=HM3.out
       have hkm:m'<maxLen:=by unfold maxLen;omega
       have FQ:=Hd (show VCt k=VCt p from by rw[HVP.out,HVK.out,heq])
       clear heq HAP
       go_upto_region 17 with (at_mapUpdate;refine wpList_mapUpdate_own _ rfl _ _ _ 134 rfl 3 135 lawObj Tryz.underlying134 (unitElem (H:=Unit)) mb m' _ rfl hM4 hkm _ _ _ rfl rfl hkey _ [] unitElem_mk ?_;intro w10 hM5 hg5)
       have hmo:∃o:Obj,w9.heap[mb]?=some o∧o.isCells=false:=by
        obtain⟨es,clock,hh,-⟩:=hM4
        exact⟨_,hh,rfl⟩
       have HM5:=Hd hM5
       have HR5:=Hd (own_stays HR3.out (fun j hj=>hg5.block j (own_lt HR3.out j hj) (fun e=>by
        injection e with e
        subst e
        obtain⟨o,ho,hoc⟩:=hmo
        rcases HR3.out.2 with ⟨hv,_⟩|⟨g3,cap,cur,hv,_,hB3,_⟩
        ·rw[hv]at hj;cases hj
        ·rw[hv]at hj
         injection hj with hj
         subst hj
         rw[ho]at hB3
         cases hB3
         cases hoc)))
       have HY5:=Hd (Vd.KeepM.blk ((Vd.KeepM.refl w9).grown hg5 (fun j e=>by cases e;exact .inr hmo)) HY.out)
       have HK5:=Hd (HK3.out.grown hg5 (fun j e=>by cases e;exact .inr hmo))
       have BW5:=Hd (BW3.out.grown hg5 BW3.out.size (fun j hj=>by cases hj;exact HMB.out))
       have s0:=HY5.out.cell (i:=0) rfl
       have s1:=HY5.out.cell (i:=1) rfl
       clear hM4 hM5 hg5 hmo HM3 HR3 HY HK3 BW3
       have bn:=below_new (Below.refl w10.heap.size w10) (.cells #[.int .i64 lo2,.int .i64 hi2] 97)
       have hrow:=own_later HR5.out bn
       have hlies:Lies (w10.alloc (.cells #[.int .i64 lo2,.int .i64 hi2] 97)) (some ⟨w10.heap.size,0,none⟩) (stCells [(lo2,hi2)]):=fun _=>⟨w10.heap.size,0,rfl,fun j u hu=>by
        rw[Nat.zero_add]
        exact(Blk.new w10 97 #[.int .i64 lo2,.int .i64 hi2]).cell (by simpa[stCells] using hu)⟩
       have hszw:w8.heap.size≤(w10.alloc (.cells #[.int .i64 lo2,.int .i64 hi2] 97)).heap.size:=Nat.le_trans HK5.out.1 bn.size
       have HK6:=Hd (HK5.out.later bn)
       have BW6:=Hd (below_on BW5.out bn)
       have HM6:=Hd (map_later HM5.out bn)
       have hw8:=HWZ.out
       clear bn HM5 HR5 HK5 BW5
       go_wp2_with (at_builtin;refine Go.Proofs.YtjlfehpockfkdaaGreat.wpList_append_lies _ rfl _ _ 28 rfl w8.heap.size 97 j0 (.agg #[.int .i64 0,.int .i64 0]) 2 16 Tryz.underlying28 hJ0 hy0 hy1 hy2 rfl (by decide) _ (AL k p).length (stCells (AL k p)) rfl hrow (some ⟨w10.heap.size,0,none⟩) 1 1 (fun h=>by cases h) (stCells [(lo2,hi2)]) rfl rfl hlies (by intro u hu;simp[stCells]at hu;rcases hu with rfl|rfl<;>rfl) ?h63 ?hbytes hszw ?_)
       case h63=>unfold maxLen;omega
       case hbytes=>omega
       intro v' wz hownz hgz _
       have hmo:∃o:Obj,(w10.alloc (.cells #[.int .i64 lo2,.int .i64 hi2] 97)).heap[mb]?=some o∧o.isCells=false:=by
        obtain⟨es,clock,hh,-⟩:=HM6.out
        exact⟨_,hh,rfl⟩
       have hMz:=Vd.map_stays HM6.out (hgz.block mb HM6.out.lt (fun e=>by
        obtain⟨o,ho,hoc⟩:=hmo
        rcases hrow.2 with ⟨hv,_⟩|⟨g3,cap,cur,hv,_,hB3,_⟩
        ·rw[hv]at e;cases e
        ·rw[hv]at e
         injection e with e
         have e:mb=g3:=e
         subst e
         rw[ho]at hB3
         cases hB3
         cases hoc))
       have hKz:=HK6.out.grown hgz (fun j e =>.inl (own_ge hrow j e))
       have hBz:=BW6.out.grown hgz BW6.out.size (fun j e=>Nat.le_trans hw8 (own_ge hrow j e))
       rw[show stCells (AL k p)++stCells [(lo2,hi2)]=stCells (AL k (p+1)) from by rw[FA.out,stCells_append],show(AL k p).length+1=(AL k (p+1)).length from by rw[FA.out,List.length_append];rfl]at hownz
       obtain⟨gv,capv,rfl⟩:=own_len hownz (by rw[FA.out];simp)
       have HQ:=Hd (And.intro hownz (And.intro hMz (And.intro hKz hBz)))
       clear hownz hMz hKz hBz hgz hrow hlies hszw hmo HM6 HK6 BW6 s0 s1
       go_wp2_with fail
       go_roundw
       case rel=>
        refine⟨p+1,m'+1,_,by omega,by go_num,HQ.out.1,HQ.out.2.1,by omega,HD3.out.put _ _,fun u hu =>?_,HQ.out.2.2.1,HQ.out.2.2.2⟩
        by_cases e:u=p
        ·subst e
         rw[has_put_same (k :=.int .i64 (u:Int)) HD3.out (by simp[WideAt.IsKeyLit])]
         exact⟨fun _ =>.inr ⟨by omega,FQ.out⟩,fun _=>rfl⟩
        ·rw[has_put_other (fun h=>e (by cases h;rfl)),HT3.out u hu]
         constructor
         ·rintro (h|⟨h1,h2⟩)
          ·exact .inl h
          ·exact .inr ⟨by omega,h2⟩
         ·rintro (h|⟨h1,h2⟩)
          ·exact .inl h
          ·exact .inr ⟨by omega,h2⟩
       case measure=>simp[intOf];omega
      ·rw[decide_eq_false heq]
       have FA:=Hd (show AL k (p+1)=AL k p from by rw[HAP.out,if_neg (by rw[HVP.out,HVK.out];exact heq),List.append_nil])
       have FQ:=Hd (show VCt k≠VCt p from by rw[HVP.out,HVK.out];exact fun h=>heq h.symm)
       have HQ:=Hd (And.intro HR3.out (And.intro HM3.out (And.intro HK3.out BW3.out)))
       clear heq HAP HY
       go_wp2_with fail
       go_roundw
       case rel=>
        refine⟨p+1,m',D',by omega,by go_num,by rw[FA.out];exact HQ.out.1,HQ.out.2.1,by omega,HD3.out,fun u hu =>?_,HQ.out.2.2.1,HQ.out.2.2.2⟩
        rw[HT3.out u hu]
        constructor
        ·rintro (h|⟨h1,h2⟩)
         ·exact .inl h
         ·exact .inr ⟨by omega,h2⟩
        ·rintro (h|⟨h1,h2⟩)
         ·exact .inl h
         ·refine .inr ⟨?_,h2⟩
          rcases Nat.lt_or_ge u p with h3|h3
          ·exact h3
          ·obtain rfl:u=p:=by omega
           exact absurd h2 FQ.out
       case measure=>simp[intOf];omega
     ·obtain rfl:p=zs.length:=by omega
      have hXk:=hK'.blk HX.out
      have hVk:=hK'.blk HVr.out
      have hWk:=hK'.oneL HWr.out
      have hlk:=hK'.oneL HXL.out
      have hNk:=hK'.ns HN.out
      obtain⟨ra,rcc,re,hRO⟩:=OneL.of_own hR
      injection re with re1 _ re2
      subst re1 re2
      have HX9:=Hd hXk
      have HV9:=Hd hVk
      have HW9:=Hd hWk
      have HL9:=Hd (show OneL wr X cx (VCt k) from by rw[HVK.out];exact hlk)
      have HN9':=Hd hNk
      have HR9:=Hd hRO
      have HM9:=Hd hM'
      have HD9:=Hd hD'
      have HT9:=Hd hT'
      have BW9:=Hd hbw'
      have HMM:=Hd hm'
      have HLE:=Hd (show L.length≤k+1 from by have h1:=congrArg List.length HL.out;rw[List.length_map,List.length_cons]at h1;have:=HOTn.out k;omega)
      clear hXk hVk hWk hlk hNk hR hRO hM' hD' hT' hK' hbw' HX HVr HWr HXL HN HM HT BW hm'
      have z0:=HX9.out.cell (i:=2) rfl
      have V_0:=HV9.out.cell (i:=0) rfl
      have V_1:=HV9.out.cell (i:=1) rfl
      have V_2:=HV9.out.cell (i:=2) rfl
      have V_3:=HV9.out.cell (i:=3) rfl
      have V_4:=HV9.out.cell (i:=4) rfl
      go_upto_region 19 with (fail)
      have HBR:=Hd (Below.refl wr.heap.size wr)
      have HV:=HV9
      refine wp_region_facts 9 (by kernel_rfl) (by kernel_rfl)
       (fun v=>{ tmps:=#[.agg #[.slice K kn.length ck,.slice (some ⟨b,off,none⟩) zs.length cz,.slice H hs.length ch,.slice B bs.length cb,.int .i64 room],.slice I it.length ci,.pointer (some ⟨g,0,none⟩),undef,.slice none 0 0,.int .i64 0,.slice WA WL.length wc,.slice VN L.length nc,.map (some mb),.int .i64 (k:Int),.pointer (some ⟨gx,0,none⟩),.pointer (some ⟨W1.heap.size,0,none⟩),.bool false,.slice VR (AL k zs.length).length rc,u14,u15,.agg #[.slice K kn.length ck,.slice (some ⟨b,off,none⟩) zs.length cz,.slice H hs.length ch,.slice B bs.length cb,.int .i64 room],.bool true,.bool false,.slice I it.length ci,.slice (some ⟨w1.heap.size,0,none⟩) 1 1,.slice WA WL.length wc,.agg #[.slice K kn.length ck,.slice (some ⟨b,off,none⟩) zs.length cz,.slice H hs.length ch,.slice B bs.length cb,.int .i64 room],.pointer (some ⟨g,0,none⟩),.slice K kn.length ck,.slice WA WL.length wc,.pointer (some ⟨g,1,none⟩),.slice (some ⟨b,off,none⟩) zs.length cz,.slice A6 bl.length c6,.slice A7 L0.length c7,.agg #[.slice zz8.S zz8.n.s.length zz8.cs,.slice zz8.E zz8.n.e.length zz8.ce,.slice zz8.B zz8.n.b.length zz8.cb,.slice zz8.V zz8.n.ws.length zz8.cv],.slice (some ⟨g9,0,none⟩) 1 1,.map (some mb),.pointer (some ⟨g,1,none⟩),.slice (some ⟨b,off,none⟩) zs.length cz,.int .i64 (zs.length:Int),.int .i64 (k:Int),.bool true,.int .i64 (k:Int),.pointer (some ⟨b,off+k*3,none⟩),.agg #[.int .i64 lo,.int .i64 hi,.slice X l.length cx],.tuple #[.agg #[],.bool false],.map (some mb),.int .i64 (k:Int),.tuple #[.agg #[],.bool false],.agg #[],.bool false,.bool false,.bool false,.slice WA WL.length wc,.pointer (some ⟨gx,0,none⟩),.agg #[.int .i64 lo,.int .i64 hi],.slice (some ⟨ga,0,none⟩) 1 1,.bool true,.bool false,.bool false,.pointer (some ⟨g,1,none⟩),.slice (some ⟨b,off,none⟩) zs.length cz,.int .i64 (zs.length:Int),.int .i64 (zs.length:Int),.bool false,u61,u62,u63,u64,u65,u66,u67,u68,u69,u70,u71,u72,u73,u74,u75,u76,u77,v 0,v 1,v 2,v 3,v 4,v 5,v 6,v 7,v 8,u87,u88,undef],defers:=[] }) (fun i=>match i with|0=>u78|1=>u79|2=>u80|3=>u81|4=>u82|5=>u83|6=>u84|7=>u85|8=>u86|_=>undef)
       (fun i x wx=>match i with
        |0=>x = .slice VN L.length nc
        |1=>x = .agg #[.slice K kn.length ck,.slice (some ⟨b,off,none⟩) zs.length cz,.slice H hs.length ch,.slice B bs.length cb,.int .i64 room]
        |2=>x = .pointer (some ⟨gx,2,none⟩)
        |3=>x = .slice X l.length cx
        |4=>x = .slice WA WL.length wc
        |5=>x = .slice VR (AL k zs.length).length rc
        |6=>∃Ax cx,x = .slice Ax (OBL k).length cx∧OneL wx Ax cx (OBL k)
        |7=>∃zz:Nl,x = .agg #[.slice zz.S zz.n.s.length zz.cs,.slice zz.E zz.n.e.length zz.ce,.slice zz.B zz.n.b.length zz.cb,.slice zz.V zz.n.ws.length zz.cv]∧zz.n=(PT k)∧zz.At wx
        |8=>∃(gx:Nat) (zz:Nl),x = .slice (some ⟨gx,0,none⟩) 1 1∧Blk wx gx 40 #[.slice zz.S zz.n.s.length zz.cs,.slice zz.E zz.n.e.length zz.ce,.slice zz.B zz.n.b.length zz.cb,.slice zz.V zz.n.ws.length zz.cv]∧w.heap.size≤gx∧zz.n=(PT k)∧zz.At wx
        |_=>True)
       (fun w1 w2=>Below w1.heap.size w1 w2) (fun h1 h2=>below_on h1 h2) (fun _=>Below.refl _ _) (Below.drew (Below.refl _ _)) ?stabQ ?stepQ ?doneQ
      case stabQ=>
       rintro i x w1 w2 h hb
       match i,h with
       |0,h=>exact h
       |1,h=>exact h
       |2,h=>exact h
       |3,h=>exact h
       |4,h=>exact h
       |5,h=>exact h
       |6,h=>obtain⟨Ax,cx,ex,hx⟩:=h;exact⟨Ax,cx,ex,hx.later hb⟩
       |7,h=>obtain⟨zz,e9,n9,h9⟩:=h;exact⟨zz,e9,n9,NoteAt.later h9 hb⟩
       |8,h=>obtain⟨gx,zz,e9,b9,m9,n9,h9⟩:=h;exact⟨gx,zz,e9,b9.later hb,m9,n9,NoteAt.later h9 hb⟩
       |i+9,_=>trivial
      case stepQ=>
       intro i hi v w' hb hd
       match i,hi with
       |0,_=>
        refine wpOp_oneH rfl fun KK HKK =>?_
        clear hd
        go_wp2
        exact HKK.out _ _ ⟨_,(by simp[upd];done),Below.refl _ _,rfl⟩
       |1,_=>
        refine wpOp_oneH rfl fun KK HKK =>?_
        clear hd
        have q0:=cell_later hb V_0
        have q1:=cell_later hb V_1
        have q2:=cell_later hb V_2
        have q3:=cell_later hb V_3
        have q4:=cell_later hb V_4
        go_wp2
        exact HKK.out _ _ ⟨_,(by simp[upd];done),Below.refl _ _,rfl⟩
       |2,_=>
        refine wpOp_oneH rfl fun KK HKK =>?_
        clear hd
        go_wp2
        exact HKK.out _ _ ⟨_,(by simp[upd];done),Below.refl _ _,rfl⟩
       |3,_=>
        have h2:v 2=_:=hdx hd 2 (by kernel_rfl)
        refine wpOp_oneH rfl fun KK HKK =>?_
        clear hd
        rw[h2]
        have q0:=cell_later hb z0
        go_wp2
        exact HKK.out _ _ ⟨_,(by simp[upd,h2];done),Below.refl _ _,rfl⟩
       |4,_=>
        refine wpOp_oneH rfl fun KK HKK =>?_
        clear hd
        go_wp2
        exact HKK.out _ _ ⟨_,(by simp[upd];done),Below.refl _ _,rfl⟩
       |5,_=>
        refine wpOp_oneH rfl fun KK HKK =>?_
        clear hd
        go_wp2
        exact HKK.out _ _ ⟨_,(by simp[upd];done),Below.refl _ _,rfl⟩
       |6,_=>
        have h4:v 4=_:=hdx hd 4 (by kernel_rfl)
        have h5:v 5=_:=hdx hd 5 (by kernel_rfl)
        refine wpOp_oneH rfl fun KK HKK =>?_
        clear hd
        rw[h4,h5]
        have NX:=Hd (C6.out k WA wc VR rc w' (HW9.out.later hb) (HR9.out.later hb))
        go_wp2_with fail
        refine NX.out.mono ?_
        rintro e w'' ⟨Ax,cx,rfl,hB,b⟩
        go_wp2
        exact HKK.out _ _ ⟨_,(by simp[upd,h4,h5];done),b,Ax,cx,rfl,hB⟩
       |7,_=>
        have h1:v 1=_:=hdx hd 1 (by kernel_rfl)
        have h3:v 3=_:=hdx hd 3 (by kernel_rfl)
        obtain⟨A6,c6,h6,o6⟩:=hd 6 (List.elem_iff.1 (by kernel_rfl))
        refine wpOp_oneH rfl fun KK HKK =>?_
        clear hd
        rw[h1,h3,h6]
        have NX:=Hd (C7.out k X cx A6 c6 w' (below_on BW9.out hb) (HL9.out.later hb) o6)
        rw[HVK.out]at NX
        clear o6
        go_wp2_with fail
        refine NX.out.mono ?_
        rintro e w'' ⟨NS,NE,NB,NV,ns,ne,nb,nv,rfl,hNA,b⟩
        unfold noteCells
        dsimp only
        go_wp2
        exact HKK.out _ _ ⟨_,(by simp[upd,h1,h3,h6];done),b,⟨NS,NE,NB,NV,ns,ne,nb,nv,(PT k)⟩,rfl,rfl,hNA⟩
       |8,_=>
        obtain⟨zz7,h7,zn7,o7⟩:=hd 7 (List.elem_iff.1 (by kernel_rfl))
        refine wpOp_oneH rfl fun KK HKK =>?_
        clear hd
        rw[h7]
        have ZN:=Hd zn7
        clear zn7
        have bn:=below_new (Below.refl w'.heap.size w') (.cells #[.slice zz7.S zz7.n.s.length zz7.cs,.slice zz7.E zz7.n.e.length zz7.ce,.slice zz7.B zz7.n.b.length zz7.cb,.slice zz7.V zz7.n.ws.length zz7.cv] 40)
        have HBN:=Hd (Blk.new w' 40 #[.slice zz7.S zz7.n.s.length zz7.cs,.slice zz7.E zz7.n.e.length zz7.ce,.slice zz7.B zz7.n.b.length zz7.cb,.slice zz7.V zz7.n.ws.length zz7.cv])
        have HZN:=Hd (NoteAt.later o7 bn)
        have hsz:=(below_on BW9.out hb).size
        go_wp2
        exact HKK.out _ _ ⟨_,(by simp[upd,h7];done),bn,_,zz7,rfl,HBN.out,hsz,ZN.out,HZN.out⟩
       |k+9,hk=>exact absurd hk (by omega)
      case doneQ=>
       intro v w5 hb hf
       have h0:v 0=_:=hf 0 (by decide)
       have h1:v 1=_:=hf 1 (by decide)
       have h2:v 2=_:=hf 2 (by decide)
       have h3:v 3=_:=hf 3 (by decide)
       have h4:v 4=_:=hf 4 (by decide)
       have h5:v 5=_:=hf 5 (by decide)
       obtain⟨A6,c6,h6,o6⟩:=hf 6 (by decide)
       obtain⟨zz7,h7,zn7,o7⟩:=hf 7 (by decide)
       obtain⟨g8,zz8,h8,o8,m8,zn8,y8⟩:=hf 8 (by decide)
       clear hf
       rw[h0,h1,h2,h3,h4,h5,h6,h7,h8]
       clear V_0 V_1 V_2 V_3 V_4
       replace HV:=Hd (HV.out.later hb)
       have HB1:=Hd (below_on HBR.out hb)
       clear HBR
       clear hb
       have hbq:=HB1.out
       have HZ8:=Hd (And.intro y8 (And.intro zn8 (And.intro o8 m8)))
       have XN:=Hd (HN9'.out.later hbq)
       have XM:=Hd (map_later HM9.out hbq)
       have XV:=Hd (HV9.out.later hbq)
       have XWL:=Hd (HW9.out.later hbq)
       have XB:=Hd (below_on BW9.out hbq)
       have hwz:=XB.out.size
       clear hbq o6 o7 o8 m8 zn7 zn8 y8 z0
       have HNL:=Hd (show Lies w5 (some ⟨g8,0,none⟩) (Nl.cell zz8) from fun _=>⟨g8,0,rfl,fun j u hu=>by rw[Nat.zero_add];exact HZ8.out.2.2.1.cell (by simpa[Nl.cell] using hu)⟩)
       have hle:=HLE.out
       have hk2:=HZ256.out
       simp only[List.drop_succ_cons,List.drop_zero]
       go_wp2_with (at_builtin;refine Go.Proofs.YtjlfehpockfkdaaGreat.wpList_append_flat _ rfl _ _ 57 rfl w.heap.size 40 i0 (.agg #[.slice none 0 0,.slice none 0 0,.slice none 0 0,.slice none 0 0]) 4 96 Tryz.underlying57 hI0 hz0 hz1 hz2 rfl (by decide) rfl _ L.length (Nl.cells L) rfl XN.out.row XN.out.flat (some ⟨g8,0,none⟩) 1 1 (fun h=>by cases h) (Nl.cell zz8) rfl rfl HNL.out (by intro u hu;simp[Nl.cell]at hu;rcases hu with rfl|rfl|rfl|rfl<;>rfl) (by intro u hu;simp[Nl.cell]at hu;rcases hu with rfl|rfl|rfl|rfl<;>exact⟨rfl,rfl⟩) (Nl.cells_flat L) ?h63 ?hbytes hwz ?_)
       case h63=>unfold maxLen;omega
       case hbytes=>omega
       intro v' wz hownz hgz hfz hmz
       try rw[←hgg]at hownz
       obtain⟨gv,capv,rfl⟩:=ownsRow_succ hownz
       have hmo:∃o:Obj,w5.heap[mb]?=some o∧o.isCells=false:=by
        obtain⟨es,clock,hh,-⟩:=XM.out
        exact⟨_,hh,rfl⟩
       have hMz:=Vd.map_stays XM.out (hgz.block mb XM.out.lt (fun e=>by
        obtain⟨o,ho,hoc⟩:=hmo
        rcases XN.out.row.2 with ⟨hv,_⟩|⟨g3,cap,cur,hv,_,hB3,_⟩
        ·rw[hv]at e;cases e
        ·rw[hv]at e
         injection e with e
         have e:mb=g3:=e
         subst e
         rw[ho]at hB3
         cases hB3
         cases hoc))
       have hVz:Blk wz g 27 #[.slice K kn.length ck,.slice (some ⟨b,off,none⟩) zs.length cz,.slice H hs.length ch,.slice B bs.length cb,.int .i64 room]:=(hgz.block _ XV.out.lt (fun e=>own_other XN.out.row XV.out (by decide) _ e.symm rfl)).trans XV.out
       have hWz:OneL wz WA wc WL:=XWL.out.mild hmz
       have hBz:=XB.out.grown hgz XB.out.size (fun j e=>own_ge XN.out.row j e)
       have hNz:OwnNs wz w.heap.size 40 (.slice (some ⟨gv,0,none⟩) (L++[zz8]).length capv) (L++[zz8]):=⟨by rw[List.length_append,Nl.cells_append,show Nl.cells [zz8]=Nl.cell zz8 from List.append_nil _];exact hownz,by rw[List.length_append];exact hfz,fun z hz=>by
        rcases List.mem_append.1 hz with hz|hz
        ·exact NoteAt.mild (XN.out.each z hz) hmz
        ·rw[List.mem_singleton]at hz;subst hz;exact NoteAt.mild HZ8.out.1 hmz⟩
       have HQ:=Hd (And.intro hNz (And.intro hMz (And.intro hVz (And.intro hWz hBz))))
       have HLX:=Hd (show(L++[zz8]).map Nl.n=N0::OT (k+1) from by rw[List.map_append,HL.out,FL.out,List.map_cons,List.map_nil,HZ8.out.2.1];rfl)
       clear hownz hgz hfz hmz hmo hMz hVz hWz hBz hNz XN XM XV XWL XB HNL
       rw[List.length_append]at HQ
       go_wp2_with fail
       go_roundw
       case rel=>
        refine⟨k+1,_,_,L++[zz8],by omega,by go_num,HLX.out,HQ.out.1,HQ.out.2.1,by have:=HMM.out;omega,HD9.out,fun u hu =>?_,HQ.out.2.2.1,HQ.out.2.2.2.1,HQ.out.2.2.2.2⟩
        rw[HT9.out u hu,FT.out u,Bool.or_eq_true,decide_eq_true_eq]
        exact⟨fun h=>h.elim .inl (fun h =>.inr h.2),fun h=>h.elim .inl (fun h =>.inr ⟨hu,h⟩)⟩
       case measure=>simp[intOf];omega
end Go.Proofs.YtjlfehpockfkdaaGreat
namespace Go.Proofs.YtjlfehpockfkdaaGreat
open Go.RowKit Fb
def NtFormedS:Prop:=∀(S E P U:Option Addr) (cs ce cp cu:Nat) (n:Note) (w:World),NoteAt w S E P U cs ce cp cu n→Calls Tryz.prog 32 #[.agg (noteCells S E P U cs ce cp cu n)] w (Says (.bool (Nt.fmd n)) w)
set_option maxRecDepth 100000 in
set_option maxHeartbeats 6400000 in
theorem lawVSums_any(S:ViewSum)(NFS:NtFormedS)(q:Vl)(I:Option Addr)(ci:Nat)(it:List (Int × Int))(w:World)(h:VwAt w q)(hi:OneL w I ci it) :
  Calls Tryz.prog 6 #[.agg (vwCells q),.slice I it.length ci] w (Says (.bool true) w):=by
 have SS:=Hd S
 have AL:=Hd (fun wx=>valive_any S.toViewSpec wx)
 have NF:=Hd NFS
 have hvw:=fun wx (hb:Below w.heap.size w wx)=>h.later hb
 have hI:=fun wx (hb:Below w.heap.size w wx)=>hi.later hb
 obtain⟨⟨sl,se⟩,hsu⟩:∃p,Vw.sumR q.vw it=p:=⟨_,rfl⟩
 have hnf:=fun n (hn:n∈sl)=>Vw.sum_fmd (v:=q.vw) it n (by rw[hsu];exact hn)
 clear S NFS h hi
 obtain⟨K,ck,kn,Z,cz,zs,H,ch,hs,B,cb,bs,room⟩:=q
 unfold vwCells
 dsimp only
 have HSU:=Hd hsu
 have HNF:=Hd hnf
 have HVW:=Hd hvw
 have HI:=Hd hI
 clear hvw hI hsu hnf
 have hb0:=below_new (Below.refl w.heap.size w) (.cells #[.slice K kn.length ck,.slice Z zs.length cz,.slice H hs.length ch,.slice B bs.length cb,.int .i64 room] 27)
 have hV:=Blk.new w 27 #[.slice K kn.length ck,.slice Z zs.length cz,.slice H hs.length ch,.slice B bs.length cb,.int .i64 room]
 obtain⟨W,hW⟩:∃W,w.alloc (.cells #[.slice K kn.length ck,.slice Z zs.length cz,.slice H hs.length ch,.slice B bs.length cb,.int .i64 room] 27)=W:=⟨_,rfl⟩
 rw[hW]at hb0 hV
 have HW:=Hd hW
 obtain⟨g,hgg⟩:∃g,w.heap.size=g:=⟨_,rfl⟩
 rw[hgg]at hV
 have HV:=Hd (show Blk W (g) 27 #[.slice K kn.length ck,.slice Z zs.length cz,.slice H hs.length ch,.slice B bs.length cb,.int .i64 room] from hV)
 have HB0:=Hd hb0
 clear hW hb0 hV
 go_enter Tryz.func6,Tryz.ntmps6
 go_upto_region 1 with (fail)
 rw[HW.out]
 clear HW
 go_wp2_with fail
 refine(AL.out _).mono ?_
 rintro e w1 ⟨rfl,b1⟩
 replace HV:=Hd (HV.out.later b1)
 have HB1:=Hd (below_on HB0.out b1)
 clear HB0
 clear b1 AL
 have V_0:=HV.out.cell (i:=0) rfl
 have V_1:=HV.out.cell (i:=1) rfl
 have V_2:=HV.out.cell (i:=2) rfl
 have V_3:=HV.out.cell (i:=3) rfl
 have V_4:=HV.out.cell (i:=4) rfl
 go_wp2_with fail
 refine((show Calls Tryz.prog 30 #[.agg #[.slice K kn.length ck,.slice Z zs.length cz,.slice H hs.length ch,.slice B bs.length cb,.int .i64 room],.slice I it.length ci] w1 (GivesNE sl se w1) from by have n:=SS.out.sum ⟨K,ck,kn,Z,cz,zs,H,ch,hs,B,cb,bs,room⟩ I ci it w1 (HVW.out _ HB1.out) (HI.out _ HB1.out);rw[HSU.out]at n;exact n)).mono ?_
 rintro e w2 ⟨A3,c3,rfl,hN3,-,b2⟩
 clear V_0 V_1 V_2 V_3 V_4
 replace HV:=Hd (HV.out.later b2)
 have HB2:=Hd (below_on HB1.out b2)
 clear HB1
 clear b2
 have X3:=Hd hN3
 clear hN3
 have V_0:=HV.out.cell (i:=0) rfl
 have V_1:=HV.out.cell (i:=1) rfl
 have V_2:=HV.out.cell (i:=2) rfl
 have V_3:=HV.out.cell (i:=3) rfl
 have V_4:=HV.out.cell (i:=4) rfl
 go_wp2_with fail
 refine((show Calls Tryz.prog 31 #[.agg #[.slice K kn.length ck,.slice Z zs.length cz,.slice H hs.length ch,.slice B bs.length cb,.int .i64 room],.slice I it.length ci] w2 (GivesNE sl se w2) from by have n:=vsum_any ⟨K,ck,kn,Z,cz,zs,H,ch,hs,B,cb,bs,room⟩ I ci it w2 (HVW.out _ HB2.out) (HI.out _ HB2.out);rw[HSU.out]at n;exact n)).mono ?_
 rintro e w3 ⟨A4,c4,rfl,hN4,-,b3⟩
 clear V_0 V_1 V_2 V_3 V_4
 replace HV:=Hd (HV.out.later b3)
 have HB3:=Hd (below_on HB2.out b3)
 clear HB2
 replace X3:=Hd (X3.out.later b3)
 clear b3
 have X4:=Hd hN4
 clear hN4
 have hlen:=X3.out.len
 go_wp2_with fail
 go_loopw [9] (fun s9 wr=>∃k:Nat,k≤sl.length∧s9 = .int .i64 (k:Int)∧Below w3.heap.size w3 wr) (fun s9 _=>sl.length-(intOf s9).toNat)
 case atStart=>exact⟨0,Nat.zero_le _,rfl,Below.refl _ _⟩
 case round=>
  obtain⟨k,hk,rfl,hbw⟩:=hrel
  by_cases hlt:k<sl.length
  ·
   have hi0:(0:Int)≤(k:Int):=by omega
   have hi1:(k:Int)<(sl.length:Int):=by omega
   obtain⟨b,off,hA,hcs⟩:=(X3.out.later hbw).lies (fun h=>by rw[h]at hlt;exact absurd hlt (Nat.not_lt_zero _))
   obtain⟨S,E,P,U,cs,ce,cp,cu,e0,e1,e2,e3,hn⟩:=hcs k hlt
   have hnf:=HNF.out (sl.getD k zeroN) (by rw[List.getD_eq_getElem?_getD,List.getElem?_eq_getElem hlt];exact List.getElem_mem hlt)
   obtain⟨xn,hxn⟩:∃n,sl.getD k zeroN=n:=⟨_,rfl⟩
   rw[hxn]at e0 e1 e2 e3 hn hnf
   have NF2:=Hd (show Calls Tryz.prog 32 #[.agg #[.slice S xn.s.length cs,.slice E xn.e.length ce,.slice P xn.b.length cp,.slice U xn.ws.length cu]] wr (Says (.bool true) wr) from by have n:=NF.out S E P U cs ce cp cu xn wr hn;rw[hnf]at n;exact n)
   have BW:=Hd hbw
   subst hA
   clear hbw hcs hn hnf hxn
   go_wp2_with fail
   refine NF2.out.mono ?_
   rintro e w9 ⟨rfl,b9⟩
   have BW2:=Hd (below_on BW.out b9)
   clear b9 e0 e1 e2 e3 NF2
   go_wp2_with fail
   go_roundw
   case rel=>exact⟨k+1,by omega,by go_num,BW2.out⟩
   case measure=>simp[intOf];omega
  obtain rfl:k=sl.length:=by omega
  have hd0:decide ((sl.length:Int)<(sl.length:Int))=false:=decide_eq_false (by omega)
  have NALL:=Hd (show Calls Tryz.prog 33 #[.slice A3 sl.length c3,.slice A4 sl.length c4] wr (Says (.bool true) wr) from by have n:=nall_any A3 A4 c3 c4 sl sl wr (X3.out.later hbw) (X4.out.later hbw);rw[Wi.nsame_yes rfl]at n;exact n)
  have HZ:=Hd (below_on HB3.out hbw)
  clear hbw
  go_wp2_with fail
  refine NALL.out.mono ?_
  rintro e w9 ⟨rfl,b9⟩
  have HZ2:=Hd (below_on HZ.out b9)
  clear b9 NALL
  go_wp2
  go_ret
  exact⟨rfl,HZ2.out⟩
end Go.Proofs.YtjlfehpockfkdaaGreat
namespace Go.Proofs.YtjlfehpockfkdaaGreat
open Go.RowKit
theorem viewSum:ViewSum:={ viewSpec with sum:=vdsum_any }
theorem noteFormed:NtFormedS:=dnformed_any
end Go.Proofs.YtjlfehpockfkdaaGreat
namespace Go.Proofs.YtjlfehpockfkdaaGreat
open Go.ChangeShapes Go.WideShapes Go.RowKit
section
variable {H:Type} {enc:TypeId × Value→H} {P:Program}
theorem args_stay(hl:laidOutB P=true){W W':World}{sp:Nat→Bool}(hb:Below W.heap.size W W') :
  ∀{ts:List TypeId} {vs:List Value} {ds:List (DataW H)} {ps:List MemPlace},(∀t∈ts,P.readableRec t=true∧t<P.types.size) →
   DataW.TrodAll enc P W 0 (fun _=>true) true ts vs ds ps→(∀x∈ps,x.block<W.heap.size)→(∀x∈ps,sp x.block=true) →
   DataW.TrodAll enc P W' 0 sp true ts vs ds ps
 | [],_,_,_,_,h,_,_=>by
  obtain⟨rfl,rfl,rfl⟩:=trodAll_nil h
  exact trodAll_mk0
 |t::ts,_,_,_,ht,h,hlt,hsp=>by
  obtain⟨v,vs1,d,ds1,a,b,rfl,rfl,rfl,h1,h2⟩:=trodAll_cons h
  have htt:=ht t (List.mem_cons_self ..)
  refine⟨a,b,?_,?_,rfl⟩
  ·exact WideElems.Trod_stays hl htt.1 htt.2 h1 (fun x hx=>hb.same (hlt x (List.mem_append_left _ hx))) (fun x hx=>hsp x (List.mem_append_left _ hx))
  ·exact args_stay hl hb (fun t' h'=>ht t' (List.mem_cons_of_mem _ h')) h2 (fun x hx=>hlt x (List.mem_append_right _ hx)) (fun x hx=>hsp x (List.mem_append_right _ hx))
theorem law_post(hl:laidOutB P=true){f:Func}{s:ChangeSpec}{W W':World}{args:Array Value}{ds gs:List (DataW H)}{before:List MemPlace}{tb:TypeId}
  (hW:DataW.Whole enc P f.params.toList s.vars false W args.toList ds gs before)
  (hvars:s.vars=[])(hfn:s.fn H (ds++gs)={ results:=[.lit (.bool true)],args:=ds })
  (hres:f.resultTypes=#[tb])(htb:P.underlying tb=some .bool)
  (hts:∀t∈f.params.toList,P.readableRec t=true∧t<P.types.size)(hb:Below W.heap.size W W') :
  s.post enc P f false true false false W args (.bool true) W':=by
 have hlt:∀x∈before,x.block<W.heap.size:=fun x hx=>hW.lt x hx
 have hW0:=hW
 obtain⟨p,q,hA,hV,hpq,_,_⟩:=hW0
 rw[hvars]at hV
 obtain⟨rfl,rfl⟩:=trodVars_none hV
 obtain rfl:before=p:=by rw[hpq,List.append_nil]
 refine⟨ds,[],before,[],before,[],hW,?_,?_,?_,?_,fun h=>by cases h⟩
 ·rw[hfn,hres]
  exact trodAll_mk1 (shut_bool htb _)
 ·rw[hfn]
  exact args_stay hl hb hts hA hlt (fun x hx=>by simpa using hlt x hx)
 ·rw[hvars,hfn]
  rfl
 ·exact World.keptBut_mono (fun x hx=>hx.elim) (hb.frame (fun _=>False))
theorem stamp_cells{w:World}{base:Nat}{spare:Nat→Bool}{held:Bool}{fuel:Nat}{t ti:TypeId}{f0 f1:Field}{cs:List Value}{x:DataW H × List MemPlace}
  (hs:P.underlying t=some (.struct #[f0,f1]))(hone:Deep.oneCellFields P #[f0,f1]=true)(hC:P.cellsOf t=2)(hi0:f0.type=ti)(hi1:f1.type=ti)(hi:P.underlying ti=some (.int .i64))
  (h:DataW.trod enc P w base spare held fuel t cs=some x) :
  ∃c n:Int,cs=[.int .i64 c,.int .i64 n]∧x.2=[] ∧ -9223372036854775808≤c∧c≤9223372036854775807 ∧ -9223372036854775808≤n∧n≤9223372036854775807:=by
 obtain⟨y0,y1,m,rfl,hl,hy0,hy1⟩:=trod_struct2 hs h
 obtain⟨o0,k0⟩:=Deep.hone_of hone 0 f0 rfl
 obtain⟨o1,k1⟩:=Deep.hone_of hone 1 f1 rfl
 rw[hC]at hl
 obtain⟨a0,a1,rfl⟩:∃a0 a1,cs=[a0,a1]:=by
  match cs,hl with
  | [a0,a1],_=>exact⟨a0,a1,rfl⟩
 rw[o0,k0,hi0]at hy0
 rw[o1,k1,hi1]at hy1
 obtain⟨a,e0,rfl,wa⟩:=DataW.trod_int hi hy0
 obtain⟨b,e1,rfl,wb⟩:=DataW.trod_int hi hy1
 simp at e0 e1
 subst e0 e1
 exact⟨a,b,rfl,rfl,(bounds_i64 wa).1,(bounds_i64 wa).2,(bounds_i64 wb).1,(bounds_i64 wb).2⟩
end
end Go.Proofs.YtjlfehpockfkdaaGreat
namespace Go.Proofs.YtjlfehpockfkdaaGreat
open Go.ChangeShapes Go.WideShapes Go.RowKit Go.Deep
theorem pick{α:Type}(z:α){n:Nat}{p:Nat→α→Prop}(h:∀i,i<n→∃s,p i s):∃f:Nat→α,∀i,i<n→p i (f i):=by
 refine⟨fun i=>if hi:i<n then Classical.choose (h i hi) else z,fun i hi =>?_⟩
 simp only[hi,dite_true]
 exact Classical.choose_spec (h i hi)
theorem flat_get{α:Type}{size:Nat}(f:α→List Value)(hf:∀a,(f a).length=size):∀(l:List α) (j:Nat) (u:Value),(l.flatMap f)[j]?=some u →
  ∃i r a,l[i]?=some a∧r<size∧j=i*size+r∧(f a)[r]?=some u
 | [],j,u,h=>by simp at h
 |a::l,j,u,h=>by
  rw[List.flatMap_cons]at h
  by_cases hj:j<size
  ·rw[List.getElem?_append_left (by rw[hf];exact hj)]at h
   exact⟨0,j,a,rfl,hj,by omega,h⟩
  ·rw[List.getElem?_append_right (by rw[hf];omega),hf]at h
   obtain⟨i,r,b,h1,h2,h3,h4⟩:=flat_get f hf l (j-size) u h
   refine⟨i+1,r,b,by simpa using h1,h2,?_,h4⟩
   rw[Nat.add_mul]
   omega
section
variable {H:Type} {enc:TypeId × Value→H} {P:Program} {w:World}
theorem open_list{α:Type}(z:α)(f:α→List Value)(good:α→Prop){size:Nat}(hf:∀a,(f a).length=size){r:Reach}{b0:Nat}{t e:TypeId}{v:Value}{d:DataW H}{p:List MemPlace}
  (ht:P.underlying t=some (.slice e))(hC:P.cellsOf e=size)(hsz:0<size)
  (helem:∀(fuel:Nat) (cs:List Value) (x:DataW H × List MemPlace),DataW.trod enc P w 0 (fun _=>true) true fuel e cs=some x→∃a,cs=f a∧good a)
  (hv:Value.okWide P w r b0 t v)(h:DataW.Trod enc P w 0 (fun _=>true) true t v d p) :
  ∃(A:Option Addr) (cap:Nat) (l:List α),v = .slice A l.length cap∧l.length≤cap∧cap≤maxLen∧(A=none→l.length=0∧cap=0)∧Lies w A (l.flatMap f)∧(∀a∈l,good a) ∧
   ((d = .nil∧l.length=0∧cap=0)∨∃elems spare,d = .slice elems spare∧elems.length=l.length∧elems.length+spare.length=cap):=by
 obtain⟨a0,len0,cap0,rfl⟩:=okWide_slice ht hv
 obtain⟨fuel,hfu⟩:=h
 rcases open_slice ht hfu with ⟨hcs,hx⟩|⟨a,len,cap,m,n,D,Pl,hcs,_,hl,hm,hmm,hx,hi⟩
 ·simp[Value.cells]at hcs hx
  obtain⟨rfl,rfl,rfl⟩:=hcs
  exact⟨none,0,[],rfl,Nat.le_refl _,Nat.zero_le _,fun _=>⟨rfl,rfl⟩,Lies.nil,by simp,.inl ⟨hx.1,rfl,rfl⟩⟩
 ·simp[Value.cells]at hcs hx hmm
  obtain⟨rfl,rfl,rfl⟩:=hcs
  subst hmm
  obtain⟨g,hg⟩:=pick (n:=len0) (p:=fun i s=>good s∧∀j,j<size→w.cell? (a.add (i*size+j))=(f s)[j]?) z (fun i hi'=>by
   obtain⟨cs',hc,ht'⟩:=hi i (by omega)
   rw[hC]at hc
   obtain⟨s,rfl,hs⟩:=helem _ _ _ ht'
   obtain⟨_,_,hcell⟩:=World.cells?_some hc
   refine⟨s,hs,fun j hj =>?_⟩
   rw[←hcell j hj,Go.Deep.add_add])
  refine⟨some a,m,(List.range len0).map g,by simp,by simpa using hl,hm,(fun h=>by cases h),(fun hne =>?_),?_,.inr ⟨_,_,hx.1,by simp,by simp;omega⟩⟩
  ·have hpos:0<len0:=by
    rcases Nat.eq_zero_or_pos len0 with h0|h0
    ·subst h0;simp at hne
    ·exact h0
   obtain⟨b,off,spot⟩:=a
   have h00:=(hg 0 hpos).2 0 hsz
   have hspot:spot=none:=by
    have hlen:=hf (g 0)
    rw[List.getElem?_eq_getElem (by omega)]at h00
    simpa[Addr.add] using World.cell?_spot h00
   subst hspot
   refine⟨b,off,rfl,fun j u hu =>?_⟩
   obtain⟨i,r,s,h1,h2,h3,h4⟩:=flat_get f hf _ j u hu
   have hil:i<len0:=by
    have:=(List.getElem?_eq_some_iff.1 h1).1
    simpa using this
   simp[hil]at h1
   subst h1
   rw[←Go.WideShapes.add_plain,h3,(hg i hil).2 r h2]
   exact h4
  ·intro s hs
   simp at hs
   obtain⟨i,hil,rfl⟩:=hs
   exact(hg i hil).1
def stCell(s:Int × Int):List Value:=[.int .i64 s.1,.int .i64 s.2]
theorem stCells_flat(l:List (Int × Int)):l.flatMap stCell=stCells l:=by
 induction l with
 |nil=>rfl
 |cons s r ih=>simp[stCells,stCell,ih]
theorem open_stamps{r:Reach}{b0:Nat}{t e ti:TypeId}{f0 f1:Field}{v:Value}{d:DataW H}{p:List MemPlace}
  (ht:P.underlying t=some (.slice e))(hs:P.underlying e=some (.struct #[f0,f1]))(hone:Deep.oneCellFields P #[f0,f1]=true)(hC:P.cellsOf e=2)(hi0:f0.type=ti)(hi1:f1.type=ti)(hi:P.underlying ti=some (.int .i64))
  (hv:Value.okWide P w r b0 t v)(h:DataW.Trod enc P w 0 (fun _=>true) true t v d p) :
  ∃(A:Option Addr) (cap:Nat) (l:List (Int × Int)),v = .slice A l.length cap∧l.length≤cap∧cap≤maxLen∧(A=none→l.length=0∧cap=0)∧Lies w A (stCells l) ∧
   (∀s∈l,-9223372036854775808≤s.1∧s.1≤9223372036854775807 ∧ -9223372036854775808≤s.2∧s.2≤9223372036854775807) ∧
   ((d = .nil∧l.length=0∧cap=0)∨∃elems spare,d = .slice elems spare∧elems.length=l.length∧elems.length+spare.length=cap):=by
 have:=open_list (0,0) stCell (fun s=> -9223372036854775808≤s.1∧s.1≤9223372036854775807 ∧ -9223372036854775808≤s.2∧s.2≤9223372036854775807) (size:=2) (fun _=>rfl) ht hC (by decide)
  (fun fuel cs x hx=>by
   obtain⟨c,n,rfl,_,h1,h2,h3,h4⟩:=stamp_cells hs hone hC hi0 hi1 hi hx
   exact⟨(c,n),rfl,h1,h2,h3,h4⟩) hv h
 obtain⟨A,cap,l,h1,h2,h3,h4,h5,h6,h7⟩:=this
 rw[stCells_flat]at h5
 exact⟨A,cap,l,h1,h2,h3,h4,h5,h6,h7⟩
end
set_option maxRecDepth 100000
theorem list3{cs:List Value}(h:cs.length=3):∃a0 a1 a2,cs=[a0,a1,a2]:=by
 match cs,h with
 | [a0,a1,a2],_=>exact⟨a0,a1,a2,rfl⟩
theorem list2{cs:List Value}(h:cs.length=2):∃a0 a1,cs=[a0,a1]:=by
 match cs,h with
 | [a0,a1],_=>exact⟨a0,a1,rfl⟩
section
variable {H:Type} {enc:TypeId × Value→H} {w:World}
def LenG(d:DataW H)(k:Nat):Prop:=k=0∨∃elems spare,d = .slice elems spare∧elems.length=k
theorem open_list_with{P:Program}{α:Type}(z:α)(f:α→List Value)(good:α→DataW H→Prop){size:Nat}(hf:∀a,(f a).length=size){t e:TypeId}{fuel0:Nat}{cs0:List Value}{y:DataW H × List MemPlace}
  (ht:P.underlying t=some (.slice e))(hC:P.cellsOf e=size)(hsz:0<size)
  (helem:∀(fuel:Nat) (cs:List Value) (x:DataW H × List MemPlace),DataW.trod enc P w 0 (fun _=>true) true fuel e cs=some x→∃a,cs=f a∧good a x.1)
  (hfu:DataW.trod enc P w 0 (fun _=>true) true fuel0 t cs0=some y) :
  ∃(A:Option Addr) (cap:Nat) (l:List α),cs0=[.slice A l.length cap]∧l.length≤cap∧cap≤maxLen∧(A=none→l.length=0∧cap=0)∧Lies w A (l.flatMap f) ∧
   (l=[]∨∃elems spare,y.1 = .slice elems spare∧elems.length=l.length∧∀a∈l,∃d∈elems,good a d):=by
 rcases open_slice ht hfu with ⟨hcs,hx⟩|⟨a,len,cap,m,n,D,Pl,hcs,_,hl,hm,hmm,hx,hi⟩
 ·subst hcs hx
  exact⟨none,0,[],rfl,Nat.le_refl _,Nat.zero_le _,fun _=>⟨rfl,rfl⟩,Lies.nil,.inl rfl⟩
 ·simp at hmm
  subst hmm
  obtain⟨g,hg⟩:=pick (n:=len) (p:=fun i s=>good s (D i)∧∀j,j<size→w.cell? (a.add (i*size+j))=(f s)[j]?) z (fun i hi'=>by
   obtain⟨cs',hc,ht'⟩:=hi i (by omega)
   rw[hC]at hc
   obtain⟨s,rfl,hs⟩:=helem _ _ _ ht'
   obtain⟨_,_,hcell⟩:=World.cells?_some hc
   refine⟨s,hs,fun j hj =>?_⟩
   rw[←hcell j hj,Go.Deep.add_add])
  refine⟨some a,m,(List.range len).map g,by simpa using hcs,by simpa using hl,hm,(fun h=>by cases h),(fun hne =>?_),.inr ⟨_,_,by rw[hx],by simp,fun s hs =>?_⟩⟩
  ·have hpos:0<len:=by
    rcases Nat.eq_zero_or_pos len with h0|h0
    ·subst h0;simp at hne
    ·exact h0
   obtain⟨b,off,spot⟩:=a
   have h00:=(hg 0 hpos).2 0 hsz
   have hspot:spot=none:=by
    have hlen:=hf (g 0)
    rw[List.getElem?_eq_getElem (by omega)]at h00
    simpa[Addr.add] using World.cell?_spot h00
   subst hspot
   refine⟨b,off,rfl,fun j u hu =>?_⟩
   obtain⟨i,r,s,h1,h2,h3,h4⟩:=flat_get f hf _ j u hu
   have hil:i<len:=by
    have:=(List.getElem?_eq_some_iff.1 h1).1
    simpa using this
   simp[hil]at h1
   subst h1
   rw[←Go.WideShapes.add_plain,h3,(hg i hil).2 r h2]
   exact h4
  ·simp at hs
   obtain⟨i,hil,rfl⟩:=hs
   exact⟨D i,List.mem_map.2 ⟨i,List.mem_range.2 hil,rfl⟩,(hg i hil).1⟩
end
end Go.Proofs.YtjlfehpockfkdaaGreat
namespace Go.Proofs.YtjlfehpockfkdaaGreat
open Go.ChangeShapes Go.WideShapes Go.RowKit Go.Deep
set_option maxRecDepth 100000
section
variable {H:Type} {enc:TypeId × Value→H} {w:World}
theorem znInt:Tryz.prog.cellsOf 3=1:=by kernel_rfl
theorem znSt:Tryz.prog.cellsOf 46=2:=by kernel_rfl
theorem znSp:Tryz.prog.cellsOf 97=2:=by kernel_rfl
theorem znLS:Tryz.prog.cellsOf 22=1:=by kernel_rfl
theorem znZn:Tryz.prog.cellsOf 99=3:=by kernel_rfl
theorem znLZ:Tryz.prog.cellsOf 23=1:=by kernel_rfl
theorem zn_stampE(fuel:Nat)(cs:List Value)(x:DataW H × List MemPlace)(h:DataW.trod enc Tryz.prog w 0 (fun _=>true) true fuel 46 cs=some x):∃a:Int × Int,cs=stCells [a]:=by
 obtain⟨y0,y1,m,hx,hl,q0,q1⟩:=trod_struct2 Tryz.underlying46 h
 rw[znSt]at hl
 obtain⟨a0,a1,rfl⟩:=list2 hl
 dsimp only at q0 q1
 rw[znInt]at q0 q1
 obtain⟨n,e0,_,_⟩:=DataW.trod_int Tryz.underlying3 q0
 obtain⟨s,e1,_,_⟩:=DataW.trod_int Tryz.underlying3 q1
 simp at e0 e1
 subst e0 e1
 exact⟨(n,s),rfl⟩
theorem zn_flat(l:List (Int × Int)):l.flatMap (fun n=>stCells [n])=stCells l:=by
 induction l with
 |nil=>rfl
 |cons s r ih=>
  rw[List.flatMap_cons,ih]
  rfl
theorem zn_vecE{fuel:Nat}{cs:List Value}{x:DataW H × List MemPlace}(h:DataW.trod enc Tryz.prog w 0 (fun _=>true) true fuel 22 cs=some x):∃A c l,cs=[.slice A (List.length l) c]∧OneL w A c l∧LenG x.1 l.length:=by
 obtain⟨A,c,l,h1,h2,h3,h4,h5,h6⟩:=open_list_with ((0,0):Int × Int) (fun n=>stCells [n]) (fun _ _=>True) (size:=2) (fun _=>rfl) Tryz.underlying22 znSt (by decide) (fun fuel cs x h=>(zn_stampE fuel cs x h).imp fun _ h=>⟨h,trivial⟩) h
 rw[zn_flat]at h5
 refine⟨A,c,l,h1,⟨h2,h3,h4,h5⟩,?_⟩
 rcases h6 with rfl|⟨el,sp,h7,h8,_⟩
 ·exact .inl rfl
 ·exact .inr ⟨el,sp,h7,h8⟩
def ZoneG(w:World)(z:Zc)(d:DataW H):Prop:=OneL w z.X z.c z.l∧∃d0 d1,d = .agg [d0,d1]∧LenG d1 z.l.length
def Zc.zero:Zc:=⟨0,0,Option.none,0,[]⟩
theorem zn_zoneE(fuel:Nat)(cs:List Value)(x:DataW H × List MemPlace)(h:DataW.trod enc Tryz.prog w 0 (fun _=>true) true fuel 99 cs=some x):∃z:Zc,cs=zCells [z]∧ZoneG w z x.1:=by
 obtain⟨y0,y1,m,hx,hl,q0,q1⟩:=trod_struct2 Tryz.underlying99 h
 rw[znZn]at hl
 obtain⟨a0,a1,a2,rfl⟩:=list3 hl
 dsimp only at q0 q1
 rw[znSp]at q0
 rw[znLS]at q1
 obtain⟨z0,z1,m2,hx2,hl2,r0,r1⟩:=trod_struct2 Tryz.underlying97 q0
 dsimp only at r0 r1
 rw[znInt]at r0 r1
 obtain⟨n,e0,_,_⟩:=DataW.trod_int Tryz.underlying3 r0
 obtain⟨s,e1,_,_⟩:=DataW.trod_int Tryz.underlying3 r1
 obtain⟨X,c,l,e2,o1,g1⟩:=zn_vecE q1
 simp at e0 e1 e2
 subst e0 e1 e2
 exact⟨⟨n,s,X,c,l⟩,rfl,o1,_,_,congrArg Prod.fst hx,g1⟩
theorem zCells_flat(l:List Zc):l.flatMap (fun f=>zCells [f])=zCells l:=by
 induction l with
 |nil=>rfl
 |cons s r ih=>
  rw[List.flatMap_cons,ih]
  rfl
end
end Go.Proofs.YtjlfehpockfkdaaGreat
namespace Go.Proofs.YtjlfehpockfkdaaGreat
open Go.ChangeShapes Go.WideShapes Go.RowKit Go.Deep
set_option maxRecDepth 100000
theorem ca_list4{cs:List Value}(h:cs.length=4):∃a0 a1 a2 a3,cs=[a0,a1,a2,a3]:=by
 match cs,h with
 | [a0,a1,a2,a3],_=>exact⟨a0,a1,a2,a3,rfl⟩
section
variable {H:Type} {enc:TypeId × Value→H} {w:World}
theorem caInt:Tryz.prog.cellsOf 3=1:=by kernel_rfl
theorem caB:Tryz.prog.cellsOf 5=1:=by kernel_rfl
theorem caLB:Tryz.prog.cellsOf 47=1:=by kernel_rfl
theorem caSt:Tryz.prog.cellsOf 46=2:=by kernel_rfl
theorem caBd:Tryz.prog.cellsOf 49=4:=by kernel_rfl
theorem ca_byteE(fuel:Nat)(cs:List Value)(x:DataW H × List MemPlace)(h:DataW.trod enc Tryz.prog w 0 (fun _=>true) true fuel 5 cs=some x):∃a:Int,cs=[.int .u8 a]∧isB a:=by
 obtain⟨a,e0,rfl,wa⟩:=DataW.trod_int Tryz.underlying5 h
 refine⟨a,e0,?_⟩
 have hb:IntKind.u8.min≤a∧a≤IntKind.u8.max:=by simpa[Lit.wf] using wa
 have e1:IntKind.u8.min=0:=by decide
 have e2:IntKind.u8.max=255:=by decide
 rw[e1,e2]at hb
 exact⟨hb.1,by omega⟩
theorem ca_flat(l:List Int):l.flatMap (fun n=>[Value.int .u8 n])=bCells l:=by
 induction l with
 |nil=>rfl
 |cons s r ih=>
  rw[List.flatMap_cons,ih]
  rfl
theorem ca_bytesE{fuel:Nat}{cs:List Value}{x:DataW H × List MemPlace}(h:DataW.trod enc Tryz.prog w 0 (fun _=>true) true fuel 47 cs=some x):∃A c l,cs=[.slice A (List.length l) c]∧OneB w A c l∧LenG x.1 l.length:=by
 obtain⟨A,c,l,h1,h2,h3,h4,h5,h6⟩:=open_list_with (0:Int) (fun n=>[Value.int .u8 n]) (fun a _=>isB a) (size:=1) (fun _=>rfl) Tryz.underlying47 caB (by decide) (fun fuel cs x h=>ca_byteE fuel cs x h) h
 rw[ca_flat]at h5
 refine⟨A,c,l,h1,⟨h2,h3,h4,h5,fun x hx =>?_⟩,?_⟩
 ·rcases h6 with rfl|⟨_,_,_,_,h7⟩
  ·cases hx
  ·obtain⟨_,_,h8⟩:=h7 x hx
   exact h8
 ·rcases h6 with rfl|⟨el,sp,h7,h8,_⟩
  ·exact .inl rfl
  ·exact .inr ⟨el,sp,h7,h8⟩
def BodyG(w:World)(f:Bc)(d:DataW H):Prop:=OneB w f.X f.d f.b.v∧∃d0 d1 d2,d = .agg [d0,d1,d2]∧LenG d2 f.b.v.length
theorem ca_bodyE(fuel:Nat)(cs:List Value)(x:DataW H × List MemPlace)(h:DataW.trod enc Tryz.prog w 0 (fun _=>true) true fuel 49 cs=some x):∃f:Bc,cs=Ca.cell f∧BodyG w f x.1:=by
 obtain⟨y0,y1,y2,m,hx,hl,q0,q1,q2⟩:=trod_struct3 Tryz.underlying49 h
 rw[caBd]at hl
 obtain⟨a0,a1,a2,a3,rfl⟩:=ca_list4 hl
 dsimp only at q0 q1 q2
 rw[caInt]at q0
 rw[caSt]at q1
 rw[caLB]at q2
 obtain⟨o,e0,_,_⟩:=DataW.trod_int Tryz.underlying3 q0
 obtain⟨c,n,e1,_,_,_,_⟩:=stamp_cells Tryz.underlying46 (by kernel_rfl) (by kernel_rfl) rfl rfl Tryz.underlying3 q1
 obtain⟨X,d,l,e2,o2,z2⟩:=ca_bytesE q2
 simp at e0 e1 e2
 obtain⟨rfl,rfl⟩:=e1
 subst e0 e2
 exact⟨⟨X,d,⟨o,c,n,l⟩⟩,rfl,o2,_,_,_,congrArg Prod.fst hx,z2⟩
theorem ca_cells_flat(l:List Bc):l.flatMap Ca.cell=Ca.cells l:=by
 induction l with
 |nil=>rfl
 |cons s r ih=>
  rw[List.flatMap_cons,ih]
  rfl
def BodiesG(w:World)(L:List Bc)(d:DataW H):Prop:=L=[]∨∃elems spare,d = .slice elems spare∧elems.length=L.length∧∀z∈L,∃x∈elems,BodyG w z x
end
end Go.Proofs.YtjlfehpockfkdaaGreat
namespace Go.Proofs.YtjlfehpockfkdaaGreat
open Go.ChangeShapes Go.WideShapes Go.RowKit Go.Deep
section
variable {H:Type} {enc:TypeId × Value→H} {P:Program} {w:World}
theorem write_cells{base:Nat}{spare:Nat→Bool}{held:Bool}{fuel:Nat}{t ti:TypeId}{g0 g1 g2 s0 s1:Field}{cs:List Value}{x:DataW H × List MemPlace}
  (hs:P.underlying t=some (.struct #[g0,g1,g2]))(hC:P.cellsOf t=4)(k0:P.cellsOf g0.type=2)(o0:g0.offset=0)(k1:P.cellsOf g1.type=1)(o1:g1.offset=2)(k2:P.cellsOf g2.type=1)(o2:g2.offset=3)
  (hss:P.underlying g0.type=some (.struct #[s0,s1]))(hone:Deep.oneCellFields P #[s0,s1]=true)(hi0:s0.type=ti)(hi1:s1.type=ti)(hi:P.underlying ti=some (.int .i64))(h1:P.underlying g1.type=some (.int .i64))(hb:P.underlying g2.type=some .bool)
  (h:DataW.trod enc P w base spare held fuel t cs=some x):∃y:Wr,cs=Nt.wrCell y:=by
 obtain⟨y0,y1,y2,m,rfl,hl,q0,q1,q2⟩:=trod_struct3 hs h
 rw[hC]at hl
 obtain⟨a0,a1,a2,a3,rfl⟩:∃a0 a1 a2 a3,cs=[a0,a1,a2,a3]:=by
  match cs,hl with
  | [a0,a1,a2,a3],_=>exact⟨a0,a1,a2,a3,rfl⟩
 rw[o0,k0]at q0
 rw[o1,k1]at q1
 rw[o2,k2]at q2
 obtain⟨c,n,e0,_⟩:=stamp_cells hss hone k0 hi0 hi1 hi q0
 obtain⟨o,e1,_,_⟩:=DataW.trod_int h1 q1
 obtain⟨g,e2,_⟩:=DataW.trod_bool hb q2
 simp at e0 e1 e2
 obtain⟨rfl,rfl⟩:=e0
 subst e1 e2
 exact⟨(c,n,o,g),rfl⟩
end
set_option maxRecDepth 100000
section
variable {H:Type} {enc:TypeId × Value→H} {w:World}
theorem trod_struct5{P:Program}{base:Nat}{spare:Nat→Bool}{held:Bool}{t:TypeId}{f0 f1 f2 f3 f4:Field}{fuel:Nat}{cs:List Value}{x:DataW H × List MemPlace}(ht:P.underlying t=some (.struct #[f0,f1,f2,f3,f4]))(h:DataW.trod enc P w base spare held fuel t cs=some x) :
  ∃y0 y1 y2 y3 y4 n,x=(.agg [y0.1,y1.1,y2.1,y3.1,y4.1],y0.2++(y1.2++(y2.2++(y3.2++y4.2))))∧cs.length=P.cellsOf t∧DataW.trod enc P w base spare held n f0.type ((cs.drop f0.offset).take (P.cellsOf f0.type))=some y0 ∧
   DataW.trod enc P w base spare held n f1.type ((cs.drop f1.offset).take (P.cellsOf f1.type))=some y1∧DataW.trod enc P w base spare held n f2.type ((cs.drop f2.offset).take (P.cellsOf f2.type))=some y2 ∧
   DataW.trod enc P w base spare held n f3.type ((cs.drop f3.offset).take (P.cellsOf f3.type))=some y3∧DataW.trod enc P w base spare held n f4.type ((cs.drop f4.offset).take (P.cellsOf f4.type))=some y4:=by
 obtain⟨xs,n,_,rfl,hl,hlen,hf⟩:=DataW.trod_struct ht h
 match xs,hlen with
 | [y0,y1,y2,y3,y4],_=>exact⟨y0,y1,y2,y3,y4,n,by simp,hl,by simpa using hf 0 f0 rfl,by simpa using hf 1 f1 rfl,by simpa using hf 2 f2 rfl,by simpa using hf 3 f3 rfl,by simpa using hf 4 f4 rfl⟩
theorem vw_list5{cs:List Value}(h:cs.length=5):∃a0 a1 a2 a3 a4,cs=[a0,a1,a2,a3,a4]:=by
 match cs,h with
 | [a0,a1,a2,a3,a4],_=>exact⟨a0,a1,a2,a3,a4,rfl⟩
theorem vwWr:Tryz.prog.cellsOf 52=4:=by kernel_rfl
theorem vwLW:Tryz.prog.cellsOf 24=1:=by kernel_rfl
theorem vwLB:Tryz.prog.cellsOf 25=1:=by kernel_rfl
theorem vwVw:Tryz.prog.cellsOf 27=5:=by kernel_rfl
theorem vw_writeE(fuel:Nat)(cs:List Value)(x:DataW H × List MemPlace)(h:DataW.trod enc Tryz.prog w 0 (fun _=>true) true fuel 52 cs=some x):∃a,cs=Nt.wrCell a:=
 write_cells Tryz.underlying52 (by kernel_rfl) (by kernel_rfl) rfl (by kernel_rfl) rfl (by kernel_rfl) rfl Tryz.underlying46 (by kernel_rfl) rfl rfl Tryz.underlying3 Tryz.underlying3 Tryz.underlying4 h
theorem vw_writesE{fuel:Nat}{cs:List Value}{x:DataW H × List MemPlace}(h:DataW.trod enc Tryz.prog w 0 (fun _=>true) true fuel 24 cs=some x):∃A c l,cs=[.slice A (List.length l) c]∧OneW w A c l∧LenG x.1 l.length:=by
 obtain⟨A,c,l,h1,h2,h3,h4,h5,h6⟩:=open_list_with Nt.zeroW Nt.wrCell (fun _ _=>True) (size:=4) (fun _=>rfl) Tryz.underlying24 vwWr (by decide) (fun fuel cs x h=>(vw_writeE fuel cs x h).imp fun _ h=>⟨h,trivial⟩) h
 refine⟨A,c,l,h1,⟨h2,h3,h4,h5⟩,?_⟩
 rcases h6 with rfl|⟨el,sp,h7,h8,_⟩
 ·exact .inl rfl
 ·exact .inr ⟨el,sp,h7,h8⟩
def ZonesG(w:World)(L:List Zc)(d:DataW H):Prop:=L=[]∨∃elems spare,d = .slice elems spare∧elems.length=L.length∧∀f∈L,∃x∈elems,ZoneG w f x
theorem vw_zonesE{fuel:Nat}{cs:List Value}{x:DataW H × List MemPlace}(h:DataW.trod enc Tryz.prog w 0 (fun _=>true) true fuel 23 cs=some x):∃A c L,cs=[.slice A (List.length L) c]∧OneZ w A c L∧ZonesG w L x.1:=by
 obtain⟨A,c,L,e1,h2,h3,h4,h5,h6⟩:=open_list_with Zc.zero (fun f=>zCells [f]) (fun f d=>ZoneG w f d) (size:=3) (fun _=>rfl) Tryz.underlying23 znZn (by decide) (fun fuel cs x h=>zn_zoneE fuel cs x h) h
 rw[zCells_flat]at h5
 refine⟨A,c,L,e1,⟨h2,h3,h4,h5,fun f hf2 =>?_⟩,h6⟩
 rcases h6 with rfl|⟨_,_,_,_,h7⟩
 ·cases hf2
 ·obtain⟨_,_,h8⟩:=h7 f hf2
  exact h8.1
theorem vw_bodiesE{fuel:Nat}{cs:List Value}{x:DataW H × List MemPlace}(h:DataW.trod enc Tryz.prog w 0 (fun _=>true) true fuel 25 cs=some x):∃A c L,cs=[.slice A (List.length L) c]∧OneC w A c L∧BodiesG w L x.1:=by
 obtain⟨A,c,L,h1,h2,h3,h4,h5,h6⟩:=open_list_with Bc.zero Ca.cell (fun z d=>BodyG w z d) (size:=4) (fun _=>rfl) Tryz.underlying25 caBd (by decide) (fun fuel cs x h=>ca_bodyE fuel cs x h) h
 rw[ca_cells_flat]at h5
 refine⟨A,c,L,h1,⟨h2,h3,h4,h5,fun z hz =>?_⟩,h6⟩
 rcases h6 with rfl|⟨_,_,_,_,h7⟩
 ·cases hz
 ·obtain⟨_,_,h8⟩:=h7 z hz
  exact h8.1
def ViewG(w:World)(q:Vl)(d:DataW H):Prop:=∃d0 d1 d2 d3 d4,d = .agg [d0,d1,d2,d3,d4]∧LenG d0 q.k.length∧ZonesG w q.z d1∧LenG d2 q.h.length∧BodiesG w q.b d3
theorem open_view{r:Reach}{b0:Nat}{v:Value}{d:DataW H}{p:List MemPlace}(hv:Value.okWide Tryz.prog w r b0 27 v)(h:DataW.Trod enc Tryz.prog w 0 (fun _=>true) true 27 v d p) :
  ∃q:Vl,v = .agg (vwCells q)∧VwAt w q∧ViewG w q d:=by
 obtain⟨cs,rfl,_⟩:=okWide_struct Tryz.underlying27 hv
 obtain⟨fuel,hf⟩:=h
 obtain⟨y0,y1,y2,y3,y4,m,hx,hl,q0,q1,q2,q3,q4⟩:=trod_struct5 Tryz.underlying27 hf
 have hcc:(Value.agg cs).cells.toList=cs.toList:=rfl
 rw[hcc]at hl q0 q1 q2 q3 q4
 rw[vwVw]at hl
 obtain⟨a0,a1,a2,a3,a4,hcl⟩:=vw_list5 hl
 rw[hcl]at q0 q1 q2 q3 q4
 dsimp only at q0 q1 q2 q3 q4
 rw[znLS]at q0
 rw[znLZ]at q1
 rw[vwLW]at q2
 rw[vwLB]at q3
 rw[znInt]at q4
 obtain⟨K,ck,k,e0,o0,g0⟩:=zn_vecE q0
 obtain⟨Z,cz,z,e1,o1,g1⟩:=vw_zonesE q1
 obtain⟨A,ch,hh,e2,o2,g2⟩:=vw_writesE q2
 obtain⟨B,cb,b,e3,o3,g3⟩:=vw_bodiesE q3
 obtain⟨n,e4,_,_⟩:=DataW.trod_int Tryz.underlying3 q4
 simp at e0 e1 e2 e3 e4
 subst e0 e1 e2 e3 e4
 exact⟨⟨K,ck,k,Z,cz,z,A,ch,hh,B,cb,b,n⟩,congrArg Value.agg (Array.toList_inj.1 hcl),⟨o0,o1,o2,o3⟩,_,_,_,_,_,congrArg Prod.fst hx,g0,g1,g2,g3⟩
end
end Go.Proofs.YtjlfehpockfkdaaGreat
namespace Go.Proofs.YtjlfehpockfkdaaGreat.viewSums
open Go.ChangeShapes Go.WideShapes Go.ChangeAt Go.RowKit
theorem cellsStamp:Tryz.prog.cellsOf 46=2:=by kernel_rfl
theorem bytesStamp:Tryz.prog.bytesOf 46=16:=by kernel_rfl
theorem cellsSpan:Tryz.prog.cellsOf 97=2:=by kernel_rfl
theorem bytesSpan:Tryz.prog.bytesOf 97=16:=by kernel_rfl
theorem cellsWrite:Tryz.prog.cellsOf 52=4:=by kernel_rfl
theorem bytesWrite:Tryz.prog.bytesOf 52=32:=by kernel_rfl
theorem own:ownKnob Tryz.prog.godebug=none:=by kernel_rfl
theorem laidOut:laidOutB Tryz.prog=true:=by kernel_rfl
theorem reads:∀t∈Tryz.f6.params.toList,Tryz.prog.readableRec t=true∧t<Tryz.prog.types.size:=by
 intro t ht
 rw[Tryz.params6]at ht
 have:t=27∨t=28:=by simpa using ht
 rcases this with rfl|rfl<;>exact⟨by kernel_rfl,of_decide_eq_true (by kernel_rfl)⟩
set_option maxRecDepth 100000 in
theorem lifted(os:Os)(started:os.Started)(H:Type)(enc:TypeId × Value→H) :
  ReturnsInHanded {} Tryz.checked os 6 .any (Rows.viewSumsSpec.pre6 enc Tryz.prog Tryz.f6 Rows.viewSumsRow.domain false) (Rows.viewSumsSpec.post enc Tryz.prog Tryz.f6 false true false false):=by
 refine returnsInHanded_of_change (C:=Tryz.checked) own started (by kernel_rfl) Tryz.func6
  (ChangeSpec.witness6 (enc:=enc) (C:=Tryz.checked) false ⟨#[],#[.agg #[.slice none 0 0,.slice none 0 0,.slice none 0 0,.slice none 0 0,.int .i64 0],.slice none 0 0],[]⟩ 8 (by kernel_rfl) (by kernel_rfl) (by kernel_rfl) (by kernel_rfl)) ?_
 intro W base args ds gs before hval0 hW _ _
 have hval:∀(j:Nat) t v,Tryz.f6.params[j]?=some t→args[j]?=some v→Value.okWide Tryz.prog W .any base t v:=hval0
 have hW':=hW
 obtain⟨p,q,hA0,hV,rfl,hfz,hnd⟩:=hW
 have hA:DataW.TrodAll enc Tryz.prog W 0 (fun _=>true) true Tryz.f6.params.toList args.toList ds p:=hA0
 rw[Tryz.params6]at hA hval
 obtain⟨v0,vs0,d0,ds0,p0,q0,hargs,rfl,rfl,h0,r0⟩:=trodAll_cons hA
 obtain⟨v1,vs1,d1,ds1,p1,q1,rfl,rfl,rfl,h1,r1⟩:=trodAll_cons r0
 obtain⟨rfl,rfl,rfl⟩:=trodAll_nil r1
 obtain rfl:args=#[v0,v1]:=by cases args;simp_all
 obtain⟨rfl,rfl⟩:=trodVars_none hV
 obtain⟨q0,rfl,o0,g0⟩:=open_view (hval 0 27 v0 rfl rfl) h0
 obtain⟨A1,cap1,l1,rfl,hc1,hm1,hn1,hl1,_,hd1⟩:=open_stamps Tryz.underlying28 Tryz.underlying97 (by kernel_rfl) cellsSpan rfl rfl Tryz.underlying3 (hval 1 28 v1 rfl rfl) h1
 have o1:OneL W A1 cap1 l1:=⟨hc1,hm1,hn1,hl1⟩
 clear hA0 hval0
 refine(lawVSums_any viewSum noteFormed q0 A1 cap1 l1 W o0 o1).mono fun e W' ⟨he,hg⟩ =>?_
 subst he
 exact⟨_,rfl,law_post laidOut hW' rfl rfl (by kernel_rfl) Tryz.underlying4 reads hg⟩
theorem over:Rows.viewSumsRow.holds Tryz.pinned (OpenSpec.ofChange Rows.viewSumsSpec):=
 OpenClaim.holds_of_wide 6 Tryz.f6 rfl rfl rfl rfl rfl rfl rfl ⟨rfl,rfl,rfl,rfl,rfl⟩ rfl rfl rfl rfl rfl (by kernel_rfl) Tryz.func6 (by kernel_rfl)
  (of_decide_eq_true (by kernel_rfl)) (by unfold Func.isWrapper;first|(rw[if_pos (by decide +kernel)];kernel_rfl)|(rw[if_neg (by decide +kernel)];exact⟨rfl,rfl⟩))
  (fun os started H enc _=>lifted os started H enc)
theorem proved:Rows.ViewSumsSaid:=
 over
end Go.Proofs.YtjlfehpockfkdaaGreat.viewSums
