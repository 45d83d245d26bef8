/-
  What the rows of this claim stand on: TrMath, TrMath2, VwRefE, Mild, Nls, VwLen, VwRefG, VwRefH, VwRefI, VwRefK, Few, CaRoomM, VwMath, VwMath2, VwSpec, VwMath4, Lo, LoZ, LoW, LoC, VwLo, VdPlain, VdA, SpWalkPlain, TpPlain, Rounds, SpKeep, TpMath, TpSmall, SpDevSmall, SpDevSpans, SpCount, SpDevSetOf, SpDevEach, In, DevEach, DevCounts, VecLawWalks, DevAll.
-/
import Derived.Test.YtjlfehpockfkdaaGreatB01
import Derived.Lib.SlBytesConst
import Derived.BigQuiet
import Derived.RangeFuncFrom
import Derived.RangeFuncNested
import Derived.RangeFuncBound
import Derived.RangeFuncCalls
import Derived.RangeFuncLeaves
import Derived.RangeFuncWrites
import Derived.Maps.AppendAt
import Derived.Shelf.Abstract
import Derived.Shelf.RegionOpen
import Derived.OwnWalkIn
import Derived.TacticsInMore
import Derived.LoopNIn
import Derived.LoopIn
import Derived.Lib.Hide
import Derived.Laws.CopyOwn
import Derived.WalkMore
import Derived.Lib.QuietBelow
namespace Go.Proofs.YtjlfehpockfkdaaGreat
open Go.RowKit
namespace Tr
theorem mkTo_ext{f g:Nat→Option (List (Int × Int))}:∀k,(∀o,o<k→f o=g o)→mkTo f k=mkTo g k
 |0,_=>rfl
 |k+1,h=>by
  have ih:=mkTo_ext k (fun o ho=>h o (by omega))
  cases hf:f k with
  |none=>rw[mkTo_none hf,mkTo_none (by rw[←h k (by omega)];exact hf),ih]
  |some v=>
   have hg:g k=some v:=by rw[←h k (by omega)];exact hf
   cases ho:goesOn (mkTo f k) k v with
   |true=>rw[mkTo_on hf ho,mkTo_on hg (by rw[←ih];exact ho),ih]
   |false=>rw[mkTo_new hf ho,mkTo_new hg (by rw[←ih];exact ho),ih]
theorem getD_lt(zs:List Zn)(z:Zn){j:Nat}(h:j<zs.length):(zs++[z]).getD j (0,0,[])=zs.getD j (0,0,[]):=by
 rw[List.getD_eq_getElem?_getD,List.getD_eq_getElem?_getD,List.getElem?_append_left h]
theorem getD_eq(zs:List Zn)(z:Zn):(zs++[z]).getD zs.length (0,0,[])=z:=by
 rw[List.getD_eq_getElem?_getD,List.getElem?_concat_length]
 rfl
def okLast(zs:List Zn)(z:Zn):Prop:=
 (0≤z.1∧z.1≤z.2.1∧z.2.1≤255)∧Ve.fmd z.2.2=true∧(0<zs.length→(zs.getD (zs.length-1) (0,0,[])).2.1<z.1∧((zs.getD (zs.length-1) (0,0,[])).2.1=z.1-1→(zs.getD (zs.length-1) (0,0,[])).2.2≠z.2.2))
theorem ok_snoc(zs:List Zn)(z:Zn):fmTo (zs++[z]) (zs++[z]).length↔fmTo zs zs.length∧okLast zs z:=by
 rw[List.length_append,List.length_singleton]
 constructor
 ·intro h
  refine⟨fun j hj =>?_,?_⟩
  ·have h1:=h j (by omega)
   unfold okAt at h1 ⊢
   rw[getD_lt zs z hj]at h1
   refine⟨h1.1,h1.2.1,fun h0 =>?_⟩
   have h2:=h1.2.2 h0
   rw[getD_lt zs z (by omega)]at h2
   exact h2
  ·have h1:=h zs.length (by omega)
   unfold okAt at h1
   unfold okLast
   rw[getD_eq]at h1
   refine⟨h1.1,h1.2.1,fun h0 =>?_⟩
   have h2:=h1.2.2 h0
   rw[getD_lt zs z (by omega)]at h2
   exact h2
 ·rintro ⟨h,hl⟩ j hj
  by_cases e:j<zs.length
  ·have h1:=h j e
   unfold okAt at h1 ⊢
   rw[getD_lt zs z e]
   refine⟨h1.1,h1.2.1,fun h0 =>?_⟩
   rw[getD_lt zs z (by omega)]
   exact h1.2.2 h0
  ·have ej:j=zs.length:=by omega
   subst ej
   unfold okAt
   rw[getD_eq]
   refine⟨hl.1,hl.2.1,fun h0 =>?_⟩
   rw[getD_lt zs z (by omega)]
   exact hl.2.2 h0
theorem at_snoc(zs:List Zn)(z:Zn)(o:Int):at_ (zs++[z]) o=(at_ zs o).or (if holds z o=true then some z.2.2 else none):=by
 induction zs with
 |nil=>
  show at_ [z] o=(none:Option (List (Int × Int))).or _
  rw[at_cons,Option.none_or]
  rfl
 |cons y r ih=>
  rw[List.cons_append,at_cons,at_cons,ih]
  split
  ·rfl
  ·rfl
theorem at_above{zs:List Zn}{k:Int}(h:∀z∈zs,z.2.1<k):at_ zs k=none:=by
 induction zs with
 |nil=>rfl
 |cons y r ih=>
  have h1:=h y (List.mem_cons_self)
  rw[at_cons,if_neg (fun q=>by unfold holds at q;have:=(of_decide_eq_true q).2;omega)]
  exact ih (fun z hz=>h z (List.mem_cons_of_mem _ hz))
theorem mkTo_is{f:Nat→Option (List (Int × Int))}(hf:∀o v,f o=some v→Ve.fmd v=true):∀k,k≤256→fmTo (mkTo f k) (mkTo f k).length∧(∀z∈mkTo f k,z.2.1<(k:Int))∧∀o:Nat,at_ (mkTo f k) (o:Int)=if o<k then f o else none
 |0,_=>⟨fun j hj=>(by cases hj),fun z hz=>(by cases hz),fun o=>(by rw[if_neg (by omega)];rfl)⟩
 |k+1,hk=>by
  obtain⟨h1,h2,h3⟩:=mkTo_is hf k (by omega)
  cases hv:f k with
  |none=>
   rw[mkTo_none hv]
   refine⟨h1,fun z hz=>by have:=h2 z hz;omega,fun o =>?_⟩
   rw[h3 o]
   by_cases e:o=k
   ·subst e;rw[if_neg (by omega),if_pos (by omega),hv]
   ·by_cases q:o<k
    ·rw[if_pos q,if_pos (by omega)]
    ·rw[if_neg q,if_neg (by omega)]
  |some v=>
   have hvf:=hf k v hv
   cases hg:goesOn (mkTo f k) k v with
   |true=>
    rw[mkTo_on hv hg]
    rcases List.eq_nil_or_concat (mkTo f k) with h0|⟨M0,z,h0⟩
    ·rw[h0,goes_nil]at hg;cases hg
    ·rw[List.concat_eq_append]at h0
     rw[h0]at hg h1 h2 h3 ⊢
     rw[goes_snoc]at hg
     obtain⟨g1,g2⟩:=of_decide_eq_true hg
     rw[ext_snoc]
     obtain⟨a1,a2⟩:=(ok_snoc M0 z).1 h1
     refine⟨(ok_snoc M0 _).2 ⟨a1,⟨a2.1.1,?_,?_⟩,a2.2.1,a2.2.2⟩,fun y hy =>?_,fun o =>?_⟩
     ·have:=a2.1.2.1;show z.1≤(k:Int);omega
     ·show(k:Int)≤255;omega
     ·rcases List.mem_append.1 hy with hy|hy
      ·have:=h2 y (List.mem_append.2 (.inl hy));omega
      ·rw[List.mem_singleton]at hy
       subst hy
       show(k:Int)<((k+1:Nat):Int)
       omega
     ·have h4:=h3 o
      rw[at_snoc]at h4 ⊢
      by_cases e:o<k
      ·rw[if_pos e]at h4
       rw[if_pos (show o<k+1 by omega),←h4]
       have:holds (z.1,(k:Int),z.2.2) (o:Int)=holds z (o:Int):=by
        unfold holds
        rw[decide_eq_decide]
        show z.1≤(o:Int)∧(o:Int)≤(k:Int)↔z.1≤(o:Int)∧(o:Int)≤z.2.1
        omega
       rw[this]
      ·by_cases e2:o=k
       ·subst e2
        have hn:at_ M0 (o:Int)=none:=at_above (fun y hy=>h2 y (List.mem_append.2 (.inl hy)))
        rw[hn,Option.none_or,if_pos (show o<o+1 by omega),hv,if_pos,g2]
        unfold holds
        refine decide_eq_true ⟨?_,Int.le_refl _⟩
        have:=a2.1.2.1
        show z.1≤(o:Int)
        omega
       ·rw[if_neg e]at h4
        rw[if_neg (show ¬o<k+1 by omega)]
        have hn:at_ M0 (o:Int)=none:=at_above (fun y hy=>by have:=h2 y (List.mem_append.2 (.inl hy));omega)
        rw[hn,Option.none_or,if_neg]
        unfold holds
        intro q
        have:=(of_decide_eq_true q).2
        have h5:(o:Int)≤(k:Int):=this
        omega
   |false=>
    rw[mkTo_new hv hg]
    refine⟨(ok_snoc _ _).2 ⟨h1,⟨by omega,Int.le_refl _,by show(k:Int)≤255;omega⟩,hvf,fun h0 =>?_⟩,fun y hy =>?_,fun o =>?_⟩
    ·rcases List.eq_nil_or_concat (mkTo f k) with h5|⟨M0,z,h5⟩
     ·rw[h5]at h0;cases h0
     ·rw[List.concat_eq_append]at h5
      rw[h5]at hg h2 ⊢
      rw[goes_snoc]at hg
      rw[last_snoc]
      have h6:=h2 z (List.mem_append.2 (.inr (List.mem_singleton.2 rfl)))
      exact⟨h6,fun q1 q2=>of_decide_eq_false hg ⟨q1,q2⟩⟩
    ·rcases List.mem_append.1 hy with hy|hy
     ·have:=h2 y hy;omega
     ·rw[List.mem_singleton]at hy
      subst hy
      show(k:Int)<((k+1:Nat):Int)
      omega
    ·rw[at_snoc,h3 o]
     by_cases e:o<k
     ·rw[if_pos e,if_pos (show o<k+1 by omega),if_neg,Option.or_none]
      unfold holds
      intro q
      have h5:(k:Int)≤(o:Int):=(of_decide_eq_true q).1
      omega
     ·by_cases e2:o=k
      ·subst e2
       rw[if_neg e,if_pos (show o<o+1 by omega),Option.none_or,hv,if_pos]
       unfold holds
       exact decide_eq_true ⟨Int.le_refl _,Int.le_refl _⟩
      ·rw[if_neg e,if_neg (show ¬o<k+1 by omega),Option.none_or,if_neg]
       unfold holds
       intro q
       have h5:(o:Int)≤(k:Int):=(of_decide_eq_true q).2
       omega
theorem fmd_mk{f:Nat→Option (List (Int × Int))}(hf:∀o v,f o=some v→Ve.fmd v=true):fmd (mkTo f 256)=true:=(fmd_iff _).2 (mkTo_is hf 256 (Nat.le_refl _)).1
theorem at_mk{f:Nat→Option (List (Int × Int))}(hf:∀o v,f o=some v→Ve.fmd v=true){o:Nat}(ho:o<256):at_ (mkTo f 256) (o:Int)=f o:=by rw[(mkTo_is hf 256 (Nat.le_refl _)).2.2 o,if_pos ho]
theorem strd_fmd{v:List (Int × Int)}(h:Ve.fmd v=true)(n:Note)(o:Int):Ve.fmd (strd v n o)=true:=by
 unfold strd
 split
 ·exact h
 ·exact Ve.fmd_ofL _
theorem sho_fmd{zs:List Zn}{known:List (Int × Int)}(h:fmd zs=true)(hk:Ve.fmd known=true)(n:Note)(o:Nat):Ve.fmd (sho zs known n o)=true:=by
 have h1:=rch_fmd h hk (o:Int)
 unfold sho
 split
 ·exact h1
 ·exact strd_fmd h1 n _
theorem zof_fmd{zs:List Zn}{known:List (Int × Int)}(h:fmd zs=true)(hk:Ve.fmd known=true)(n:Note):∀o v,zof zs known n o=some v→Ve.fmd v=true:=by
 intro o v hv
 unfold zof at hv
 split at hv
 ·cases hv
 ·cases hv
  exact sho_fmd h hk n o
section
variable {zs:List Zn} {kn:List (Int × Int)} {n:Note}
theorem str_nonneg(l:List (Int × Int))(s e:Nat→Int)(i:Nat):0≤str (Ve.cnt l) s e i:=by
 have:=Ve.cnt_nonneg l i
 unfold str
 split
 ·split<;>omega
 ·exact this
theorem cnt_str(l:List (Int × Int))(s e:Nat→Int)(i:Nat)(hi:i<64):Ve.cnt (Ve.ofL (str (Ve.cnt l) s e)) i=str (Ve.cnt l) s e i:=Ve.cnt_ofL _ (str_nonneg l s e) i hi
theorem cov_self(f:Nat→Int):Ve.cov f f=true:=(Ve.cov_iff _ _).2 (fun _ _=>Int.le_refl _)
theorem rch_taken(hz:fmd zs=true)(hk:Ve.fmd kn=true){o:Nat}(ho:o<256):rch (mkTo (zof zs kn n) 256) (Ve.joinL [kn,n.e]) (o:Int)=if Ve.cov (Ve.cnt (sho zs kn n o)) (Ve.cnt (Ve.joinL [kn,n.e]))=true then Ve.joinL [kn,n.e] else sho zs kn n o:=by
 unfold rch
 rw[at_mk (zof_fmd hz hk n) ho]
 unfold zof
 split<;>rfl
theorem zof_eq(zs:List Zn)(kn:List (Int × Int))(n:Note)(o:Nat):zof zs kn n o=if Ve.cov (Ve.cnt (sho zs kn n o)) (Ve.cnt (Ve.joinL [kn,n.e]))=true then none else some (sho zs kn n o):=rfl
theorem take_yes(hz:fmd zs=true)(hk:Ve.fmd kn=true)(hn:Nt.fmd n=true)(hf:Ve.cov (Ve.cnt kn) (Ve.cnt n.s)=true):tkR zs kn n=(mkTo (zof zs kn n) 256,Ve.joinL [kn,n.e],0):=by
 unfold tkR
 rw[if_pos ⟨hz,hk,hn⟩,if_pos hf]
theorem cov_trans{f g h:Nat→Int}(h1:Ve.cov f g=true)(h2:Ve.cov g h=true):Ve.cov f h=true:=(Ve.cov_iff _ _).2 (fun i hi=>Int.le_trans ((Ve.cov_iff _ _).1 h2 i hi) ((Ve.cov_iff _ _).1 h1 i hi))
end
end Tr
namespace Tr
theorem has_more{l r:List (Int × Int)}(h:Ve.cov (Ve.cnt r) (Ve.cnt l)=true){c n:Int}(hh:hasOf l c n=true):hasOf r c n=true:=by
 have h1:=(Ve.cov_iff _ _).1 h
 have h2:countOf l n≤countOf r n:=by
  unfold countOf
  split
  ·exact h1 _ (by omega)
  ·exact Int.le_refl _
 unfold hasOf at hh ⊢
 simp only[Bool.and_eq_true,decide_eq_true_eq]at hh ⊢
 exact⟨hh.1,by omega⟩
section
variable {zs:List Zn} {kn:List (Int × Int)} {n:Note}
theorem strd_ge(v:List (Int × Int))(n:Note)(o:Int):Ve.cov (Ve.cnt (strd v n o)) (Ve.cnt v)=true:=by
 unfold strd
 split
 ·exact cov_self _
 ·refine(Ve.cov_iff _ _).2 (fun i hi =>?_)
  rw[cnt_str v _ _ i hi]
  unfold str
  (repeat' split)<;>omega
theorem strd_le{v K:List (Int × Int)}(hv:Ve.cov (Ve.cnt K) (Ve.cnt v)=true)(he:Ve.cov (Ve.cnt K) (Ve.cnt n.e)=true)(o:Int):Ve.cov (Ve.cnt K) (Ve.cnt (strd v n o))=true:=by
 unfold strd
 split
 ·exact hv
 ·refine(Ve.cov_iff _ _).2 (fun i hi =>?_)
  have h1:=(Ve.cov_iff _ _).1 hv i hi
  have h2:=(Ve.cov_iff _ _).1 he i hi
  rw[cnt_str v _ _ i hi]
  unfold str
  (repeat' split)<;>omega
theorem reach_rises(hz:fmd zs=true)(hk:Ve.fmd kn=true){o:Nat}(ho:o<256)(hc:Ve.cov (Ve.cnt kn) (Ve.cnt (rch zs kn (o:Int)))=true) :
  Ve.cov (Ve.cnt (rch (mkTo (zof zs kn n) 256) (Ve.joinL [kn,n.e]) (o:Int))) (Ve.cnt (rch zs kn (o:Int)))=true∧Ve.cov (Ve.cnt (Ve.joinL [kn,n.e])) (Ve.cnt (rch (mkTo (zof zs kn n) 256) (Ve.joinL [kn,n.e]) (o:Int)))=true:=by
 rw[rch_taken hz hk ho]
 have hK:=cov_trans (Ve.cov_join_left kn n.e) hc
 split
 ·exact⟨hK,cov_self _⟩
 ·have hs:Ve.cov (Ve.cnt (sho zs kn n o)) (Ve.cnt (rch zs kn (o:Int)))=true∧Ve.cov (Ve.cnt (Ve.joinL [kn,n.e])) (Ve.cnt (sho zs kn n o))=true:=by
   unfold sho
   split
   ·exact⟨cov_self _,hK⟩
   ·exact⟨strd_ge _ _ _,strd_le hK (Ve.cov_join_right kn n.e) _⟩
  exact hs
end
theorem blr_in{zs:List Zn}(hz:fmd zs=true){o:Nat}(ho:o<256):Sp.inL (blr zs) o=(at_ zs (o:Int)).isSome:=by
 unfold blr
 rw[if_pos hz,Sp.inL_ofL _ o ho]
end Tr
end Go.Proofs.YtjlfehpockfkdaaGreat
namespace Go.Proofs.YtjlfehpockfkdaaGreat
open Go.RowKit Fb
section
variable {P:Program}
theorem results_tmp_cell_tmp{fn:Func}{p t1 t2:Tmp}{ty:TypeId}(h:fn.results=#[.tmp t1,.cell p ty,.tmp t2])(tmps:Array Value)(w:World)(g:Nat)(t:TypeId)(cs:Array Value)(d:TypeDesc)
  (hp:tmps.getD p undef = .pointer (some ⟨g,0,none⟩))(hg:Blk w g t cs)(hu:P.underlying ty=some d)(hd:(match d with | .struct _ | .array _ _=>true|_=>false)=true)(hi:(P.info? ty).map (·.size)=some cs.size) :
  (results fn tmps).run P w = .ok (.tuple #[tmps.getD t1 undef,.agg cs,tmps.getD t2 undef]) w:=by
 have hp':tmps[p]?.getD undef = .pointer (some ⟨g,0,none⟩):=by simpa using hp
 simp[results,h,hp',asAddr,run_loadVar_row w g t ty cs (0,0) d hg hu hd hi]
end
theorem infoWrz:(Tryz.prog.info? 52).map (·.size)=some 4:=by kernel_rfl
def GivesRd(b:List Int)(x:Wr)(k:Int)(w:World)(e:Ending)(w':World):Prop:=∃(Y:Option Addr) (d:Nat),e = .returned (.tuple #[.slice Y b.length d,.agg (Nt.wrArr x),.int .i64 k])∧OneB w' Y d b∧Below w.heap.size w w'
theorem Vw.fmd_z{v:Vw}(h:Vw.fmd v=true):Tr.fmd v.z=true:=by
 unfold Vw.fmd at h
 simp only[Bool.and_eq_true]at h
 exact h.1.2.1
theorem Vw.blr_is{v:Vw}(h:Vw.fmd v=true){o:Int}(ho:0≤o∧o≤255):inOf (Tr.blr v.z) o=(Tr.at_ v.z o).isSome:=by
 unfold inOf
 rw[decide_eq_true ho,Bool.true_and,Tr.blr_in (Vw.fmd_z h) (by omega),show((o.toNat:Nat):Int)=o by omega]
end Go.Proofs.YtjlfehpockfkdaaGreat
namespace Go.Proofs.YtjlfehpockfkdaaGreat
open Go.RowKit
def Mild(w w':World):Prop:=w.heap.size≤w'.heap.size∧∀k,k<w.heap.size→w'.heap[k]?=w.heap[k]?∨∃cs t fr,w.heap[k]?=some (.cells cs t fr)∧dull cs=true
section
variable {w w':World}
theorem Mild.below(h:Below w.heap.size w w'):Mild w w':=⟨h.size,fun k hk =>.inl (h.block k hk)⟩
theorem Mild.put{g:Nat}{t:TypeId}{cs:Array Value}(hB:Blk w g t cs)(hd:dull cs=true)(i:Nat)(v:Value):Mild w (w.setCell ⟨g,i,none⟩ v):=
 ⟨by simp,fun k hk=>by
  by_cases e:k=g
  ·subst e;exact .inr ⟨cs,t,(0,0),hB,hd⟩
  ·exact .inl (Below.heap_setCell w _ v k e)⟩
theorem Lies.mild{A:Option Addr}{xs:List Value}(hl:Lies w A xs)(h2:xs≠[]→∃x y,xs[0]?=some x∧xs[1]?=some y∧intAt x=true∧intAt y=true)(h:Mild w w'):Lies w' A xs:=fun hne=>by
 obtain⟨b,off,hA,hc⟩:=hl hne
 obtain⟨x,y,hx,hy,ix,iy⟩:=h2 hne
 have h0:=hc 0 x hx
 have h1:=hc 1 y hy
 have hlt:b<w.heap.size:=by
  rcases Nat.lt_or_ge b w.heap.size with h3|h3
  ·exact h3
  ·simp[World.cell?,Array.getElem?_eq_none h3]at h0
 refine⟨b,off,hA,fun j u hu =>?_⟩
 rcases h.2 b hlt with e|⟨cs,t,fr,hB,hd⟩
 ·exact(World.cell?_of_block e).trans (hc j u hu)
 ·exfalso
  rw[cell_of_row w b _ cs t fr hB]at h0 h1
  rw[←Array.getElem?_toList]at h0 h1
  exact dullL_two hd h0 h1 ix iy
theorem Lies.mildB{A:Option Addr}{xs:List Value}(hl:Lies w A xs)(h2:∀u∈xs,byteAt u=true)(h:Mild w w'):Lies w' A xs:=fun hne=>by
 obtain⟨b,off,hA,hc⟩:=hl hne
 refine⟨b,off,hA,fun j u hu =>?_⟩
 have h0:=hc j u hu
 have hlt:b<w.heap.size:=by
  rcases Nat.lt_or_ge b w.heap.size with h3|h3
  ·exact h3
  ·simp[World.cell?,Array.getElem?_eq_none h3]at h0
 rcases h.2 b hlt with e|⟨cs,t,fr,hB,hd⟩
 ·exact(World.cell?_of_block e).trans h0
 ·exfalso
  rw[cell_of_row w b _ cs t fr hB]at h0
  rw[←Array.getElem?_toList]at h0
  have h3:=dullL_byte hd h0
  rw[h2 u (List.mem_of_getElem? hu)]at h3
  cases h3
theorem OneL.mild{A:Option Addr}{c:Nat}{l:List (Int × Int)}(hl:OneL w A c l)(h:Mild w w'):OneL w' A c l:=
 ⟨hl.1,hl.2.1,hl.2.2.1,hl.2.2.2.mild (fun hne=>by
  cases l with
  |nil=>exact absurd rfl hne
  |cons x r=>exact⟨_,_,rfl,rfl,rfl,rfl⟩) h⟩
theorem OneW.mild{A:Option Addr}{c:Nat}{l:List Wr}(hl:OneW w A c l)(h:Mild w w'):OneW w' A c l:=
 ⟨hl.1,hl.2.1,hl.2.2.1,hl.2.2.2.mild (fun hne=>by
  cases l with
  |nil=>exact absurd rfl hne
  |cons x r=>exact⟨_,_,rfl,rfl,rfl,rfl⟩) h⟩
theorem OneZ.mild{A:Option Addr}{c:Nat}{L:List Zc}(hl:OneZ w A c L)(h:Mild w w'):OneZ w' A c L:=
 ⟨hl.le,hl.cap,hl.noA,hl.lies.mild (fun hne=>by
  cases L with
  |nil=>exact absurd rfl hne
  |cons x r=>exact⟨_,_,rfl,rfl,rfl,rfl⟩) h,fun z hz=>(hl.each z hz).mild h⟩
theorem OneB.mild{A:Option Addr}{c:Nat}{l:List Int}(hl:OneB w A c l)(h:Mild w w'):OneB w' A c l:=
 ⟨hl.le,hl.cap,hl.noA,hl.lies.mildB (fun u hu=>by
  unfold bCells at hu
  obtain⟨x,_,rfl⟩:=List.mem_map.1 hu
  rfl) h,hl.byte⟩
theorem OneC.mild{A:Option Addr}{c:Nat}{L:List Bc}(hl:OneC w A c L)(h:Mild w w'):OneC w' A c L:=
 ⟨hl.le,hl.cap,hl.noA,hl.lies.mild (fun hne=>by
  cases L with
  |nil=>exact absurd rfl hne
  |cons x r=>exact⟨_,_,rfl,rfl,rfl,rfl⟩) h,fun z hz=>(hl.each z hz).mild h⟩
theorem VwAt.mild{q:Vl}(hq:VwAt w q)(h:Mild w w'):VwAt w' q:=⟨hq.k.mild h,hq.z.mild h,hq.h.mild h,hq.b.mild h⟩
theorem NoteAt.mild{S E B V:Option Addr}{cs ce cb cv:Nat}{n:Note}(hn:NoteAt w S E B V cs ce cb cv n)(h:Mild w w'):NoteAt w' S E B V cs ce cb cv n:=⟨hn.hs.mild h,hn.he.mild h,hn.hb.mild h,hn.hv.mild h⟩
end
theorem Mild.trans{a b c:World}(h1:Mild a b)(h2:Mild b c):Mild a c:=⟨Nat.le_trans h1.1 h2.1,fun k hk=>by
 rcases h1.2 k hk with e|h
 ·rcases h2.2 k (Nat.lt_of_lt_of_le hk h1.1) with e2|⟨cs,t,fr,hB,hd⟩
  ·exact .inl (e2.trans e)
  ·exact .inr ⟨cs,t,fr,e ▸ hB,hd⟩
 ·exact .inr h⟩
namespace Vw
theorem k_len{l:List (Int × Int)}(h:Ve.fmd l=true):l.length≤64:=by
 have h1:=(Ve.fmd_iff l).1 h
 have h2:∀j,j<l.length→(j:Int)≤(l.getD j (0,0)).2∧(l.getD j (0,0)).2≤63:=by
  intro j
  induction j with
  |zero=>
   intro hj
   have h3:=(h1 0 hj).1
   unfold St.rgt at h3
   have h4:=of_decide_eq_true h3
   omega
  |succ j ih=>
   intro hj
   have h3:=h1 (j+1) hj
   have h5:=ih (by omega)
   have h6:=h3.2 (by omega)
   rw[Nat.add_sub_cancel]at h6
   have h7:=h3.1
   unfold St.rgt at h7
   have h4:=of_decide_eq_true h7
   omega
 by_cases h0:l.length=0
 ·omega
 ·have:=h2 (l.length-1) (by omega)
  omega
end Vw
end Go.Proofs.YtjlfehpockfkdaaGreat
namespace Go.Proofs.YtjlfehpockfkdaaGreat
open Go.RowKit Fb
theorem Vw.fmd_all{v:Vw}(h:Vw.fmd v=true):Ve.fmd v.k=true∧Tr.fmd v.z=true∧Sf.fmd v.h=true∧Ca.fmd v.b v.r=true:=by
 unfold Vw.fmd at h
 simp only[Bool.and_eq_true]at h
 exact⟨h.1.1,h.1.2.1,h.1.2.2.1,h.1.2.2.2⟩
instance:DecidableEq Vw:=fun x y=>decidable_of_iff (x.k=y.k∧x.z=y.z∧x.h=y.h∧x.b=y.b∧x.r=y.r) (by
 cases x
 cases y
 simp)
theorem infoNt4:(Tryz.prog.info? 40).map (·.size)=some 4:=by kernel_rfl
theorem Vw.ws_len{n:Note}(h:Nt.fmd n=true):n.ws.length≤256:=by
 have hw:Nt.wsOk n=true:=by
  unfold Nt.fmd at h
  simp only[Bool.and_eq_true]at h
  exact h.2.2.2.2
 unfold Nt.wsOk at hw
 have h1:=of_decide_eq_true hw
 have h2:∀j,j<n.ws.length→(j:Int)≤Nt.obj n.ws j∧Nt.obj n.ws j≤255:=by
  intro j
  induction j with
  |zero=>
   intro hj
   have h3:=(h1 ⟨0,hj⟩).2.1
   exact⟨h3.1,h3.2⟩
  |succ j ih=>
   intro hj
   have h3:=h1 ⟨j+1,hj⟩
   have h5:=ih (by omega)
   have h6:=h3.2.2.2 (by show 0<j+1;omega)
   have h7:Nt.obj n.ws j<Nt.obj n.ws (j+1):=h6
   have h8:=h3.2.1
   have h9:Nt.obj n.ws (j+1)≤255:=h8.2
   omega
 by_cases h0:n.ws.length=0
 ·omega
 ·have:=h2 (n.ws.length-1) (by omega)
  omega
theorem Vw.tk_ok{zs:List Zn}{kn:List (Int × Int)}{n:Note}(h:(Tr.tkR zs kn n).2.2=0):Nt.fmd n=true:=by
 unfold Tr.tkR at h
 by_cases c:Tr.fmd zs=true∧Ve.fmd kn=true∧Nt.fmd n=true
 ·exact c.2.2
 ·rw[if_neg c]at h
  cases h
end Go.Proofs.YtjlfehpockfkdaaGreat
namespace Go.Proofs.YtjlfehpockfkdaaGreat
open Go.RowKit
theorem few_below:∀(m:Nat) (l:List Int),l.Pairwise (· ≠ ·)→(∀x∈l,0≤x∧x<(m:Int))→l.length≤m
 |0,l,_,hb=>by
  cases l with
  |nil=>exact Nat.le_refl _
  |cons x r=>have:=hb x List.mem_cons_self;omega
 |m+1,l,hp,hb=>by
  have h1:=few_below m (l.filter fun x =>!decide (x=(m:Int))) (hp.filter _) (fun x hx=>by
   obtain⟨h2,h3⟩:=List.mem_filter.1 hx
   have h4:=hb x h2
   simp only[Bool.not_eq_true',decide_eq_false_iff_not]at h3
   omega)
  have h5:∀l:List Int,l.Pairwise (· ≠ ·)→l.length≤(l.filter fun x =>!decide (x=(m:Int))).length+1:=by
   intro l
   induction l with
   |nil=>intro _;simp
   |cons x r ih=>
    intro hp
    rw[List.pairwise_cons]at hp
    by_cases hx:x=(m:Int)
    ·have h6:r.filter (fun x =>!decide (x=(m:Int)))=r:=List.filter_eq_self.2 (fun y hy=>by
      have:=hp.1 y hy
      simp only[Bool.not_eq_true',decide_eq_false_iff_not]
      omega)
     rw[List.filter_cons,if_neg (by simp[hx]),h6]
     exact Nat.le_refl _
    ·have h7:=ih hp.2
     rw[List.filter_cons,if_pos (by simp[hx])]
     simp only[List.length_cons]
     omega
  have h8:=h5 l hp
  omega
namespace Ca
theorem fit_suffix(room:Int):∀l:List Bd,fit room l <:+ l
 | []=>List.suffix_refl _
 |x::r=>by
  unfold fit
  split
  ·exact(fit_suffix room r).trans (List.suffix_cons x r)
  ·exact List.suffix_refl _
theorem fit_used(room:Int)(h0:0≤room):∀l:List Bd,(used (fit room l):Int)≤room
 | []=>by simp[fit,used];exact h0
 |x::r=>by
  unfold fit
  split
  ·exact fit_used room h0 r
  ·omega
theorem oks_list(l:List Bd):oks l=true↔(∀x∈l,Wi.bright x=true)∧l.Pairwise (fun x y=>x.o≠y.o):=by
 rw[oks_iff,List.pairwise_iff_getElem]
 have hg:∀j (hj:j<l.length),l.getD j Bd.zero=l[j]:=fun j hj=>by rw[List.getD_eq_getElem?_getD,List.getElem?_eq_getElem hj];rfl
 constructor
 ·intro h
  refine⟨fun x hx =>?_,fun i j hi hj hij =>?_⟩
  ·obtain⟨j,hj,rfl⟩:=List.mem_iff_getElem.1 hx
   have:=(h j hj).1
   rwa [hg j hj]at this
  ·have:=(h j hj).2 i hij
   rwa [hg i hi,hg j hj]at this
 ·rintro ⟨h1,h2⟩ j hj
  refine⟨by rw[hg j hj];exact h1 _ (List.getElem_mem hj),fun i hi =>?_⟩
  rw[hg j hj,hg i (by omega)]
  exact h2 i j (by omega) hj hi
theorem few_ok{l:List Bd}(h:∀j,j<l.length→ok l j):l.length≤256:=by
 have h1:=few_below 256 (l.map Bd.o) (by
  rw[List.pairwise_iff_getElem]
  intro i j hi hj hij
  simp only[List.length_map]at hi hj
  have h2:=(h j hj).2 i hij
  rw[List.getD_eq_getElem?_getD,List.getD_eq_getElem?_getD,List.getElem?_eq_getElem hi,List.getElem?_eq_getElem hj]at h2
  simpa using h2) (fun x hx=>by
  obtain⟨b,hb,rfl⟩:=List.mem_map.1 hx
  obtain⟨j,hj,rfl⟩:=List.mem_iff_getElem.1 hb
  have h2:=(h j hj).1
  rw[List.getD_eq_getElem?_getD,List.getElem?_eq_getElem hj]at h2
  have h3:=right_obj h2
  dsimp only[Option.getD_some]at h3
  omega)
 rwa [List.length_map]at h1
end Ca
namespace Ca
theorem fmd_list{l:List Bd}{r:Int}:fmd l r=true↔0≤r∧r≤16777216∧(∀x∈l,Wi.bright x=true)∧l.Pairwise (fun x y=>x.o≠y.o)∧(used l:Int)≤r:=by
 unfold fmd
 simp only[Bool.and_eq_true,decide_eq_true_eq]
 constructor
 ·rintro ⟨⟨h1,h2,-⟩,h4,h5⟩
  obtain⟨h6,h7⟩:=(oks_list l).1 h4
  exact⟨h1,h2,h6,h7,h5⟩
 ·rintro ⟨h1,h2,h6,h7,h5⟩
  have h4:=(oks_list l).2 ⟨h6,h7⟩
  exact⟨⟨h1,h2,few_ok ((oks_iff l).1 h4)⟩,h4,h5⟩
theorem used_sub{l r:List Bd}(h:l.Sublist r):used l≤used r:=by
 induction h with
 |slnil=>exact Nat.le_refl _
 |cons x _ ih=>simp only[used];omega
 |cons_cons x _ ih=>simp only[used];omega
theorem fmd_sub{l s:List Bd}{r:Int}(h:fmd l r=true)(hs:s.Sublist l):fmd s r=true:=by
 obtain⟨h1,h2,h3,h4,h5⟩:=fmd_list.1 h
 have:=used_sub hs
 exact fmd_list.2 ⟨h1,h2,fun x hx=>h3 x (hs.subset hx),h4.sublist hs,by omega⟩
theorem put_fmd{S:List Bd}{room:Int}{x:Bd}(hf:fmd S room=true)(hx:Wi.bright x=true):putR S room x=(fit room (forget S x.o++[x]),0)∧fmd (putR S room x).1 room=true∧∀y∈(putR S room x).1,y=x∨(y∈S∧y.o≠x.o):=by
 have he:putR S room x=(fit room (forget S x.o++[x]),0):=by unfold putR;rw[if_pos hf,if_pos hx]
 obtain⟨r0,r1,hb,hp,-⟩:=fmd_list.1 hf
 have hfit:=fit_suffix room (forget S x.o++[x])
 have hfs:(forget S x.o).Sublist S:=List.filter_sublist
 have hall:(forget S x.o++[x]).Pairwise (fun x y=>x.o≠y.o):=List.pairwise_append.2 ⟨hp.sublist hfs,List.pairwise_singleton _ _,fun a ha b hb=>by
  rw[List.mem_singleton]at hb
  subst hb
  have:=(List.mem_filter.1 ha).2
  simpa using this⟩
 have hm:∀y∈forget S x.o++[x],y=x∨(y∈S∧y.o≠x.o):=fun y hy=>by
  rcases List.mem_append.1 hy with hy|hy
  ·have h1:=(List.mem_filter.1 hy).2
   exact .inr ⟨hfs.subset hy,by simpa using h1⟩
  ·exact .inl (List.mem_singleton.1 hy)
 rw[he]
 refine⟨rfl,fmd_list.2 ⟨r0,r1,fun y hy =>?_,hall.sublist hfit.sublist,fit_used room r0 _⟩,fun y hy=>hm y (hfit.sublist.subset hy)⟩
 rcases hm y (hfit.sublist.subset hy) with rfl|⟨h,-⟩
 ·exact hx
 ·exact hb y h
end Ca
namespace Sf
theorem put1_mem{f:Mp}{x y:Wr}{j:Nat}(h:put1 f x j=some y):y=x∨f j=some y:=by
 unfold put1 at h
 by_cases e:(j:Int)=x.2.2.1
 ·rw[if_pos e]at h
  injection h with h
  rcases newer_or x (f j) with h2|h2
  ·exact .inl (h.symm.trans h2)
  ·exact .inr (by rw[←h2,h])
 ·rw[if_neg e]at h
  exact .inr h
theorem puts_mem{y:Wr}{j:Nat}:∀(l:List Wr) (f:Mp),Sf.puts f l j=some y→y∈l∨f j=some y
 | [],f,h =>.inr h
 |x::r,f,h=>by
  rcases puts_mem r (put1 f x) h with h1|h1
  ·exact .inl (List.mem_cons_of_mem _ h1)
  ·rcases put1_mem h1 with rfl|h2
   ·exact .inl List.mem_cons_self
   ·exact .inr h2
theorem putR_mem{l r:List Wr}{y:Wr}(hy:y∈(putR l r).1):y∈l∨y∈r:=by
 unfold putR at hy
 by_cases h:fmd l=true
 ·rw[if_pos h]at hy
  by_cases h2:r.all right=true
  ·rw[if_pos h2]at hy
   obtain⟨j,_,hj⟩:=mem_outTo.1 hy
   rcases puts_mem r (of l) hj with h3|h3
   ·exact .inr h3
   ·exact .inl ((of_iff h j y).1 h3).1
  ·rw[if_neg h2]at hy;cases hy
 ·rw[if_neg h]at hy;cases hy
theorem putR_fmd(l r:List Wr):fmd (putR l r).1=true:=by
 rcases putR_ways l r with ⟨-,h⟩|h
 ·exact h
 ·rw[h];exact fmd_nil
end Sf
namespace Tr
theorem mkTo_vec{f:Nat→Option (List (Int × Int))}:∀k,∀z∈mkTo f k,∃o,o<k∧f o=some z.2.2
 |0,z,hz=>by cases hz
 |k+1,z,hz=>by
  unfold mkTo at hz
  cases hf:f k with
  |none=>
   rw[hf]at hz
   obtain⟨o,h1,h2⟩:=mkTo_vec k z hz
   exact⟨o,by omega,h2⟩
  |some v=>
   rw[hf]at hz
   dsimp only at hz
   by_cases hg:goesOn (mkTo f k) k v=true
   ·rw[if_pos hg]at hz
    unfold ext at hz
    rcases List.mem_append.1 hz with h|h
    ·obtain⟨o,h1,h2⟩:=mkTo_vec k z (List.dropLast_subset _ h)
     exact⟨o,by omega,h2⟩
    ·rw[List.mem_singleton]at h
     subst h
     unfold goesOn at hg
     have:=of_decide_eq_true hg
     exact⟨k,by omega,by rw[hf];exact congrArg some this.2.2.symm⟩
   ·rw[if_neg hg]at hz
    rcases List.mem_append.1 hz with h|h
    ·obtain⟨o,h1,h2⟩:=mkTo_vec k z h
     exact⟨o,by omega,h2⟩
    ·rw[List.mem_singleton]at h
     subst h
     exact⟨k,by omega,hf⟩
end Tr
namespace Vw
structure Ok (v:Vw):Prop where
 k:Ve.fmd v.k=true
 z:Tr.fmd v.z=true
 h:Sf.fmd v.h=true
 b:Ca.fmd v.b v.r=true
 below:∀z∈v.z,Ve.stand (Ve.cnt z.2.2) (Ve.cnt v.k)=1
 has:∀y∈v.h,v.has y=true
 wants:∀x∈v.b,v.wants x=true
theorem ok_iff(v:Vw):fmd v=true↔Ok v:=by
 unfold fmd
 simp only[Bool.and_eq_true,List.all_eq_true,decide_eq_true_eq]
 exact⟨fun⟨⟨h1,h2,h3,h4⟩,h5,h6,h7⟩=>⟨h1,h2,h3,h4,h5,h6,h7⟩,fun h=>⟨⟨h.k,h.z,h.h,h.b⟩,h.below,h.has,h.wants⟩⟩
theorem stand_one{f g:Nat→Int}:Ve.stand f g=1↔Ve.cov f g=false∧Ve.cov g f=true:=by
 unfold Ve.stand
 cases Ve.cov f g<;>cases Ve.cov g f<;>simp
theorem Ok.cov{v:Vw}(h:Ok v)(o:Int):Ve.cov (Ve.cnt v.k) (Ve.cnt (Tr.rch v.z v.k o))=true:=by
 unfold Tr.rch
 rcases Tr.at_ways v.z o with ⟨-,e,-⟩|⟨k,h1,-,e,-,-⟩
 ·rw[e];exact Tr.cov_self _
 ·rw[e]
  refine(stand_one.1 (h.below (v.z.getD k (0,0,[])) ?_)).2
  rw[List.getD_eq_getElem?_getD,List.getElem?_eq_getElem h1]
  exact List.getElem_mem h1
theorem rchR_in{v:Vw}(h:Ok v){o:Int}(ho:0≤o∧o≤255):Tr.rchR v.z v.k o=Tr.rch v.z v.k o:=if_pos ⟨h.z,h.k,ho.1,ho.2⟩
theorem tk_ways(v:Vw)(n:Note)(h:(Tr.tkR v.z v.k n).2.2=0)(hv:Ok v):Nt.fmd n=true∧Ve.cov (Ve.cnt v.k) (Ve.cnt n.s)=true∧Tr.tkR v.z v.k n=(Tr.mkTo (Tr.zof v.z v.k n) 256,Ve.joinL [v.k,n.e],0):=by
 have hn:=tk_ok h
 cases hc:Ve.cov (Ve.cnt v.k) (Ve.cnt n.s) with
 |true=>exact⟨hn,rfl,Tr.take_yes hv.z hv.k hn hc⟩
 |false=>
  exfalso
  unfold Tr.tkR at h
  rw[if_pos ⟨hv.z,hv.k,hn⟩,if_neg (by rw[hc];exact Bool.false_ne_true)]at h
  cases h
theorem obj_right{l:List Wr}(h:Sf.fmd l=true){y:Wr}(hy:y∈l):0≤y.2.2.1∧y.2.2.1≤255:=by
 have:=(Sf.right_iff y).1 (((Sf.fmd_list l).1 h).1 y hy)
 exact⟨this.1,this.2.1⟩
theorem take_ok{v:Vw}{n:Note}(h:(takeR v n).2=0):Ok (takeR v n).1:=by
 cases hf:fmd v with
 |false=>unfold takeR at h;rw[if_neg (by rw[hf];exact Bool.false_ne_true)]at h;cases h
 |true=>
 have hv:=(ok_iff v).1 hf
 by_cases h0:(Tr.tkR v.z v.k n).2.2=0
 ·obtain⟨hn,hc,he⟩:=tk_ways v n h0 hv
  have ht:takeR v n=(⟨(Tr.tkR v.z v.k n).2.1,(Tr.tkR v.z v.k n).1,heldR v (Tr.tkR v.z v.k n).1 (Tr.tkR v.z v.k n).2.1 n,
    v.b.filter (Vw.wants ⟨(Tr.tkR v.z v.k n).2.1,(Tr.tkR v.z v.k n).1,heldR v (Tr.tkR v.z v.k n).1 (Tr.tkR v.z v.k n).2.1 n,[],v.r⟩),v.r⟩,0):=by
   unfold takeR;rw[if_pos hf,if_pos h0]
  rw[ht]
  clear h ht
  rw[he]
  dsimp only
  obtain⟨zs,hzs⟩:∃zs,Tr.mkTo (Tr.zof v.z v.k n) 256=zs:=⟨_,rfl⟩
  obtain⟨kn,hkn⟩:∃kn,Ve.joinL [v.k,n.e]=kn:=⟨_,rfl⟩
  rw[hzs,hkn]
  have hkf:Ve.fmd kn=true:=by rw[←hkn];exact Ve.fmd_joinL _
  have hzf:Tr.fmd zs=true:=by rw[←hzs];exact Tr.fmd_mk (Tr.zof_fmd hv.z hv.k n)
  have hcK:∀o:Int,Ve.cov (Ve.cnt kn) (Ve.cnt (Tr.rch v.z v.k o))=true:=fun o=>by rw[←hkn];exact Tr.cov_trans (Ve.cov_join_left v.k n.e) (hv.cov o)
  refine⟨hkf,hzf,Sf.putR_fmd _ _,Ca.fmd_sub hv.b List.filter_sublist,fun z hz =>?_,fun y hy =>?_,fun x hx=>(List.mem_filter.1 hx).2⟩
  ·have hz2:z∈Tr.mkTo (Tr.zof v.z v.k n) 256:=by rw[hzs];exact hz
   obtain⟨o,ho,hzo⟩:=Tr.mkTo_vec 256 z hz2
   rw[Tr.zof_eq,hkn]at hzo
   by_cases c:Ve.cov (Ve.cnt (Tr.sho v.z v.k n o)) (Ve.cnt kn)=true
   ·rw[if_pos c]at hzo;cases hzo
   ·rw[if_neg c]at hzo
    have hzo2:=Option.some.inj hzo
    rw[←hzo2]
    refine stand_one.2 ⟨by simpa using c,?_⟩
    unfold Tr.sho
    split
    ·exact hcK _
    ·exact Tr.strd_le (hcK _) (by rw[←hkn];exact Ve.cov_join_right v.k n.e) _
  ·unfold heldR at hy
   rcases Sf.putR_mem hy with h1|h1
   ·have ho:=obj_right hv.h h1
    have h2:=hv.has y h1
    unfold Vw.has at h2 ⊢
    rw[rchR_in hv ho]at h2
    have hR:Tr.rchR zs kn y.2.2.1=Tr.rch zs kn y.2.2.1:=if_pos ⟨hzf,hkf,ho.1,ho.2⟩
    show hasOf (Tr.rchR zs kn y.2.2.1) y.1 y.2.1=true
    rw[hR]
    have hr:=(Tr.reach_rises (n:=n) hv.z hv.k (o:=y.2.2.1.toNat) (by omega) (by rw[show((y.2.2.1.toNat:Nat):Int)=y.2.2.1 by omega];exact hv.cov _)).1
    rw[show((y.2.2.1.toNat:Nat):Int)=y.2.2.1 by omega,hzs,hkn]at hr
    exact Tr.has_more hr h2
   ·exact(List.mem_filter.1 h1).2
 ·exfalso
  unfold takeR at h
  rw[if_pos hf,if_neg h0]at h
  exact h0 h
end Vw
namespace Sf
theorem putR_yes{l r:List Wr}(h:fmd l=true)(hr:r.all right=true):putR l r=(outTo (puts (of l) r) 256,0):=by unfold putR;rw[if_pos h,if_pos hr]
end Sf
namespace Vw
theorem take_is{v:Vw}(hv:Ok v){n:Note}(hn:Nt.fmd n=true)(hc:Ve.cov (Ve.cnt v.k) (Ve.cnt n.s)=true) :
  takeR v n=(⟨Ve.joinL [v.k,n.e],Tr.mkTo (Tr.zof v.z v.k n) 256,heldR v (Tr.mkTo (Tr.zof v.z v.k n) 256) (Ve.joinL [v.k,n.e]) n,
   v.b.filter (Vw.wants ⟨Ve.joinL [v.k,n.e],Tr.mkTo (Tr.zof v.z v.k n) 256,heldR v (Tr.mkTo (Tr.zof v.z v.k n) 256) (Ve.joinL [v.k,n.e]) n,[],v.r⟩),v.r⟩,0):=by
 have he:=Tr.take_yes hv.z hv.k hn hc
 unfold takeR
 rw[if_pos ((ok_iff v).2 hv),he,if_pos rfl]
end Vw
end Go.Proofs.YtjlfehpockfkdaaGreat
namespace Go.Proofs.YtjlfehpockfkdaaGreat
open Go.RowKit Fb
def GivesVwNE(v:Vw)(n:Note)(x:Int)(w:World)(e:Ending)(w':World):Prop:=
 ∃q S E B V cs ce cb cv,e = .returned (.tuple #[.agg (vwCells q),.agg (noteCells S E B V cs ce cb cv n),.int .i64 x])∧q.vw=v∧VwAt w' q∧NoteAt w' S E B V cs ce cb cv n∧Below w.heap.size w w'
structure ViewSpec:Prop where
 new:∀(room:Int) (w:World),Calls Tryz.prog 13 #[.int .i64 room] w (GivesVwE (Vw.newR room).1 (Vw.newR room).2 w)
 formed:∀(q:Vl) (w:World),VwAt w q→Calls Tryz.prog 15 #[.agg (vwCells q)] w (Says (.bool (Vw.fmd q.vw)) w)
 take:∀(q:Vl) (S E P U:Option Addr) (cs ce cp cu:Nat) (n:Note) (w:World),VwAt w q→NoteAt w S E P U cs ce cp cu n →
  Calls Tryz.prog 22 #[.agg (vwCells q),.agg (noteCells S E P U cs ce cp cu n)] w (GivesVwE (Vw.takeR q.vw n).1 (Vw.takeR q.vw n).2 w)
 write:∀(q:Vl) (me o skip:Int) (X:Option Addr) (d:Nat) (val:List Int) (gone:Bool) (w:World),Ve.top (Ve.cnt q.k)≤9223372036854775807→VwAt w q→OneB w X d val →
  Calls Tryz.prog 37 #[.agg (vwCells q),.int .i64 me,.int .i64 o,.int .i64 skip,.slice X val.length d,.bool gone] w (GivesVwNE (Vw.writeR q.vw me o skip val gone).1 (Vw.writeR q.vw me o skip val gone).2.1 (Vw.writeR q.vw me o skip val gone).2.2 w)
 body:∀(q:Vl) (X:Option Addr) (d:Nat) (x:Bd) (w:World),VwAt w q→OneB w X d x.v→Calls Tryz.prog 25 #[.agg (vwCells q),.agg (bdCells X d x)] w (GivesVwE (Vw.bodyR q.vw x).1 (Vw.bodyR q.vw x).2 w)
 read:∀(q:Vl) (o:Int) (w:World),VwAt w q→Calls Tryz.prog 27 #[.agg (vwCells q),.int .i64 o] w (GivesRd (Vw.readR q.vw o).1 (Vw.readR q.vw o).2.1 (Vw.readR q.vw o).2.2 w)
end Go.Proofs.YtjlfehpockfkdaaGreat
namespace Go.Proofs.YtjlfehpockfkdaaGreat
open Go.RowKit
namespace Ve
theorem le_top(f:Nat→Int):∀k n,n<k→f n≤topTo f k
 |0,_,h=>by cases h
 |k+1,n,h=>by
  unfold topTo
  by_cases e:n=k
  ·subst e;split<;>omega
  ·have:=le_top f k n (by omega)
   split<;>omega
end Ve
def Lo(n0:Nat)(A:Option Addr):Prop:=∀b off,A=some ⟨b,off,none⟩→n0≤b
theorem Lo.none{n0:Nat}:Lo n0 none:=fun b off h=>by cases h
theorem Lo.of_own{w:World}{base:Nat}{e:TypeId}{size n m c:Nat}{A:Option Addr}{xs:List Value}(h:w.ownsRow base e size (.slice A n c) m xs):Lo base A:=fun b off ha=>by
 subst ha
 exact own_ge h b rfl
theorem Lo.new{n0 k:Nat}(h:n0≤k)(off:Nat):Lo n0 (some ⟨k,off,Option.none⟩):=fun b o e=>by
 injection e with e
 injection e with e
 omega
theorem Lo.lower{n0 n1:Nat}{A:Option Addr}(h:Lo n1 A)(hn:n0≤n1):Lo n0 A:=fun b off ha=>Nat.le_trans hn (h b off ha)
def AnsNN(n:Note)(x:Int)(w:World)(e:Ending)(w':World):Prop:=∃S E B V cs ce cb cv,e = .returned (.tuple #[.agg (noteCells S E B V cs ce cb cv n),.int .i64 x])∧NoteAt w' S E B V cs ce cb cv n∧Lo w.heap.size V∧Below w.heap.size w w'
def LoZ(n0:Nat)(A:Option Addr)(L:List Zc):Prop:=Lo n0 A∧∀z∈L,Lo n0 z.X
theorem LoZ.none{n0:Nat}:LoZ n0 none []:=⟨Lo.none,fun z h=>by cases h⟩
theorem LoZ.lower{n0 n1:Nat}{A:Option Addr}{L:List Zc}(h:LoZ n1 A L)(hn:n0≤n1):LoZ n0 A L:=⟨h.1.lower hn,fun z hz=>(h.2 z hz).lower hn⟩
def GivesTN(r:Tr.Ans3)(w:World)(e:Ending)(w':World):Prop:=
 ∃A c L B cb,e = .returned (.tuple #[.slice A (List.length L) c,.slice B r.2.1.length cb,.int .i64 r.2.2])∧OneZ w' A c L∧L.map Zc.zn=r.1∧OneL w' B cb r.2.1∧LoZ w.heap.size A L∧Lo w.heap.size B∧Below w.heap.size w w'
theorem GivesTN.err{w w':World}(k:Int)(hb:Below w.heap.size w w'):GivesTN ([],[],k) w (.returned (.tuple #[.slice none 0 0,.slice none 0 0,.int .i64 k])) w':=⟨none,0,[],none,0,rfl,OneZ.nil _,rfl,OneL.nil,LoZ.none,Lo.none,hb⟩
def AnsWN(l:List Wr)(x:Int)(w:World)(e:Ending)(w':World):Prop:=∃A c,e = .returned (.tuple #[.slice A l.length c,.int .i64 x])∧OneW w' A c l∧Lo w.heap.size A∧Below w.heap.size w w'
def LoC(n0:Nat)(A:Option Addr)(L:List Bc):Prop:=Lo n0 A∧∀z∈L,Lo n0 z.X
theorem LoC.none{n0:Nat}:LoC n0 none []:=⟨Lo.none,fun z h=>by cases h⟩
theorem LoC.lower{n0 n1:Nat}{A:Option Addr}{L:List Bc}(h:LoC n1 A L)(hn:n0≤n1):LoC n0 A L:=⟨h.1.lower hn,fun z hz=>(h.2 z hz).lower hn⟩
theorem LoC.of_own{w:World}{base c:Nat}{A:Option Addr}{L:List Bc}(h:OwnC w base A c L):LoC base A L:=⟨h.row,fun z hz b off e=>(h.byte z hz b off e).1⟩
structure VwLo (n0:Nat) (q:Vl):Prop where
 k:Lo n0 q.K
 z:LoZ n0 q.Z q.z
 h:Lo n0 q.H
 b:LoC n0 q.B q.b
theorem VwLo.none{n0:Nat}:VwLo n0 Vl.none:=⟨Lo.none,LoZ.none,Lo.none,LoC.none⟩
theorem VwLo.lower{n0 n1:Nat}{q:Vl}(h:VwLo n1 q)(hn:n0≤n1):VwLo n0 q:=⟨h.k.lower hn,h.z.lower hn,h.h.lower hn,h.b.lower hn⟩
def GivesVwN(v:Vw)(x:Int)(w:World)(e:Ending)(w':World):Prop:=∃q,e = .returned (.tuple #[.agg (vwCells q),.int .i64 x])∧q.vw=v∧VwAt w' q∧VwLo w.heap.size q∧Below w.heap.size w w'
theorem GivesVwN.gives{v:Vw}{x:Int}{w w':World}{e:Ending}(h:GivesVwN v x w e w'):GivesVwE v x w e w':=by
 obtain⟨q,h1,h2,h3,-,h4⟩:=h
 exact⟨q,h1,h2,h3,h4⟩
def GivesVwNN(v:Vw)(n:Note)(x:Int)(w:World)(e:Ending)(w':World):Prop:=
 ∃q S E B V cs ce cb cv,e = .returned (.tuple #[.agg (vwCells q),.agg (noteCells S E B V cs ce cb cv n),.int .i64 x])∧q.vw=v∧VwAt w' q∧NoteAt w' S E B V cs ce cb cv n∧VwLo w.heap.size q∧Lo w.heap.size V∧Below w.heap.size w w'
namespace Vd
def sCells(f:Nat→Int × Int):Nat→List Value
 |0=>[]
 |k+1=>sCells f k++[.int .i64 (f k).1,.int .i64 (f k).2]
theorem sCells_len(f:Nat→Int × Int)(k:Nat):(sCells f k).length=k*2:=by
 induction k with
 |zero=>rfl
 |succ k ih=>simp[sCells,ih];omega
theorem sCells_get(f:Nat→Int × Int)(k o:Nat)(h:o<k):(sCells f k)[o*2]?=some (.int .i64 (f o).1)∧(sCells f k)[o*2+1]?=some (.int .i64 (f o).2):=by
 induction k with
 |zero=>omega
 |succ k ih=>
  have hl:=sCells_len f k
  by_cases he:o=k
  ·subst he
   simp only[sCells]
   rw[List.getElem?_append_right (by omega),List.getElem?_append_right (by omega),hl]
   simp
  ·have:=ih (by omega)
   simp only[sCells]
   rw[List.getElem?_append_left (by omega),List.getElem?_append_left (by omega)]
   exact this
theorem sCells_get_iff(f:Nat→Int × Int)(k j:Nat)(h:j<k*2):(sCells f k)[j]?=some (if j % 2=0 then .int .i64 (f (j / 2)).1 else .int .i64 (f (j / 2)).2):=by
 obtain⟨h0,h1⟩:=sCells_get f k (j / 2) (by omega)
 by_cases hm:j % 2=0
 ·rw[if_pos hm,←h0]
  congr 1
  omega
 ·rw[if_neg hm,←h1]
  congr 1
  omega
def sArr(f:Nat→Int × Int):Array Value:=(sCells f 256).toArray
theorem sArr_size(f:Nat→Int × Int):(sArr f).size=512:=by unfold sArr;simp[sCells_len]
theorem sArr_get(f:Nat→Int × Int)(o:Nat)(h:o<256):(sArr f)[o*2]?=some (.int .i64 (f o).1)∧(sArr f)[o*2+1]?=some (.int .i64 (f o).2):=by
 unfold sArr
 rw[List.getElem?_toArray,List.getElem?_toArray]
 exact sCells_get f 256 o h
def sPut(f:Nat→Int × Int)(o:Nat)(x:Int × Int):Nat→Int × Int:=fun i=>if i=o then x else f i
theorem sArr_put(f:Nat→Int × Int)(o:Nat)(x:Int × Int)(h:o<256) :
  ((sArr f).setIfInBounds (o*2) (.int .i64 x.1)).setIfInBounds (o*2+1) (.int .i64 x.2)=sArr (sPut f o x):=by
 apply Array.ext_getElem?
 intro j
 rw[Array.getElem?_setIfInBounds,Array.getElem?_setIfInBounds]
 simp only[Array.size_setIfInBounds,sArr_size]
 unfold sArr
 rw[List.getElem?_toArray,List.getElem?_toArray]
 by_cases hj:j<512
 ·rw[sCells_get_iff _ 256 j (by omega),sCells_get_iff _ 256 j (by omega)]
  unfold sPut
  by_cases h1:o*2+1=j
  ·subst h1
   rw[if_pos rfl,if_pos (by omega)]
   have e1:¬(o*2+1) % 2=0:=by omega
   have e2:(o*2+1) / 2=o:=by omega
   rw[if_neg e1,e2,if_pos rfl]
  ·rw[if_neg h1]
   by_cases h2:o*2=j
   ·subst h2
    rw[if_pos rfl,if_pos (by omega)]
    have e1:(o*2) % 2=0:=by omega
    have e2:(o*2) / 2=o:=by omega
    rw[if_pos e1,e2,if_pos rfl]
   ·rw[if_neg h2,if_neg (show ¬j / 2=o by omega)]
 ·have e1:(sCells f 256)[j]?=none:=List.getElem?_eq_none (by rw[sCells_len];omega)
  have e2:(sCells (sPut f o x) 256)[j]?=none:=List.getElem?_eq_none (by rw[sCells_len];omega)
  rw[e1,e2,if_neg (by omega),if_neg (by omega)]
def put1(f:Nat→Int × Int)(x:Wr):Nat→Int × Int:=if x.2.2.2=true then f else sPut f x.2.2.1.toNat (x.1,x.2.1)
def val(l:List Wr):Nat→Int × Int:=l.foldl put1 fun _=>(0,0)
theorem val_nil:val []=fun _=>(0,0):=rfl
theorem val_snoc(l:List Wr)(x:Wr):val (l++[x])=put1 (val l) x:=by unfold val;rw[List.foldl_append];rfl
theorem at_snoc(l:List Wr)(x:Wr)(o:Int):Nt.at_ (l++[x]) o=if (Nt.at_ l o).2=true then Nt.at_ l o else (if x.2.2.1=o then (x,true) else (Nt.zeroW,false)):=by
 unfold Nt.at_
 rw[List.find?_append]
 cases h:l.find? (fun x=>decide (x.2.2.1=o)) with
 |some y=>rfl
 |none=>
  by_cases hx:x.2.2.1=o
  ·simp[hx]
  ·simp[hx]
theorem snoc_ind{α:Type}{P:List α→Prop}(h0:P [])(h1:∀l x,P l→P (l++[x]))(l:List α):P l:=by
 have h:∀r:List α,P r.reverse:=fun r=>by
  induction r with
  |nil=>exact h0
  |cons x r ih=>rw[List.reverse_cons];exact h1 _ _ ih
 rw[←List.reverse_reverse l]
 exact h _
theorem val_at{l:List Wr}:(∀x∈l,Sf.right x=true)→l.Pairwise (fun x y=>x.2.2.1<y.2.2.1)→∀o:Nat,
  val l o=(if (Nt.at_ l (o:Int)).2=true∧(Nt.at_ l (o:Int)).1.2.2.2=false then ((Nt.at_ l (o:Int)).1.1,(Nt.at_ l (o:Int)).1.2.1) else (0,0))∧((Nt.at_ l (o:Int)).2=true→∃y∈l,y.2.2.1=(o:Int)):=by
 refine snoc_ind (P:=fun l=>(∀x∈l,Sf.right x=true)→l.Pairwise (fun x y=>x.2.2.1<y.2.2.1)→∀o:Nat,
  val l o=(if (Nt.at_ l (o:Int)).2=true∧(Nt.at_ l (o:Int)).1.2.2.2=false then ((Nt.at_ l (o:Int)).1.1,(Nt.at_ l (o:Int)).1.2.1) else (0,0))∧((Nt.at_ l (o:Int)).2=true→∃y∈l,y.2.2.1=(o:Int))) ?_ ?_ l
 ·intro _ _ o
  exact⟨by rw[val_nil];rfl,fun h=>by cases h⟩
 ·intro l x ih hr hp o
  have hp2:=List.pairwise_append.1 hp
  obtain⟨h1,h2⟩:=ih (fun y hy=>hr y (List.mem_append_left _ hy)) hp2.1 o
  have hx:=(Sf.right_iff x).1 (hr x (List.mem_append_right _ (List.mem_singleton.2 rfl)))
  have hno:(Nt.at_ l (o:Int)).2=true→x.2.2.1≠(o:Int):=fun ha=>by
   obtain⟨y,hy,he⟩:=h2 ha
   have:=hp2.2.2 y hy x (List.mem_singleton.2 rfl)
   omega
  rw[val_snoc,at_snoc]
  unfold put1
  by_cases ha:(Nt.at_ l (o:Int)).2=true
  ·rw[if_pos ha]
   refine⟨?_,fun _ =>?_⟩
   ·split
    ·exact h1
    ·unfold sPut
     rw[if_neg (by have:=hno ha;omega)]
     exact h1
   ·obtain⟨y,hy,he⟩:=h2 ha
    exact⟨y,List.mem_append_left _ hy,he⟩
  ·rw[if_neg ha]
   have h0:val l o=(0,0):=by rw[h1,if_neg (fun h=>ha h.1)]
   by_cases hxo:x.2.2.1=(o:Int)
   ·rw[if_pos hxo]
    refine⟨?_,fun _=>⟨x,List.mem_append_right _ (List.mem_singleton.2 rfl),hxo⟩⟩
    cases hg:x.2.2.2 with
    |true=>simp[h0]
    |false=>
     simp only[Bool.false_eq_true,if_false,and_self,if_true]
     unfold sPut
     rw[if_pos (by omega)]
   ·rw[if_neg hxo]
    refine⟨?_,fun h=>by cases h⟩
    simp only[Bool.false_eq_true,false_and,if_false]
    split
    ·exact h0
    ·unfold sPut
     rw[if_neg (by omega)]
     exact h0
theorem val_wants{v:Vw}(hf:Sf.fmd v.h=true)(x:Bd)(h0:0≤x.o)(hx:St.rgt x.c x.n=true):decide (val v.h x.o.toNat=(x.c,x.n))=Vw.wants v x:=by
 obtain⟨hr,hp⟩:=(Sf.fmd_list v.h).1 hf
 obtain⟨h1,-⟩:=val_at hr hp x.o.toNat
 rw[Int.toNat_of_nonneg h0]at h1
 unfold Vw.wants
 have hz:¬((0:Int),(0:Int))=(x.c,x.n):=by
  intro h
  injection h with ha hb
  rw[←ha,←hb]at hx
  exact absurd hx (by decide)
 rw[h1]
 obtain⟨⟨⟨a0,a1,a2,a3⟩,b⟩,hA⟩:∃a,Nt.at_ v.h x.o=a:=⟨_,rfl⟩
 rw[hA]
 cases b<;>cases a3<;>simp[hz,Prod.ext_iff]<;>exact fun a b=>hz (by rw[a,b])
end Vd
end Go.Proofs.YtjlfehpockfkdaaGreat
namespace Go.Proofs.YtjlfehpockfkdaaGreat
open Go.RowKit Fb
theorem vdisObject_any(o:Int)(w:World):Calls Tryz.prog 82 #[.int .i64 o] w fun e w'=>e = .returned (.bool (decide (0≤o∧o≤255)))∧w=w':=by
 by_cases h0:0≤o
 ·by_cases h1:o<256
  ·rw[decide_eq_true (show 0≤o∧o≤255 by omega)]
   go_enter Tryz.func82,Tryz.ntmps82
   go_wp2
   go_ret
   exact⟨rfl,rfl⟩
  ·rw[decide_eq_false (show ¬(0≤o∧o≤255) by omega)]
   go_enter Tryz.func82,Tryz.ntmps82
   go_wp2
   go_ret
   exact⟨rfl,rfl⟩
 ·rw[decide_eq_false (show ¬(0≤o∧o≤255) by omega)]
  go_enter Tryz.func82,Tryz.ntmps82
  go_wp2
  go_ret
  exact⟨rfl,rfl⟩
set_option maxRecDepth 100000 in
set_option maxHeartbeats 3200000 in
theorem vdhas_any(p:Nat)(f:Nat→Int × Int)(X:Option Addr)(d:Nat)(x:Bd)(w:World)(hP:Blk w p 119 (Vd.sArr f))(h0:0≤x.o)(h1:x.o≤255) :
  Calls Tryz.prog 76 #[.pointer (some ⟨p,0,none⟩),.agg (bdCells X d x)] w (Says (.bool (decide (f x.o.toNat=(x.c,x.n)))) w):=by
 obtain⟨o,c,n,v⟩:=x
 dsimp only at h0 h1 ⊢
 obtain⟨k,rfl⟩:∃k:Nat,o=(k:Int):=⟨o.toNat,by omega⟩
 rw[Int.toNat_natCast]
 have hk:k<256:=by omega
 obtain⟨⟨a0,a1⟩,hA⟩:∃a,f k=a:=⟨_,rfl⟩
 obtain⟨g0,g1⟩:=Vd.sArr_get f k hk
 rw[hA]at g0 g1 ⊢
 dsimp only at g0 g1
 have b0:=below_new (Below.refl w.heap.size w) (.cells #[.int .i64 (k:Int),.int .i64 c,.int .i64 n,.slice X v.length d] 49)
 have P0:=hP.alloc (.cells #[.int .i64 (k:Int),.int .i64 c,.int .i64 n,.slice X v.length d] 49)
 have X0:=Blk.new w 49 #[.int .i64 (k:Int),.int .i64 c,.int .i64 n,.slice X v.length d]
 obtain⟨W,hW⟩:∃W,w.alloc (.cells #[.int .i64 (k:Int),.int .i64 c,.int .i64 n,.slice X v.length d] 49)=W:=⟨_,rfl⟩
 rw[hW]at b0 P0 X0
 have q0:=P0.cell g0
 have q1:=P0.cell g1
 have x0:=X0.cell (i:=0) rfl
 have x1:=X0.cell (i:=1) rfl
 have x2:=X0.cell (i:=2) rfl
 have hi0:(0:Int)≤(k:Int):=by omega
 have hi1:(k:Int)<256:=by omega
 have HB:=Hd b0
 have HW:=Hd hW
 have fin:∀t,decide ((a0,a1)=(c,n))=t→∀m,Says (.bool (decide ((a0,a1)=(c,n)))) w (.returned (.bool t)) (W.drewN m):=fun t ht m=>⟨by rw[ht],below_drewN HB.out m⟩
 have FIN:=Hd fin
 clear hA g0 g1 hP P0 X0 hW b0 fin h0 h1
 unfold bdCells
 dsimp only
 by_cases e0:a0=c
 ·by_cases e1:a1=n
  ·have d0:(a0 == c)=true:=beq_iff_eq.2 e0
   have d1:(a1 == n)=true:=beq_iff_eq.2 e1
   have FF:=Hd (FIN.out true (decide_eq_true (by rw[e0,e1])))
   clear FIN e0 e1
   go_enter Tryz.func76,Tryz.ntmps76
   go_upto_region 1 with (fail)
   rw[HW.out]
   clear HW
   go_quiet (fail)
   go_wp2
   go_ret
   exact FF.out _
  ·have d0:(a0 == c)=true:=beq_iff_eq.2 e0
   have d1:(a1 == n)=false:=beq_eq_false_iff_ne.2 e1
   have FF:=Hd (FIN.out false (decide_eq_false (fun h=>e1 (by injection h))))
   clear FIN e0 e1
   go_enter Tryz.func76,Tryz.ntmps76
   go_upto_region 1 with (fail)
   rw[HW.out]
   clear HW
   go_quiet (fail)
   go_wp2
   go_ret
   exact FF.out _
 ·have d0:(a0 == c)=false:=beq_eq_false_iff_ne.2 e0
  have FF:=Hd (FIN.out false (decide_eq_false (fun h=>e0 (by injection h))))
  clear FIN e0
  go_enter Tryz.func76,Tryz.ntmps76
  go_upto_region 1 with (fail)
  rw[HW.out]
  clear HW
  go_quiet (fail)
  go_wp2
  go_ret
  exact FF.out _
theorem Tr.rch_some{zs:List Zn}{o:Int}{kn:List (Int × Int)}{k:Nat}(hk:k<zs.length)(h:Tr.holds (zs.getD k (0,0,[])) o=true)(hb:∀u,u<k→Tr.holds (zs.getD u (0,0,[])) o=false):Tr.rch zs kn o=(zs.getD k (0,0,[])).2.2:=by
 have e:zs.getD k (0,0,[])=zs[k]:=by rw[List.getD_eq_getElem?_getD,List.getElem?_eq_getElem hk];rfl
 have:zs.find? (fun z=>Tr.holds z o)=some (zs.getD k (0,0,[])):=by
  rw[List.find?_eq_some_iff_getElem]
  refine⟨h,k,hk,e.symm,fun j hj =>?_⟩
  have h2:=hb j hj
  rw[List.getD_eq_getElem?_getD,List.getElem?_eq_getElem (by omega)]at h2
  simp only[Option.getD_some]at h2
  rw[h2]
  rfl
 unfold Tr.rch Tr.at_
 rw[this]
 rfl
theorem Tr.rch_none{zs:List Zn}{o:Int}{kn:List (Int × Int)}(hb:∀u,u<zs.length→Tr.holds (zs.getD u (0,0,[])) o=false):Tr.rch zs kn o=kn:=by
 have:zs.find? (fun z=>Tr.holds z o)=none:=by
  rw[List.find?_eq_none]
  intro x hx
  obtain⟨j,hj,rfl⟩:=List.mem_iff_getElem.1 hx
  have h2:=hb j hj
  rw[List.getD_eq_getElem?_getD,List.getElem?_eq_getElem hj]at h2
  simp only[Option.getD_some]at h2
  rw[h2]
  exact Bool.false_ne_true
 unfold Tr.rch Tr.at_
 rw[this]
 rfl
set_option maxRecDepth 100000 in
set_option maxHeartbeats 3200000 in
theorem vdreach_any(A B:Option Addr)(c cb:Nat)(L:List Zc)(kn:List (Int × Int))(o:Int)(w:World)(h:OneZ w A c L)(hB:OneL w B cb kn) :
  Calls Tryz.prog 134 #[.slice A L.length c,.slice B kn.length cb,.int .i64 o] w (Ans (Tr.rch (L.map Zc.zn) kn o) w):=by
 have hlen:=h.len
 have HD:=Hd h
 have HK:=Hd hB
 obtain⟨r,hr⟩:∃r,Tr.rch (L.map Zc.zn) kn o=r:=⟨_,rfl⟩
 rw[hr]
 have HR:=Hd hr
 clear h hr hB
 go_enter Tryz.func134,Tryz.ntmps134
 go_wp2_with fail
 go_loopw [11] (fun s11 wr=>∃(k:Nat),k≤L.length∧s11 = .int .i64 (k:Int)∧(∀(u:Nat),u<k→Tr.holds ((L.map Zc.zn).getD u (0,0,[])) o=false)∧Below w.heap.size w wr) (fun s11 _=>L.length-(intOf s11).toNat)
 case atStart=>exact⟨0,Nat.zero_le _,rfl,fun u hu=>by omega,Below.refl _ _⟩
 case round=>
  obtain⟨k,hk,rfl,hno,hbw⟩:=hrel
  have HNO:=Hd hno
  clear hno
  by_cases hlt:k<L.length
  ·have hne:L≠[]:=fun e=>by subst e;simp at hlt
   have hz:=HD.out.later hbw
   obtain⟨b,off,hA,hc⟩:=hz.at hne
   obtain⟨x,hx⟩:∃x,L[k]?=some x:=⟨L[k],List.getElem?_eq_getElem hlt⟩
   obtain⟨e0,e1,e2⟩:=hc k x hx
   have hxl:=hz.each x (List.mem_of_getElem? hx)
   have hg:=zn_getD hx
   have hi0:(0:Int)≤(k:Int):=by omega
   have hi1:(k:Int)<(L.length:Int):=by omega
   obtain⟨lo,hi,X,cx,l⟩:=x
   dsimp only at e0 e1 e2 hxl
   have HD':=HD
   subst hA
   have hh:Tr.holds ((L.map Zc.zn).getD k (0,0,[])) o=decide (lo≤o∧o≤hi):=by rw[hg];rfl
   have hl:((L.map Zc.zn).getD k (0,0,[])).2.2=l:=by rw[hg];rfl
   have bx:=below_new (Below.refl wr.heap.size wr) (.cells #[.int .i64 lo,.int .i64 hi,.slice X l.length cx] 99)
   have hX:=Blk.new wr 99 #[.int .i64 lo,.int .i64 hi,.slice X l.length cx]
   have XL:=Hd (hxl.later bx)
   have BW:=Hd (below_on hbw bx)
   have HH:=Hd hh
   have HL:=Hd hl
   have p0:=hX.cell (i:=0) rfl
   have p1:=hX.cell (i:=1) rfl
   have p2:=hX.cell (i:=2) rfl
   have hnext:¬(lo≤o∧o≤hi)→∀(u:Nat),u<k+1→Tr.holds ((L.map Zc.zn).getD u (0,0,[])) o=false:=fun hn u hu=>by
    by_cases e:u=k
    ·subst e
     rw[HH.out,decide_eq_false hn]
    ·exact HNO.out u (by omega)
   have HNX:=Hd hnext
   clear hx hc hne hg hh hl hnext hbw hz hxl bx hX
   by_cases t1:lo≤o
   ·have d1:decide (lo≤o)=true:=decide_eq_true t1
    by_cases t2:o≤hi
    ·have d2:decide (o≤hi)=true:=decide_eq_true t2
     have hrk:r=l:=by
      rw[←HR.out,←HL.out]
      exact Tr.rch_some (by rw[List.length_map];exact hlt) (by rw[HH.out,decide_eq_true (⟨t1,t2⟩:lo≤o∧o≤hi)]) HNO.out
     subst hrk
     clear t1 t2 HNX HH HL HR HNO HD HK HD'
     go_wp2
     go_ret
     exact⟨_,_,rfl,XL.out,BW.out⟩
    ·have d2:decide (o≤hi)=false:=decide_eq_false t2
     have NX:=Hd (HNX.out (fun h=>t2 h.2))
     clear t1 t2
     go_wp2_with fail
     go_roundw
     case rel=>exact⟨k+1,by omega,by first|rfl|go_num,NX.out,BW.out⟩
     case measure=>simp[intOf];omega
   ·have d1:decide (lo≤o)=false:=decide_eq_false t1
    have NX:=Hd (HNX.out (fun h=>t1 h.1))
    clear t1
    go_wp2_with fail
    go_roundw
    case rel=>exact⟨k+1,by omega,by first|rfl|go_num,NX.out,BW.out⟩
    case measure=>simp[intOf];omega
  ·obtain rfl:k=L.length:=by omega
   have hrk:r=kn:=by
    rw[←HR.out]
    exact Tr.rch_none (fun u hu=>HNO.out u (by rw[List.length_map]at hu;exact hu))
   subst hrk
   have KK:=Hd (HK.out.later hbw)
   have BW:=Hd hbw
   clear HR HNO HD HK hbw
   go_wp2
   go_ret
   exact⟨_,_,rfl,KK.out,BW.out⟩
end Go.Proofs.YtjlfehpockfkdaaGreat
namespace Go.Proofs.YtjlfehpockfkdaaGreat
namespace Sp
def obTo(f:Nat→Bool):Nat→List Int
 |0=>[]
 |k+1=>obTo f k++(if f k=true then [(k:Int)] else [])
def obL(f:Nat→Bool):List Int:=obTo f 256
end Sp
end Go.Proofs.YtjlfehpockfkdaaGreat
namespace Go.Proofs.YtjlfehpockfkdaaGreat
open Go.RowKit
namespace Tr
def pcs(rest:List (Int × Int))(hi:Int):Int→List Zn→List Zn
 |k,[]=>if k≤hi then [(k,hi,rest)] else []
 |k,z::r=>(if k<z.1 then [(k,z.1-1,rest)] else [])++z::pcs rest hi (z.2.1+1) r
def Rise(hi:Int):Int→List Zn→Prop
 |_,[]=>True
 |k,z::r=>k≤z.1∧z.1≤z.2.1∧z.2.1≤hi∧Rise hi (z.2.1+1) r
def Tiles(g:Nat→List (Int × Int)):Nat→List Zn→Nat→Prop
 |k,[],m=>k=m
 |k,z::r,m=>∃e:Nat,z.1=(k:Int)∧z.2.1+1=(e:Int)∧k<e∧e≤m∧(∀o,k≤o→o<e→g o=z.2.2)∧Tiles g e r m
theorem tiles_congr{g g':Nat→List (Int × Int)}:∀(P:List Zn) (k m:Nat),(∀o,k≤o→o<m→g o=g' o)→Tiles g k P m→Tiles g' k P m
 | [],_,_,_,h=>h
 |z::r,k,m,hg,⟨e,h1,h2,h3,h4,h5,h6⟩=>⟨e,h1,h2,h3,h4,fun o q1 q2=>by rw[←hg o q1 (by omega)];exact h5 o q1 q2,tiles_congr r e m (fun o q1 q2=>hg o (by omega) q2) h6⟩
theorem rise_none{hi:Int}:∀(r:List Zn) (k o:Int),Rise hi k r→o<k→at_ r o=none
 | [],_,_,_,_=>rfl
 |z::r,k,o,⟨h1,h2,_,h4⟩,ho=>by
  rw[at_cons,if_neg (by unfold holds;rw[decide_eq_true_iff];omega)]
  exact rise_none r _ o h4 (by omega)
theorem pcs_tiles(rest:List (Int × Int))(h:Nat):∀(zs:List Zn) (k:Nat),Rise (h:Int) (k:Int) zs→k≤h+1→Tiles (fun o=>(at_ zs (o:Int)).getD rest) k (pcs rest (h:Int) (k:Int) zs) (h+1)
 | [],k,_,hk=>by
  unfold pcs
  by_cases hc:(k:Int)≤(h:Int)
  ·rw[if_pos hc]
   exact⟨h+1,rfl,by show(h:Int)+1=((h+1:Nat):Int);omega,by omega,Nat.le_refl _,fun o _ _=>rfl,rfl⟩
  ·rw[if_neg hc]
   show k=h+1
   omega
 |z::r,k,⟨h1,h2,h3,h4⟩,hk=>by
  obtain⟨a,b,v⟩:=z
  have h1:(k:Int)≤a:=h1
  have h2:a≤b:=h2
  have h3:b≤(h:Int):=h3
  have h4:Rise (h:Int) (b+1) r:=h4
  obtain⟨p,rfl⟩:∃p:Nat,a=(p:Int):=⟨a.toNat,by omega⟩
  obtain⟨q,rfl⟩:∃q:Nat,b=(q:Int):=⟨b.toNat,by omega⟩
  have e1:((q:Int)+1)=((q+1:Nat):Int):=by omega
  have h4':=h4
  rw[e1]at h4'
  have ih:=pcs_tiles rest h r (q+1) h4' (by omega)
  have hold:∀o:Nat,holds ((p:Int),(q:Int),v) (o:Int)=decide (p≤o∧o≤q):=fun o=>by
   unfold holds
   rw[decide_eq_decide]
   show((p:Int)≤(o:Int)∧(o:Int)≤(q:Int))↔_
   omega
  have tl:Tiles (fun o=>(at_ (((p:Int),(q:Int),v)::r) (o:Int)).getD rest) p (((p:Int),(q:Int),v)::pcs rest (h:Int) ((q:Int)+1) r) (h+1):=by
   refine⟨q+1,rfl,e1,by omega,by omega,fun o o1 o2 =>?_,?_⟩
   ·show(at_ _ _).getD rest=v
    rw[at_cons,hold,if_pos (decide_eq_true (by omega))]
    rfl
   ·rw[e1]
    refine tiles_congr _ _ _ (fun o o1 _ =>?_) ih
    show(at_ r _).getD rest=(at_ _ _).getD rest
    rw[at_cons,hold,if_neg (by rw[decide_eq_true_iff];omega)]
  show Tiles _ k ((if (k:Int)<(p:Int) then [((k:Int),(p:Int)-1,rest)] else [])++((p:Int),(q:Int),v)::pcs rest (h:Int) ((q:Int)+1) r) (h+1)
  by_cases hc:(k:Int)<(p:Int)
  ·rw[if_pos hc]
   refine⟨p,rfl,by show(p:Int)-1+1=(p:Int);omega,by omega,by omega,fun o o1 o2 =>?_,tl⟩
   show(at_ _ _).getD rest=rest
   rw[at_cons,hold,if_neg (by rw[decide_eq_true_iff];omega),rise_none r _ _ h4 (by omega)]
   rfl
  ·rw[if_neg hc]
   have hkp:k=p:=by omega
   subst hkp
   exact tl
theorem rise_fm:∀(d:Nat) (zs:List Zn) (j:Nat),zs.length-j=d→fmTo zs zs.length→∀k:Int,k≤0∨(0<j∧k=(zs.getD (j-1) (0,0,[])).2.1+1)→j≤zs.length→(j=0→k≤0)→Rise 255 k (zs.drop j)
 |0,zs,j,hd,_,k,_,hj,_=>by
  rw[List.drop_eq_nil_of_le (by omega)]
  trivial
 |d+1,zs,j,hd,hf,k,hk,hj,hj0=>by
  have hlt:j<zs.length:=by omega
  have hg:zs.getD j (0,0,[])=zs[j]:=by rw[List.getD_eq_getElem?_getD,List.getElem?_eq_getElem hlt];rfl
  obtain⟨⟨a1,a2,a3⟩,_,a5⟩:=hf j hlt
  rw[hg]at a1 a2 a3
  rw[List.drop_eq_getElem_cons hlt]
  refine⟨?_,a2,a3,rise_fm d zs (j+1) (by omega) hf _ (.inr ⟨by omega,by rw[Nat.add_sub_cancel,hg]⟩) (by omega) (by omega)⟩
  rcases hk with hk|⟨h0,rfl⟩
  ·omega
  ·have:=(a5 h0).1
   rw[hg]at this
   omega
theorem rise_fmd{zs:List Zn}(h:fmd zs=true):Rise 255 0 zs:=rise_fm zs.length zs 0 rfl ((fmd_iff zs).1 h) 0 (.inl (Int.le_refl _)) (Nat.zero_le _) (fun _=>Int.le_refl _)
def all(zs:List Zn)(known:List (Int × Int)):List Zn:=pcs known 255 0 zs
theorem all_tiles{zs:List Zn}(h:fmd zs=true)(known:List (Int × Int)):Tiles (fun o=>rch zs known (o:Int)) 0 (all zs known) 256:=pcs_tiles known 255 zs 0 (rise_fmd h) (by omega)
theorem tiles_of{g:Nat→List (Int × Int)}:∀(P:List Zn) (k m:Nat),Tiles g k P m→∀z∈P,(k:Int)≤z.1∧z.1≤z.2.1∧z.2.1<(m:Int)∧∀o:Nat,holds z (o:Int)=true→k≤o∧o<m∧g o=z.2.2
 | [],_,_,_,z,h=>by cases h
 |y::r,k,m,⟨e,q1,q2,q3,q4,q5,q6⟩,z,h=>by
  rcases List.mem_cons.1 h with rfl|h
  ·refine⟨by omega,by omega,by omega,fun o ho =>?_⟩
   unfold holds at ho
   rw[decide_eq_true_iff]at ho
   exact⟨by omega,by omega,q5 o (by omega) (by omega)⟩
  ·obtain⟨a1,a2,a3,a4⟩:=tiles_of r e m q6 z h
   refine⟨by omega,a2,a3,fun o ho =>?_⟩
   obtain⟨b1,b2,b3⟩:=a4 o ho
   exact⟨by omega,b2,b3⟩
def put(T:List (Int × Int))(L:List Zn)(z:Zn):List Zn:=
 if Ve.cov (Ve.cnt z.2.2) (Ve.cnt T)=true then L else if goesOn L z.1.toNat z.2.2=true then ext L z.2.1.toNat else L++[z]
theorem ext_ext(L:List Zn)(a b:Nat):ext (ext L a) b=ext L b:=by
 unfold ext
 rw[List.dropLast_concat,last_snoc]
theorem put_mk(T:List (Int × Int)){f:Nat→Option (List (Int × Int))}{k:Nat}{v:List (Int × Int)}:∀(d:Nat),(∀o,k≤o→o<k+(d+1)→f o=if Ve.cov (Ve.cnt v) (Ve.cnt T)=true then none else some v)→put T (mkTo f k) ((k:Int),((k+d:Nat):Int),v)=mkTo f (k+(d+1))
 |0,hf=>by
  have h0:=hf k (Nat.le_refl _) (by omega)
  unfold put
  dsimp only
  by_cases hc:Ve.cov (Ve.cnt v) (Ve.cnt T)=true
  ·rw[if_pos hc]at h0 ⊢
   rw[mkTo_none h0]
  ·rw[if_neg hc]at h0 ⊢
   rw[Int.toNat_natCast]
   cases hg:goesOn (mkTo f k) k v with
   |true=>rw[if_pos rfl,mkTo_on h0 hg];rfl
   |false=>rw[if_neg Bool.false_ne_true,mkTo_new h0 hg];rfl
 |d+1,hf=>by
  have ih:=put_mk T d (fun o o1 o2=>hf o o1 (by omega))
  have h0:=hf (k+(d+1)) (by omega) (by omega)
  unfold put at ih ⊢
  dsimp only at ih ⊢
  by_cases hc:Ve.cov (Ve.cnt v) (Ve.cnt T)=true
  ·rw[if_pos hc]at h0 ih ⊢
   rw[show k+(d+1+1)=k+(d+1)+1 from by omega,mkTo_none h0]
   exact ih
  ·rw[if_neg hc]at h0 ih ⊢
   rw[Int.toNat_natCast,Int.toNat_natCast]at ih ⊢
   rw[show k+(d+1+1)=k+(d+1)+1 from by omega]
   cases hg:goesOn (mkTo f k) k v with
   |true=>
    rw[hg,if_pos rfl]at ih
    rw[if_pos rfl]
    obtain⟨g1,g2,g3⟩:=of_decide_eq_true hg
    have hon:goesOn (mkTo f (k+(d+1))) (k+(d+1)) v=true:=by
     rw[←ih]
     unfold ext
     rw[goes_snoc]
     exact decide_eq_true ⟨by dsimp only;omega,g3⟩
    rw[mkTo_on h0 hon,←ih,ext_ext]
   |false=>
    rw[hg,if_neg Bool.false_ne_true]at ih
    rw[if_neg Bool.false_ne_true]
    have hon:goesOn (mkTo f (k+(d+1))) (k+(d+1)) v=true:=by
     rw[←ih,goes_snoc]
     exact decide_eq_true ⟨by dsimp only;omega,rfl⟩
    rw[mkTo_on h0 hon,←ih,ext_snoc]
theorem fold_tiles(T:List (Int × Int)){f:Nat→Option (List (Int × Int))}{g:Nat→List (Int × Int)}:∀(P:List Zn) (k m:Nat),Tiles g k P m→(∀o,k≤o→o<m→f o=if Ve.cov (Ve.cnt (g o)) (Ve.cnt T)=true then none else some (g o))→P.foldl (put T) (mkTo f k)=mkTo f m
 | [],k,m,h,_=>by
  have:k=m:=h
  rw[this]
  rfl
 |z::r,k,m,⟨e,q1,q2,q3,q4,q5,q6⟩,hf=>by
  obtain⟨a,b,v⟩:=z
  have q1:a=(k:Int):=q1
  have q2:b+1=(e:Int):=q2
  obtain⟨d,rfl⟩:∃d,e=k+(d+1):=⟨e-k-1,by omega⟩
  have hb:b=((k+d:Nat):Int):=by omega
  subst q1 hb
  have h1:=put_mk T (f:=f) (k:=k) (v:=v) d (fun o o1 o2=>by rw[hf o o1 (by omega),q5 o o1 o2])
  rw[List.foldl_cons,h1]
  exact fold_tiles T r _ m q6 (fun o o1 o2=>hf o (by omega) o2)
end Tr
end Go.Proofs.YtjlfehpockfkdaaGreat
namespace Go.Proofs.YtjlfehpockfkdaaGreat
open Go.RowKit Go.Shelf
attribute [local go_sem] Oper.semAt_some
section
variable {F:Fence} {n:Nat} {P:Program} {ops:Array Oper} {rest:List Oper} {o:Oper} {a:Act} {w:World} {Q:Exit→Act→World→Prop}
theorem in_load_row(hgd:o.guard=none)(ty:TypeId)(x:Operand)(ho:o.op = .load ty x)
  (g:Nat)(hx:a.eval x = .pointer (some ⟨g,0,none⟩))(t:TypeId)(cs:Array Value)(d:TypeDesc)(hg:Blk w g t cs)
  (hu:P.underlying ty=some d)(hd:(match d with | .struct _ | .array _ _=>true|_=>false)=true)(hi:(P.info? ty).map (·.size)=some cs.size)
  (h:wpListIn F n P ops Q rest (a.put o.dst (.agg cs)) w):wpListIn F n P ops Q (o::rest) a w:=by
 refine wpListIn_plain hgd fun K hK =>?_
 unfold Oper.wpIn
 refine⟨by simp[Oper.about,ho],?_⟩
 rw[Oper.semAt_plain F _ _ (by rw[ho];intro c hc;cases hc)]
 simp only[execOp,ho,hx,Instr.loadAt,Instr.sureAddr,Sem.run_bind,Sem.run_pure,Result.andThen_ok,run_loadVar_row w g t ty cs (0,0) d hg hu hd hi]
 exact hK _ _ h
theorem in_store_row(hgd:o.guard=none)(ty:TypeId)(x y:Operand)(ho:o.op = .store ty x y)
  (g:Nat)(cells:Array Value)(hx:a.eval x = .pointer (some ⟨g,0,none⟩))(hy:a.eval y = .agg cells)
  (t:TypeId)(old:Array Value)(hg:Blk w g t old)(hi:(P.info? ty).map (·.size)=some cells.size)
  (hold:old.size=cells.size)(h1:cells.all (·.oneCell')=true)
  (h:wpListIn F n P ops Q rest (a.put o.dst undef) (w.setRow g cells)):wpListIn F n P ops Q (o::rest) a w:=by
 refine wpListIn_plain hgd fun K hK =>?_
 unfold Oper.wpIn
 refine⟨by simp[Oper.about,ho],?_⟩
 rw[Oper.semAt_plain F _ _ (by rw[ho];intro c hc;cases hc)]
 simp only[execOp,ho,hx,hy,Instr.storeAt,Instr.sureAddr,Sem.run_bind,Sem.run_pure,Result.andThen_ok,run_storeVar_row w g t ty old cells hg hi hold h1]
 exact hK _ _ h
end
def Mark(D:Nat):Deferred:={ target :=.collected D,args:=#[] }
def Marks(n₀:Nat)(Ds:List Nat)(W:World):Prop:=Ds.Nodup∧∀D∈Ds,n₀≤D∧W.heap[D]?=some (.deferred (some []))
theorem Marks.nil(n₀:Nat)(W:World):Marks n₀ [] W:=⟨List.nodup_nil,fun _ h=>by cases h⟩
theorem Marks.lt{n₀:Nat}{Ds:List Nat}{W:World}(h:Marks n₀ Ds W):∀D∈Ds,D<W.heap.size:=fun D hD=>(Array.getElem?_eq_some_iff.1 (h.2 D hD).2).1
theorem Marks.later{n₀:Nat}{Ds:List Nat}{W W':World}(h:Marks n₀ Ds W)(hb:Below W.heap.size W W'):Marks n₀ Ds W':=⟨h.1,fun D hD=>⟨(h.2 D hD).1,(hb.block D (h.lt D hD)).trans (h.2 D hD).2⟩⟩
theorem Marks.others{n₀:Nat}{Ds:List Nat}{W W':World}(h:Marks n₀ Ds W)(hb:KeepsOthers W W'):Marks n₀ Ds W':=⟨h.1,fun D hD=>⟨(h.2 D hD).1,hb.same D _ (h.2 D hD).2 rfl⟩⟩
theorem Marks.cons{n₀ D:Nat}{Ds:List Nat}{W:World}(h:Marks n₀ Ds W)(hn:n₀≤D)(hD:D∉Ds)(hK:W.heap[D]?=some (.deferred (some []))):Marks n₀ (D::Ds) W:=
 ⟨List.nodup_cons.2 ⟨hD,h.1⟩,fun k hk=>by
  rcases List.mem_cons.1 hk with rfl|hk
  ·exact⟨hn,hK⟩
  ·exact h.2 k hk⟩
theorem marks_own{β:Type}{n₀ B:Nat}{Ds:List Nat}(hlt:∀D∈Ds,D<B):OwnFrom (β:=β) B (fun _ W=>Marks n₀ Ds W):=fun _ A C row hs hg hr=>
 ⟨hs.1,fun D hD=>⟨(hs.2 D hD).1,(hg.block D (hs.lt D hD) (fun e=>by have:=(hr D e.symm).1;have:=hlt D hD;omega)).trans (hs.2 D hD).2⟩⟩
theorem blk_own{β:Type}(g:Nat)(t:TypeId)(f:β→Array Value):Own (fun s W=>Blk W g t (f s)):=fun s A C row hs hg hr=>
 (hg.block g hs.lt (fun e=>by
  obtain⟨o,ho,hc⟩:=hr g e.symm
  rw[show A.heap[g]?=_ from hs]at ho
  cases ho
  cases hc)).trans hs
theorem leaves_marks{P:Program}{F:Fence}{n:Nat}{fn:Func}{tmps:Array Value}{R:Ending→World→Prop}{n₀:Nat}(Q:World→Prop)
  (hQ:∀w D,Q w→n₀≤D→w.heap[D]?=some (.deferred (some []))→Q (w.putObj D (.deferred none)))
  (hR:∀w,Q w→LeavesInM F n P fn tmps R [] .returning w):∀(Ds:List Nat) (w:World),Marks n₀ Ds w→Q w→LeavesInM F n P fn tmps R (Ds.map Mark) .returning w
 | [],w,_,h=>hR w h
 |D::Ds,w,hm,h=>by
  have hD:=hm.2 D (List.mem_cons_self ..)
  have hnd:=List.nodup_cons.1 hm.1
  refine⟨by simp,.inl ⟨D,_,rfl,run_takeDeferred hD.2,?_⟩⟩
  refine leaves_marks Q hQ hR Ds _ ⟨hnd.2,fun k hk=>⟨(hm.2 k (List.mem_cons_of_mem _ hk)).1,?_⟩⟩ (hQ w D h hD.1 hD.2)
  have hne:D≠k:=fun e=>hnd.1 (by rw[e];exact hk)
  exact(World.putObj_heap_other (fun e=>hne e.symm)).trans (hm.2 k (List.mem_cons_of_mem _ hk)).2
end Go.Proofs.YtjlfehpockfkdaaGreat
namespace Go.Proofs.YtjlfehpockfkdaaGreat
open Go.RowKit
def KeepC(n₀ B:Nat)(W W':World):Prop:=W.heap.size≤W'.heap.size∧∀k o,W.heap[k]?=some o→o.isCells=true→(k<n₀∨B≤k)→W'.heap[k]?=some o
section
variable {n₀ B:Nat} {W W':World}
theorem KeepC.refl(n₀ B:Nat)(W:World):KeepC n₀ B W W:=⟨Nat.le_refl _,fun _ _ h _ _=>h⟩
theorem KeepC.trans{X Y Z:World}(h:KeepC n₀ B X Y)(k:KeepC n₀ B Y Z):KeepC n₀ B X Z:=⟨Nat.le_trans h.1 k.1,fun i o h1 h2 h3=>k.2 i o (h.2 i o h1 h2 h3) h2 h3⟩
theorem KeepC.below(h:Below W.heap.size W W'):KeepC n₀ B W W':=⟨h.size,fun i _ h1 _ _=>(h.block i (Array.getElem?_eq_some_iff.1 h1).1).trans h1⟩
theorem KeepC.set(W:World)(a:Addr)(v:Value)(h1:n₀≤a.block)(h2:a.block<B):KeepC n₀ B W (W.setCell a v):=
 ⟨(KeepsOthers.setCell W a v).size,fun i _ hi _ h3=>(Below.heap_setCell W a v i (by omega)).trans hi⟩
theorem KeepC.mark(W:World)(l:Nat)(o o':Obj)(h:W.heap[l]?=some o)(ho:o.isCells=false):KeepC n₀ B W (W.putObj l o'):=
 ⟨by simp,fun i u hi hu _=>by
  by_cases e:l=i
  ·subst e
   rw[h]at hi
   cases hi
   rw[ho]at hu
   cases hu
  ·exact(World.putObj_heap_other (fun h=>e h.symm)).trans hi⟩
theorem KeepC.cell(h:KeepC n₀ B W W'){a:Addr}{v:Value}(hc:W.cell? a=some v)(ha:a.block<n₀∨B≤a.block):W'.cell? a=some v:=by
 obtain⟨o,ho,hoc⟩:=cells_of_cell hc
 exact(World.cell?_of_block ((h.2 _ _ ho hoc ha).trans ho.symm)).trans hc
end
def told1(x:Int):Array Value:=#[.int .i64 x]
def tellO(x:Fin 256):Array Value:=#[.int .i64 (x.val:Int)]
namespace Sp
theorem good_sorted{l:List (Int × Int)}(h:good 256 l)(i:Nat):∀j,i<j→j<l.length→(l.getD i (0,0)).2+1<(l.getD j (0,0)).1
 |0,h1,_=>by omega
 |j+1,h1,h2=>by
  have h3:(l.getD j (0,0)).2+1<(l.getD (j+1) (0,0)).1:=(h (j+1) h2).2.2.2 (by omega)
  rcases Nat.lt_or_ge i j with h4|h4
  ·have:=good_sorted h i j h4 (by omega)
   have:=(h j (by omega)).2.1
   omega
  ·rw[show i=j from by omega]
   exact h3
theorem inL_at(l:List (Int × Int))(o:Nat):inL l o=true↔∃j,j<l.length∧(l.getD j (0,0)).1≤(o:Int)∧(o:Int)≤(l.getD j (0,0)).2:=by
 rw[inL_iff]
 constructor
 ·rintro ⟨s,h1,h2⟩
  obtain⟨j,hj,rfl⟩:=List.getElem_of_mem h1
  exact⟨j,hj,by rw[List.getD_eq_getElem?_getD,List.getElem?_eq_getElem hj];exact h2⟩
 ·rintro ⟨j,hj,h2⟩
  rw[List.getD_eq_getElem?_getD,List.getElem?_eq_getElem hj,Option.getD_some]at h2
  exact⟨_,List.getElem_mem hj,h2⟩
def endTo(l:List (Int × Int)):Nat→Nat
 |0=>0
 |k+1=>((l.getD k (0,0)).2+1).toNat
theorem endTo_bd(f:Nat→Bool):∀k,k≤(ofL f).length→endTo (ofL f) k≤256
 |0,_=>Nat.zero_le _
 |k+1,h=>by
  have:=(good_ofL f k h).2.2.1
  show((((ofL f)).getD k (0,0)).2+1).toNat≤256
  omega
theorem span_in(f:Nat→Bool)(k:Nat)(hk:k<(ofL f).length)(p:Nat)(h1:((ofL f).getD k (0,0)).1≤(p:Int))(h2:(p:Int)≤((ofL f).getD k (0,0)).2):f p=true:=by
 have h3:=(good_ofL f k hk).2.2.1
 rw[←inL_ofL f p (by omega)]
 exact(inL_at _ _).2 ⟨k,hk,h1,h2⟩
theorem gap_out(f:Nat→Bool)(k:Nat)(p:Nat)(hp:p<256)(h1:endTo (ofL f) k≤p)(h2:k<(ofL f).length→(p:Int)<((ofL f).getD k (0,0)).1)(hk:k≤(ofL f).length):f p=false:=by
 rcases two (f p) with h|h
 ·rw[←inL_ofL f p hp]at h
  obtain⟨j,hj,q1,q2⟩:=(inL_at _ _).1 h
  rcases Nat.lt_or_ge j k with h3|h3
  ·obtain⟨m,rfl⟩:∃m,k=m+1:=⟨k-1,by omega⟩
   have h4:(((ofL f)).getD m (0,0)).2+1≤(p:Int):=by
    have:((((ofL f)).getD m (0,0)).2+1).toNat≤p:=h1
    omega
   rcases Nat.lt_or_ge j m with h5|h5
   ·have:=good_sorted (good_ofL f) j m h5 (by omega)
    have:=(good_ofL f m (by omega)).2.1
    omega
   ·rw[show j=m from by omega]at q2
    omega
  ·have h4:=h2 (by omega)
   rcases Nat.lt_or_ge k j with h5|h5
   ·have:=good_sorted (good_ofL f) k j h5 hj
    have:=(good_ofL f k (by omega)).2.1
    omega
   ·rw[show j=k from by omega]at q1
    omega
 ·exact h
def comesO{α:Type}(g:Nat→α)(f:Nat→Bool):Nat→List α
 |0=>[]
 |k+1=>comesO g f k++(if f k=true then [g k] else [])
section
variable {α:Type} (g:Nat→α) (f:Nat→Bool)
theorem comesO_yes(k:Nat)(h:f k=true):comesO g f (k+1)=comesO g f k++[g k]:=by rw[comesO,if_pos h]
theorem comesO_no(k:Nat)(h:f k=false):comesO g f (k+1)=comesO g f k:=by rw[comesO,if_neg (by rw[h];simp),List.append_nil]
theorem comesO_short:∀k,(comesO g f k).length≤k
 |0=>Nat.le_refl _
 |k+1=>by
  have:=comesO_short k
  unfold comesO
  split<;>simp<;>omega
theorem comesO_pre(k:Nat):∀m,k≤m→comesO g f k <+: comesO g f m
 |0,h=>by rw[Nat.le_zero.1 h];exact List.prefix_rfl
 |m+1,h=>by
  rcases Nat.lt_or_ge m k with h1|h1
  ·rw[show k=m+1 from by omega];exact List.prefix_rfl
  ·exact(comesO_pre k m h1).trans ⟨_,rfl⟩
theorem comesO_gap(m:Nat):∀n,m≤n→(∀p,m≤p→p<n→f p=false)→comesO g f n=comesO g f m
 |0,h,_=>by rw[Nat.le_zero.1 h]
 |n+1,h,hf=>by
  rcases Nat.lt_or_ge n m with h1|h1
  ·rw[show m=n+1 from by omega]
  ·rw[comesO_no g f n (hf n h1 (by omega)),comesO_gap m n h1 (fun p h2 h3=>hf p h2 (by omega))]
theorem comesO_start(k:Nat)(hk:k<(ofL f).length)(o:Nat)(ho:(o:Int)=((ofL f).getD k (0,0)).1):comesO g f o=comesO g f (endTo (ofL f) k):=by
 obtain⟨g1,g2,g3,g4⟩:=good_ofL f k hk
 refine comesO_gap g f _ o ?_ fun p h1 h2=>gap_out f k p (by omega) h1 (fun _=>by omega) (by omega)
 cases k with
 |zero=>exact Nat.zero_le _
 |succ m=>
  have h3:((ofL f).getD m (0,0)).2+1<((ofL f).getD (m+1) (0,0)).1:=g4 (by omega)
  show((((ofL f)).getD m (0,0)).2+1).toNat≤o
  omega
theorem comesO_step(k:Nat)(hk:k<(ofL f).length)(o:Nat)(h1:((ofL f).getD k (0,0)).1≤(o:Int))(h2:(o:Int)≤((ofL f).getD k (0,0)).2):comesO g f (o+1)=comesO g f o++[g o]:=comesO_yes g f o (span_in f k hk o h1 h2)
theorem comesO_end:comesO g f (endTo (ofL f) (ofL f).length)=comesO g f 256:=
 (comesO_gap g f _ 256 (endTo_bd f _ (Nat.le_refl _)) fun p h1 h2=>gap_out f _ p h2 h1 (fun h=>absurd h (Nat.lt_irrefl _)) (Nat.le_refl _)).symm
end
theorem comesO_obTo(f:Nat→Bool):∀k,comesO (fun k=>(k:Int)) f k=obTo f k
 |0=>rfl
 |k+1=>by rw[comesO,obTo,comesO_obTo f k]
theorem comesO_obL(f:Nat→Bool):comesO (fun k=>(k:Int)) f 256=obL f:=comesO_obTo f 256
def objF(k:Nat):Fin 256:=⟨k % 256,Nat.mod_lt _ (by omega)⟩
theorem objF_val{k:Nat}(h:k<256):(objF k).val=k:=Nat.mod_eq_of_lt h
theorem comesO_mem(f:Nat→Bool)(i:Fin 256):∀k,k≤256→(i∈comesO objF f k↔i.val<k∧f i.val=true)
 |0,_=>by simp[comesO]
 |k+1,h=>by
  have ih:=comesO_mem f i k (by omega)
  have hv:=objF_val (k:=k) (by omega)
  rw[comesO,List.mem_append,ih]
  constructor
  ·rintro (⟨h1,h2⟩|h1)
   ·exact⟨by omega,h2⟩
   ·split at h1
    ·rename_i hp
     rw[List.mem_singleton]at h1
     rw[h1,hv]
     exact⟨by omega,hp⟩
    ·cases h1
  ·rintro ⟨h1,h2⟩
   rcases Nat.lt_or_ge i.val k with h3|h3
   ·exact .inl ⟨h3,h2⟩
   ·have h4:i.val=k:=by omega
    rw[h4]at h2
    rw[if_pos h2]
    exact .inr (List.mem_singleton.2 (Fin.ext (by rw[hv];exact h4)))
def hasF(pre:List (Fin 256))(j:Nat):Bool:=pre.any fun i=>decide (i.val=j)
theorem hasF_snoc(pre:List (Fin 256))(x:Fin 256)(j:Nat):hasF (pre++[x]) j=(hasF pre j||decide (x.val=j)):=by
 unfold hasF
 rw[List.any_append]
 simp
theorem hasF_all(f:Nat→Bool)(j:Nat)(hj:j<256):hasF (comesO objF f 256) j=f j:=by
 rw[Bool.eq_iff_iff]
 unfold hasF
 rw[List.any_eq_true]
 constructor
 ·rintro ⟨i,h1,h2⟩
  have h3:=((comesO_mem f i 256 (Nat.le_refl _)).1 h1).2
  rw[of_decide_eq_true h2]at h3
  exact h3
 ·intro h
  exact⟨⟨j,hj⟩,(comesO_mem f ⟨j,hj⟩ 256 (Nat.le_refl _)).2 ⟨hj,h⟩,decide_eq_true rfl⟩
end Sp
namespace Ve
theorem cnt_filter(q:Int→Bool)(n:Nat):∀l:List (Int × Int),cnt (l.filter fun s=>q s.2) n=if q (n:Int)=true then cnt l n else 0
 | []=>by
  show(0:Int)=_
  split<;>rfl
 |s::r=>by
  have ih:=cnt_filter q n r
  rw[List.filter_cons]
  by_cases hs:q s.2=true
  ·rw[if_pos hs]
   unfold cnt
   by_cases hc:St.rgt s.1 s.2=true∧s.2=(n:Int)
   ·rw[if_pos hc,if_pos hc,if_pos (by rw[←hc.2];exact hs)]
   ·rw[if_neg hc,if_neg hc]
    exact ih
  ·rw[if_neg hs,ih]
   by_cases hq:q (n:Int)=true
   ·rw[if_pos hq,if_pos hq]
    have hc:¬(St.rgt s.1 s.2=true∧s.2=(n:Int)):=fun h=>hs (by rw[h.2];exact hq)
    show cnt r n=if _ then s.1 else cnt r n
    rw[if_neg hc]
   ·rw[if_neg hq,if_neg hq]
end Ve
namespace Tr
def ends(v:List (Int × Int))(n:Note):List (Int × Int):=n.e.filter fun s =>!decide (countOf v s.2<countOf n.s s.2)
def fur(v:List (Int × Int))(n:Note):List (Int × Int):=Ve.joinL [v,ends v n]
theorem fur_is(v:List (Int × Int))(n:Note):fur v n=Ve.ofL (str (Ve.cnt v) (Ve.cnt n.s) (Ve.cnt n.e)):=by
 unfold fur Ve.joinL
 refine Ve.ofL_ext (fun i hi =>?_)
 have hc:∀l:List (Int × Int),countOf l (i:Int)=Ve.cnt l i:=fun l=>by unfold countOf;rw[if_pos (by omega)];rfl
 rw[Ve.jn_two]
 unfold ends
 rw[Ve.cnt_filter (fun m =>!decide (countOf v m<countOf n.s m)),hc,hc]
 have h0:=Ve.cnt_nonneg v i
 unfold str
 by_cases h:Ve.cnt v i<Ve.cnt n.s i
 ·rw[decide_eq_true h]
  simp only[Bool.not_true,Bool.false_eq_true,if_false]
  rw[if_neg (show ¬Ve.cnt v i<0 by omega),if_neg (show ¬Ve.cnt n.s i≤Ve.cnt v i by omega)]
 ·rw[decide_eq_false h]
  simp only[Bool.not_false,if_true]
  rw[if_pos (show Ve.cnt n.s i≤Ve.cnt v i by omega)]
def torn(z:Zn)(fu:List (Int × Int))(n:Note):List Int:=(n.ws.filter fun w=>inOf [(z.1,z.2.1)] w.2.2.1 && !hasOf fu w.1 w.2.1).map fun w=>w.2.2.1
def keeps(z:Zn)(fu:List (Int × Int))(n:Note):List (Int × Int):=Sp.meetS [(z.1,z.2.1)] (Sp.joinS [n.b,Sp.ofL (Sp.someOf (torn z fu n))])
def stay(z:Zn)(fu:List (Int × Int))(n:Note):List Zn:=(keeps z fu n).map fun s=>(s.1,s.2,z.2.2)
def parts(z:Zn)(n:Note):List Zn:=pcs (fur z.2.2 n) z.2.1 z.1 (stay z (fur z.2.2 n) n)
def sh(v:List (Int × Int))(n:Note)(o:Nat):List (Int × Int):=if Sp.inL n.b o=true then v else strd v n (o:Int)
theorem at_map(v:List (Int × Int))(o:Nat):∀S:List (Int × Int),at_ (S.map fun s=>((s.1,s.2,v):Zn)) (o:Int)=if Sp.inL S o=true then some v else none
 | []=>rfl
 |s::r=>by
  have ih:=at_map v o r
  rw[List.map_cons,at_cons,ih]
  have hi:Sp.inL (s::r) o=(holds (s.1,s.2,v) (o:Int)||Sp.inL r o):=rfl
  rw[hi]
  cases holds (s.1,s.2,v) (o:Int)<;>simp
theorem keeps_in(z:Zn)(fu:List (Int × Int))(n:Note){o:Nat}(ho:o<256)(hz:holds z (o:Int)=true):Sp.inL (keeps z fu n) o=(Sp.inL n.b o||Sp.someOf (torn z fu n) o):=by
 unfold keeps Sp.meetS
 rw[Sp.inL_ofL _ o ho]
 have h1:Sp.inL [(z.1,z.2.1)] o=true:=(Sp.inL_iff _ _).2 ⟨_,List.mem_singleton.2 rfl,of_decide_eq_true hz⟩
 rw[h1,Bool.true_and]
 unfold Sp.joinS
 rw[Sp.inL_ofL _ o ho]
 show((false||Sp.inL n.b o)||Sp.inL (Sp.ofL (Sp.someOf (torn z fu n))) o)=_
 rw[Bool.false_or,Sp.inL_ofL _ o ho]
theorem rise_good(v:List (Int × Int)){lo hi:Int}{S:List (Int × Int)}(hg:Sp.good 256 S)(hb:∀i,i<S.length→lo≤(S.getD i (0,0)).1∧(S.getD i (0,0)).2≤hi):∀(d j:Nat),S.length-j=d→j≤S.length→∀k:Int,(j=0→k≤lo)→(0<j→k=(S.getD (j-1) (0,0)).2+1)→Rise hi k ((S.drop j).map fun s=>((s.1,s.2,v):Zn))
 |0,j,hd,_,k,_,_=>by
  rw[List.drop_eq_nil_of_le (by omega)]
  trivial
 |d+1,j,hd,hj,k,h0,h1=>by
  have hlt:j<S.length:=by omega
  have hgd:S.getD j (0,0)=S[j]:=by rw[List.getD_eq_getElem?_getD,List.getElem?_eq_getElem hlt];rfl
  obtain⟨a1,a2,a3,a4⟩:=hg j hlt
  obtain⟨b1,b2⟩:=hb j hlt
  rw[hgd]at a1 a2 a3 b1 b2
  rw[List.drop_eq_getElem_cons hlt,List.map_cons]
  refine⟨?_,a2,b2,rise_good v hg hb d (j+1) (by omega) (by omega) _ (by omega) (fun _=>by rw[Nat.add_sub_cancel,hgd])⟩
  show k≤S[j].1
  by_cases e:j=0
  ·have:=h0 e
   omega
  ·have h2:=h1 (by omega)
   have h3:=a4 (by omega)
   rw[hgd]at h3
   omega
theorem keeps_rise(z:Zn)(fu:List (Int × Int))(n:Note):Rise z.2.1 z.1 (stay z fu n):=by
 have hb:∀i,i<(keeps z fu n).length→z.1≤((keeps z fu n).getD i (0,0)).1∧((keeps z fu n).getD i (0,0)).2≤z.2.1:=fun i hi=>by
  unfold keeps Sp.meetS at hi ⊢
  have hs:=Sp.span_in _ i hi
  obtain⟨g1,g2,g3,-⟩:=Sp.good_ofL _ i hi
  generalize ((Sp.ofL fun o=>Sp.inL [(z.1,z.2.1)] o&&Sp.inL (Sp.joinS [n.b,Sp.ofL (Sp.someOf (torn z fu n))]) o).getD i (0,0))=s at hs g1 g2 g3
  have h1:=hs s.1.toNat (by omega) (by omega)
  have h2:=hs s.2.toNat (by omega) (by omega)
  rw[Bool.and_eq_true,Sp.inL_iff]at h1 h2
  obtain⟨⟨x,x1,x2⟩,_⟩:=h1
  obtain⟨⟨y,y1,y2⟩,_⟩:=h2
  rw[List.mem_singleton]at x1 y1
  subst x1 y1
  dsimp only at x2 y2
  omega
 have:=rise_good z.2.2 (lo:=z.1) (hi:=z.2.1) (S:=keeps z fu n) (by unfold keeps Sp.meetS;exact Sp.good_ofL _) hb (keeps z fu n).length 0 rfl (Nat.zero_le _) z.1 (fun _=>Int.le_refl _) (by omega)
 exact this
theorem ws_one{n:Note}(hn:Nt.fmd n=true){w w':Wr}(h:w∈n.ws)(h':w'∈n.ws)(ho:w.2.2.1=w'.2.2.1):w=w':=by
 have hw:Nt.wsTo n n.ws.length:=by
  unfold Nt.fmd at hn
  simp only[Bool.and_eq_true]at hn
  exact(Nt.wsOk_iff n).1 hn.2.2.2.2
 have step:∀i j,i<j→j<n.ws.length→Nt.obj n.ws i<Nt.obj n.ws j:=fun i j=>by
  induction j with
  |zero=>intro h;omega
  |succ j ih=>
   intro h1 h2
   have h3:=(hw (j+1) h2).2.2.2 (by omega)
   rw[Nat.add_sub_cancel]at h3
   by_cases e:i=j
   ·rw[e];exact h3
   ·have:=ih (by omega) (by omega)
    omega
 obtain⟨i,hi,rfl⟩:=List.mem_iff_getElem.1 h
 obtain⟨j,hj,rfl⟩:=List.mem_iff_getElem.1 h'
 have ei:Nt.obj n.ws i=(n.ws[i]).2.2.1:=by unfold Nt.obj;rw[List.getD_eq_getElem?_getD,List.getElem?_eq_getElem hi];rfl
 have ej:Nt.obj n.ws j=(n.ws[j]).2.2.1:=by unfold Nt.obj;rw[List.getD_eq_getElem?_getD,List.getElem?_eq_getElem hj];rfl
 rw[←ei,←ej]at ho
 rcases Nat.lt_trichotomy i j with h1|h1|h1
 ·have:=step i j h1 hj
  omega
 ·subst h1
  rfl
 ·have:=step j i h1 hi
  omega
theorem torn_is{n:Note}(hn:Nt.fmd n=true)(z:Zn)(fu:List (Int × Int)){o:Nat}(hz:holds z (o:Int)=true)(ho:o<256):Sp.someOf (torn z fu n) o=true↔(Nt.at_ n.ws (o:Int)).2=true∧hasOf fu (Nt.at_ n.ws (o:Int)).1.1 (Nt.at_ n.ws (o:Int)).1.2.1=false:=by
 have hin:inOf [(z.1,z.2.1)] (o:Int)=true:=by
  unfold inOf
  rw[decide_eq_true (by omega),Bool.true_and,Int.toNat_natCast]
  exact(Sp.inL_iff _ _).2 ⟨_,List.mem_singleton.2 rfl,of_decide_eq_true hz⟩
 unfold Sp.someOf torn
 rw[List.any_eq_true]
 constructor
 ·rintro ⟨x,hx,hxo⟩
  rw[decide_eq_true_iff]at hxo
  obtain⟨w,hw,rfl⟩:=List.mem_map.1 hx
  obtain⟨h1,h2⟩:=List.mem_filter.1 hw
  rw[hxo,hin,Bool.true_and]at h2
  unfold Nt.at_
  cases hf:n.ws.find? (fun x=>decide (x.2.2.1=(o:Int))) with
  |none=>
   have:=List.find?_eq_none.1 hf w h1
   rw[decide_eq_true_iff]at this
   exact absurd hxo this
  |some y=>
   have y1:=List.mem_of_find?_eq_some hf
   have y2:=List.find?_some hf
   rw[decide_eq_true_iff]at y2
   have:w=y:=ws_one hn h1 y1 (by rw[hxo,y2])
   subst this
   exact⟨rfl,by simpa using h2⟩
 ·rintro ⟨h1,h2⟩
  unfold Nt.at_ at h1 h2
  cases hf:n.ws.find? (fun x=>decide (x.2.2.1=(o:Int))) with
  |none=>rw[hf]at h1;cases h1
  |some y=>
   rw[hf]at h2
   have y1:=List.mem_of_find?_eq_some hf
   have y2:=List.find?_some hf
   rw[decide_eq_true_iff]at y2
   refine⟨_,List.mem_map.2 ⟨y,List.mem_filter.2 ⟨y1,?_⟩,rfl⟩,decide_eq_true y2⟩
   rw[y2,hin,Bool.true_and]
   show(!hasOf fu y.1 y.2.1)=true
   rw[h2]
   rfl
theorem parts_tiles{n:Note}(hn:Nt.fmd n=true){z:Zn}(h1:0≤z.1)(h2:z.1≤z.2.1)(h3:z.2.1≤255):Tiles (fun o=>sh z.2.2 n o) z.1.toNat (parts z n) (z.2.1.toNat+1):=by
 have hr:=keeps_rise z (fur z.2.2 n) n
 obtain⟨p,hp⟩:∃p:Nat,z.1=(p:Int):=⟨z.1.toNat,by omega⟩
 obtain⟨q,hq⟩:∃q:Nat,z.2.1=(q:Int):=⟨z.2.1.toNat,by omega⟩
 have ht:Tiles (fun o=>(at_ (stay z (fur z.2.2 n) n) (o:Int)).getD (fur z.2.2 n)) p (parts z n) (q+1):=by
  unfold parts
  rw[hp,hq]at hr ⊢
  exact pcs_tiles _ q _ p hr (by omega)
 rw[hp,hq,Int.toNat_natCast,Int.toNat_natCast]
 refine tiles_congr _ _ _ (fun o o1 o2 =>?_) ht
 have hz:holds z (o:Int)=true:=decide_eq_true (by omega)
 show(at_ (stay z (fur z.2.2 n) n) (o:Int)).getD (fur z.2.2 n)=sh z.2.2 n o
 unfold stay
 rw[at_map,keeps_in z _ n (by omega) hz]
 have hti:=torn_is hn z (fur z.2.2 n) hz (by omega)
 unfold sh
 by_cases hb:Sp.inL n.b o=true
 ·rw[hb,Bool.true_or,if_pos rfl,if_pos rfl]
  rfl
 ·rw[if_neg hb]
  have hb':Sp.inL n.b o=false:=by simpa using hb
  rw[hb',Bool.false_or]
  unfold strd
  rw[←fur_is]
  by_cases hs:Sp.someOf (torn z (fur z.2.2 n) n) o=true
  ·rw[if_pos hs,if_pos (hti.1 hs)]
   rfl
  ·rw[if_neg hs,if_neg (fun h=>hs (hti.2 h))]
   rfl
def puts(T:List (Int × Int))(n:Note)(L:List Zn)(z:Zn):List Zn:=(parts z n).foldl (put T) L
theorem fold_puts{T:List (Int × Int)}{n:Note}(hn:Nt.fmd n=true){f:Nat→Option (List (Int × Int))}{g:Nat→List (Int × Int)}:∀(P:List Zn) (k m:Nat),m≤256→Tiles g k P m→(∀o,k≤o→o<m→f o=if Ve.cov (Ve.cnt (sh (g o) n o)) (Ve.cnt T)=true then none else some (sh (g o) n o))→P.foldl (puts T n) (mkTo f k)=mkTo f m
 | [],k,m,_,h,_=>by
  have:k=m:=h
  rw[this]
  rfl
 |z::r,k,m,hm,⟨e,q1,q2,q3,q4,q5,q6⟩,hf=>by
  have ht:=parts_tiles hn (z:=z) (by omega) (by omega) (by omega)
  rw[show z.1.toNat=k from by omega,show z.2.1.toNat+1=e from by omega]at ht
  have h1:=fold_tiles T (f:=f) _ _ _ ht (fun o o1 o2=>by rw[hf o o1 (by omega),q5 o o1 o2])
  rw[List.foldl_cons]
  show List.foldl (puts T n) ((parts z n).foldl (put T) (mkTo f k)) r=_
  rw[h1]
  exact fold_puts hn r e m hm q6 (fun o o1 o2=>hf o (by omega) o2)
theorem take_fold{zs:List Zn}(hz:fmd zs=true)(kn:List (Int × Int)){n:Note}(hn:Nt.fmd n=true):(all zs kn).foldl (puts (Ve.joinL [kn,n.e]) n) []=mkTo (zof zs kn n) 256:=
 fold_puts hn (f:=zof zs kn n) (all zs kn) 0 256 (Nat.le_refl _) (all_tiles hz kn) (fun _ _ _=>rfl)
end Tr
set_option maxRecDepth 100000 in
set_option maxHeartbeats 1600000 in
theorem veq_any(A B:Option Addr)(c d:Nat)(l r:List (Int × Int))(w:World)(h1:OneL w A c l)(h2:OneL w B d r) :
  Calls Tryz.prog 95 #[.slice A l.length c,.slice B r.length d] w (Says (.bool (decide (l=r))) w):=by
 have hl1:=h1.len
 have hl2:=h2.len
 have H1:=Hd h1.stamps
 have H2:=Hd h2.stamps
 clear h1 h2
 by_cases hlen:l.length=r.length
 ·obtain⟨q,hq⟩:∃q,decide (l=r)=q:=⟨_,rfl⟩
  rw[hq]
  have HQ:=Hd hq
  have HLEN:=Hd hlen
  have hne:((l.length:Int) != (r.length:Int))=false:=by rw[bne_eq_false_iff_eq];omega
  clear hq hlen
  go_enter Tryz.func95,Tryz.ntmps95
  go_wp2_with fail
  go_loopw [13] (fun s13 wr=>∃(k:Nat),k≤l.length∧s13 = .int .i64 (k:Int)∧(∀u:Nat,u<k→l.getD u (0,0)=r.getD u (0,0))∧Below w.heap.size w wr) (fun s13 _=>l.length-(intOf s13).toNat)
  case atStart=>exact⟨0,Nat.zero_le _,rfl,fun u hu=>by omega,Below.refl _ _⟩
  case round=>
   obtain⟨k,hk,rfl,hal,hbw⟩:=hrel
   have HAL:=Hd hal
   clear hal
   by_cases hlt:k<l.length
   ·have hn1:l≠[]:=fun e=>by subst e;simp at hlt
    have hlr:k<r.length:=by have:=HLEN.out;omega
    have hn2:r≠[]:=fun e=>by subst e;simp at hlr
    obtain⟨b,off,hA,hc⟩:=(H1.out.later hbw) hn1
    obtain⟨b',off',hB,hc'⟩:=(H2.out.later hbw) hn2
    subst hA hB
    obtain⟨e0,e1⟩:=hc k hlt
    obtain⟨f0,f1⟩:=hc' k hlr
    have hno:l.getD k (0,0)≠r.getD k (0,0)→q=false:=fun h=>by
     rw[←HQ.out,decide_eq_false_iff_not]
     intro e
     subst e
     exact h rfl
    have hyes:l.getD k (0,0)=r.getD k (0,0)→∀u:Nat,u<k+1→l.getD u (0,0)=r.getD u (0,0):=fun h u hu=>by
     by_cases e:u=k
     ·rw[e];exact h
     ·exact HAL.out u (by omega)
    obtain⟨z,hz⟩:∃z,l.getD k (0,0)=z:=⟨_,rfl⟩
    obtain⟨z',hz'⟩:∃z,r.getD k (0,0)=z:=⟨_,rfl⟩
    rw[hz]at e0 e1 hno hyes
    rw[hz']at f0 f1 hno hyes
    obtain⟨x,y⟩:=z
    obtain⟨x',y'⟩:=z'
    dsimp only at e0 e1 f0 f1
    have hi0:(0:Int)≤(k:Int):=by omega
    have hi1:(k:Int)<(l.length:Int):=by omega
    have hi2:(k:Int)<(r.length:Int):=by omega
    have HNO:=Hd hno
    have HY:=Hd hyes
    clear hc hc' hz hz' hno hyes hn1 hn2
    by_cases c1:x=x'
    ·by_cases c2:y=y'
     ·subst c1 c2
      have HN:=Hd (HY.out rfl)
      go_wp2_with fail
      go_region
      go_wp2_with fail
      go_roundw
      case rel=>exact⟨k+1,by omega,by first|rfl|go_num,HN.out,Below.drew hbw⟩
      case measure=>simp[intOf];omega
     ·have d1:(x == x')=true:=beq_iff_eq.2 c1
      have d2:(y == y')=false:=beq_eq_false_iff_ne.2 c2
      have hqf:=HNO.out (fun e=>c2 (by injection e))
      subst hqf
      clear c1 c2
      go_wp2_with fail
      go_region
      go_wp2
      go_ret
      exact⟨rfl,Below.drew hbw⟩
    ·have d1:(x == x')=false:=beq_eq_false_iff_ne.2 c1
     have hqf:=HNO.out (fun e=>c1 (by injection e))
     subst hqf
     clear c1
     go_wp2_with fail
     go_region
     go_wp2
     go_ret
     exact⟨rfl,Below.drew hbw⟩
   ·have hd:decide ((k:Int)<(l.length:Int))=false:=decide_eq_false (by omega)
    have hkl:k=l.length:=by omega
    have hqt:q=true:=by
     rw[←HQ.out,decide_eq_true_iff]
     exact take_ext HLEN.out (fun i hi=>HAL.out i (by omega))
    subst hqt
    clear hkl
    go_wp2
    go_ret
    exact⟨rfl,hbw⟩
 ·have hne:((l.length:Int) != (r.length:Int))=true:=by rw[bne_iff_ne];omega
  rw[decide_eq_false (fun e=>hlen (by rw[e]))]
  go_enter Tryz.func95,Tryz.ntmps95
  go_wp2
  go_ret
  exact⟨rfl,Below.refl _ _⟩
def zV(x:Zc):Value :=.agg #[.int .i64 x.lo,.int .i64 x.hi,.slice x.X x.l.length x.c]
set_option maxHeartbeats 800000 in
theorem goesOn_any(x y:Zc)(w:World)(hx:OneL w x.X x.c x.l)(hy:OneL w y.X y.c y.l)(h0:0≤x.hi)(h1:x.hi≤255) :
  Calls Tryz.prog 127 #[zV x,zV y] w (Says (.bool (decide (x.hi+1=y.lo∧x.l=y.l))) w):=by
 have EQ:=Hd (fun w' (hb:Below w.heap.size w w')=>veq_any x.X y.X x.c y.c x.l y.l w' (hx.later hb) (hy.later hb))
 obtain⟨lo,hi,X,c,l⟩:=x
 obtain⟨lo',hi',Y,d,r⟩:=y
 unfold zV
 dsimp only at EQ h0 h1 ⊢
 clear hx hy
 have wr:IntKind.i64.wrap (hi+1)=hi+1:=IntWalk.i64_in _ (by omega)
 by_cases t:hi+1=lo'
 ·have d1:(hi+1 == lo')=true:=beq_iff_eq.2 t
  have e:decide (hi+1=lo'∧l=r)=decide (l=r):=by rw[decide_eq_decide];exact⟨fun h=>h.2,fun h=>⟨t,h⟩⟩
  rw[e]
  clear t e
  go_enter Tryz.func127,Tryz.ntmps127
  go_wp2_with fail
  refine(EQ.out _ (below_new (below_new (Below.refl _ _) _) _)).mono ?_
  rintro e w1 ⟨rfl,b1⟩
  have B1:=Hd (below_on (below_new (below_new (Below.refl w.heap.size w) _) _) b1)
  clear b1 EQ
  go_wp2
  go_ret
  exact⟨rfl,B1.out⟩
 ·have d1:(hi+1 == lo')=false:=beq_eq_false_iff_ne.2 t
  rw[decide_eq_false (fun h=>t h.1)]
  clear t EQ
  go_enter Tryz.func127,Tryz.ntmps127
  go_wp2
  go_ret
  exact⟨rfl,below_new (below_new (Below.refl _ _) _) _⟩
set_option maxHeartbeats 800000 in
theorem mayFollow_any(x y:Zc)(w:World)(hx:OneL w x.X x.c x.l)(hy:OneL w y.X y.c y.l)(h0:0≤x.hi)(h1:x.hi≤255) :
  Calls Tryz.prog 161 #[zV x,zV y] w (Says (.bool (decide (x.hi<y.lo∧¬(x.hi+1=y.lo∧x.l=y.l)))) w):=by
 have GO:=Hd (fun w' (hb:Below w.heap.size w w')=>goesOn_any x y w' (hx.later hb) (hy.later hb) h0 h1)
 obtain⟨lo,hi,X,c,l⟩:=x
 obtain⟨lo',hi',Y,d,r⟩:=y
 unfold zV at GO ⊢
 dsimp only at GO h0 h1 ⊢
 clear hx hy
 by_cases t:hi<lo'
 ·have d1:decide (hi<lo')=true:=decide_eq_true t
  have e:decide (hi<lo'∧¬(hi+1=lo'∧l=r)) = !decide (hi+1=lo'∧l=r):=by rw[←decide_not,decide_eq_decide];exact⟨fun h=>h.2,fun h=>⟨t,h⟩⟩
  rw[e]
  obtain⟨q,hq⟩:∃q,decide (hi+1=lo'∧l=r)=q:=⟨_,rfl⟩
  rw[hq]at GO ⊢
  clear t e hq
  go_enter Tryz.func161,Tryz.ntmps161
  go_wp2_with fail
  refine(GO.out _ (below_new (below_new (Below.refl _ _) _) _)).mono ?_
  rintro e w1 ⟨rfl,b1⟩
  have B1:=Hd (below_on (below_new (below_new (Below.refl w.heap.size w) _) _) b1)
  clear b1 GO
  go_wp2
  go_ret
  exact⟨rfl,B1.out⟩
 ·have d1:decide (hi<lo')=false:=decide_eq_false t
  rw[decide_eq_false (fun h=>t h.1)]
  clear t GO
  go_enter Tryz.func161,Tryz.ntmps161
  go_wp2
  go_ret
  exact⟨rfl,below_new (below_new (Below.refl _ _) _) _⟩
theorem alone_any(lo hi:Int)(w:World) :
  Calls Tryz.prog 121 #[.agg #[.int .i64 lo,.int .i64 hi]] w fun e w'=>∃g,e = .returned (.slice (some ⟨g,0,none⟩) 1 1)∧Blk w' g 97 #[.int .i64 lo,.int .i64 hi]∧w.heap.size≤g∧Below w.heap.size w w':=by
 go_enter Tryz.func121,Tryz.ntmps121
 go_wp2
 go_ret
 exact⟨_,rfl,by simpa using Blk.new (w.alloc (.cells #[.int .i64 lo,.int .i64 hi] 97)) 97 #[.int .i64 lo,.int .i64 hi],by simp,below_new (below_new (Below.refl _ _) _) _⟩
theorem everything_any(w:World) :
  Calls Tryz.prog 120 #[] w fun e w'=>e = .returned (.agg #[.int .i64 0,.int .i64 255])∧Below w.heap.size w w':=by
 go_enter Tryz.func120,Tryz.ntmps120
 go_wp2_with fail
 exact bodyPost_ret (v :=.agg #[.int .i64 0,.int .i64 255]) (by simp[results,Tryz.results120,go_sem]) rfl ⟨rfl,below_new (Below.refl _ _) _⟩
end Go.Proofs.YtjlfehpockfkdaaGreat
namespace Go.Proofs.YtjlfehpockfkdaaGreat
open Go.RowKit Fb
set_option maxHeartbeats 800000 in
theorem isObject_any(o:Int)(w:World):Calls Tryz.prog 146 #[.int .i64 o] w fun e w'=>e = .returned (.bool (decide (0≤o∧o≤255)))∧Below w.heap.size w w':=by
 by_cases h0:0≤o
 ·have d0:decide (0≤o)=true:=decide_eq_true h0
  by_cases h1:o<256
  ·have d1:decide (o<256)=true:=decide_eq_true h1
   rw[show decide (0≤o∧o≤255)=true from decide_eq_true (by omega)]
   go_enter Tryz.func146,Tryz.ntmps146
   go_wp2
   go_ret
   exact⟨rfl,Below.refl _ _⟩
  ·have d1:decide (o<256)=false:=decide_eq_false h1
   rw[show decide (0≤o∧o≤255)=false from decide_eq_false (by omega)]
   go_enter Tryz.func146,Tryz.ntmps146
   go_wp2
   go_ret
   exact⟨rfl,Below.refl _ _⟩
 ·have d0:decide (0≤o)=false:=decide_eq_false h0
  rw[show decide (0≤o∧o≤255)=false from decide_eq_false (by omega)]
  go_enter Tryz.func146,Tryz.ntmps146
  go_wp2
  go_ret
  exact⟨rfl,Below.refl _ _⟩
def Sp.apt(l:List (Int × Int))(j:Nat):Prop:=0≤(l.getD j (0,0)).1∧(l.getD j (0,0)).1≤(l.getD j (0,0)).2∧(l.getD j (0,0)).2<256∧(0<j→(l.getD (j-1) (0,0)).2+1<(l.getD j (0,0)).1)
theorem Sp.fmd_no(l:List (Int × Int))(k:Nat)(hk:k<l.length)(h:¬Sp.apt l k):Sp.fmd l=false:=by
 rcases Sp.two (Sp.fmd l) with h1|h1
 ·exact absurd ((Sp.fmd_iff l).1 h1 k hk) h
 ·exact h1
set_option maxHeartbeats 1600000 in
theorem spformed_any(A:Option Addr)(c1:Nat)(l:List (Int × Int))(w:World)(h1:OneL w A c1 l) :
  Calls Tryz.prog 100 #[.slice A l.length c1] w (Says (.bool (Sp.fmd l)) w):=by
 have hl:=h1.len
 have HS:=Hd h1.stamps
 clear h1
 go_enter Tryz.func100,Tryz.ntmps100
 go_wp2_with fail
 go_loopw [3,8] (fun s3 s8 wr=>∃(k:Nat) (least:Int),k≤l.length∧s8 = .int .i64 (k:Int)∧s3 = .int .i64 least∧(∀j,j<k→Sp.apt l j)∧((k=0∧least=0)∨(0<k∧least=(l.getD (k-1) (0,0)).2+2))∧Below w.heap.size w wr) (fun _ s8 _=>l.length-(intOf s8).toNat)
 case atStart=>exact⟨0,0,Nat.zero_le _,rfl,rfl,fun j hj=>by omega,.inl ⟨rfl,rfl⟩,Below.refl _ _⟩
 case round=>
  obtain⟨k,least,hk,rfl,rfl,hap,hle,hbw⟩:=hrel
  by_cases hlt:k<l.length
  ·have hne:l≠[]:=fun e=>by subst e;simp at hlt
   obtain⟨b,off,hA,hc⟩:=(HS.out.later hbw) hne
   subst hA
   obtain⟨e0,e1⟩:=hc k hlt
   have hi0:(0:Int)≤(k:Int):=by omega
   have hi1:(k:Int)<(l.length:Int):=by omega
   have hno:=Sp.fmd_no l k hlt
   have hyes:Sp.apt l k→∀j,j<k+1→Sp.apt l j:=fun h j hj=>by
    by_cases e:j=k
    ·rw[e];exact h
    ·exact hap j (by omega)
   have hle2:(l.getD k (0,0)).1<least→¬Sp.apt l k:=fun h1 h2=>by
    obtain⟨q1,q2,q3,q4⟩:=h2
    rcases hle with ⟨h3,h4⟩|⟨h3,h4⟩
    ·omega
    ·have:=q4 h3
     omega
   have hle3:¬(l.getD k (0,0)).1<least→0≤(l.getD k (0,0)).1∧(0<k→(l.getD (k-1) (0,0)).2+1<(l.getD k (0,0)).1):=fun h1=>by
    rcases hle with ⟨h3,h4⟩|⟨h3,h4⟩
    ·exact⟨by omega,by omega⟩
    ·obtain⟨q1,q2,q3,q4⟩:=hap (k-1) (by omega)
     exact⟨by omega,by omega⟩
   have hapt:Sp.apt l k=(0≤(l.getD k (0,0)).1∧(l.getD k (0,0)).1≤(l.getD k (0,0)).2∧(l.getD k (0,0)).2<256∧(0<k→(l.getD (k-1) (0,0)).2+1<(l.getD k (0,0)).1)):=rfl
   have hnx:l.getD (k+1-1) (0,0)=l.getD k (0,0):=by rw[Nat.add_sub_cancel]
   obtain⟨z,hz⟩:∃z,l.getD k (0,0)=z:=⟨_,rfl⟩
   rw[hz]at e0 e1 hle2 hle3 hapt hnx
   obtain⟨x,y⟩:=z
   have hle2:x<least→¬Sp.apt l k:=hle2
   have hle3:¬x<least→0≤x∧(0<k→(l.getD (k-1) (0,0)).2+1<x):=hle3
   have hapt:Sp.apt l k=(0≤x∧x≤y∧y<256∧(0<k→(l.getD (k-1) (0,0)).2+1<x)):=hapt
   have HNO:=Hd hno
   have HY:=Hd hyes
   have HNX:=Hd hnx
   have HLE3:=Hd hle3
   have HLE2:=Hd hle2
   have HAPT:=Hd hapt
   have hbn:=below_new hbw (.cells #[.int .i64 x,.int .i64 y] 97)
   clear hno hyes hnx hle hap hz hle2 hle3 hapt hc
   by_cases c1:x<least
   ·have d1:decide (x<least)=true:=decide_eq_true c1
    have HQ:=Hd (HNO.out (HLE2.out c1))
    clear HNO HLE2 HLE3 HAPT
    go_wp2
    go_ret
    exact⟨by rw[HQ.out];rfl,hbn⟩
   ·have d1:decide (x<least)=false:=decide_eq_false c1
    by_cases c2:y<x
    ·have d2:decide (y<x)=true:=decide_eq_true c2
     have HQ:=Hd (HNO.out (fun h=>by rw[HAPT.out]at h;omega))
     clear HNO HLE2 HLE3 HAPT
     go_wp2
     go_ret
     exact⟨by rw[HQ.out];rfl,hbn⟩
    ·have d2:decide (y<x)=false:=decide_eq_false c2
     have n1:=fun wx=>isObject_any y wx
     obtain⟨q1,q2⟩:=HLE3.out c1
     have HQ2:=Hd q2
     clear q2
     by_cases c3:y<256
     ·have d3:decide (0≤y∧y≤255)=true:=decide_eq_true (by omega)
      rw[d3]at n1
      have N1:=Hd n1
      have HAP:=Hd (show Sp.apt l k from by rw[HAPT.out];exact⟨q1,by omega,c3,HQ2.out⟩)
      clear HNO HLE2 HLE3 HAPT d3 n1
      go_wp2_with fail
      refine(N1.out _).mono ?_
      rintro e w2 ⟨rfl,b2⟩
      have hb2:=below_on hbn b2
      have hB:=(Blk.new wr 97 #[.int .i64 x,.int .i64 y]).later b2
      have g1:=hB.cell (i:=1) rfl
      go_wp2_with fail
      go_roundw
      case rel=>exact⟨k+1,y+2,by omega,by go_num,by go_num,HY.out HAP.out,.inr ⟨by omega,by rw[HNX.out]⟩,hb2⟩
      case measure=>simp[intOf];omega
     ·have d3:decide (0≤y∧y≤255)=false:=decide_eq_false (by omega)
      rw[d3]at n1
      have N1:=Hd n1
      have HQ:=Hd (HNO.out (fun h=>by rw[HAPT.out]at h;omega))
      clear HNO HLE2 HLE3 HAPT d3 n1
      go_wp2_with fail
      refine(N1.out _).mono ?_
      rintro e w2 ⟨rfl,b2⟩
      have hb2:=below_on hbn b2
      go_wp2
      go_ret
      exact⟨by rw[HQ.out];rfl,hb2⟩
  ·have HQ:=Hd (show Sp.fmd l=true from(Sp.fmd_iff l).2 (fun j hj=>hap j (by omega)))
   clear hap hle
   go_wp2
   go_ret
   exact⟨by rw[HQ.out];rfl,hbw⟩
set_option maxHeartbeats 1600000 in
theorem sphas_any(A:Option Addr)(c1:Nat)(l:List (Int × Int))(o:Int)(w:World)(h1:OneL w A c1 l) :
  Calls Tryz.prog 83 #[.slice A l.length c1,.int .i64 o] w (Says (.bool (inOf l o)) w):=by
 have hl:=h1.len
 have n1:=isObject_any o
 by_cases h0:0≤o∧o≤255
 ·obtain⟨p,rfl⟩:∃p:Nat,o=(p:Int):=⟨o.toNat,by omega⟩
  have hi:inOf l (p:Int)=Sp.inL l p:=by unfold inOf;rw[decide_eq_true h0];rfl
  rw[decide_eq_true h0]at n1
  rw[hi]
  have N1:=Hd n1
  have HS:=Hd h1.stamps
  clear n1 h1 hi h0
  go_enter Tryz.func83,Tryz.ntmps83
  go_wp2_with fail
  refine(N1.out _).mono ?_
  rintro e w1 ⟨rfl,b1⟩
  clear N1
  go_wp2_with fail
  go_loopw [12] (fun s12 wr=>∃k:Nat,k≤l.length∧s12 = .int .i64 (k:Int)∧Sp.inL (l.take k) p=false∧Below w.heap.size w wr) (fun s12 _=>l.length-(intOf s12).toNat)
  case atStart=>exact⟨0,Nat.zero_le _,rfl,rfl,b1⟩
  case round=>
   obtain⟨k,hk,rfl,hin,hbw⟩:=hrel
   by_cases hlt:k<l.length
   ·have hne:l≠[]:=fun e=>by subst e;simp at hlt
    obtain⟨b,off,hA,hc⟩:=(HS.out.later hbw) hne
    subst hA
    obtain⟨e0,e1⟩:=hc k hlt
    rw[List.getD_eq_getElem?_getD,List.getElem?_eq_getElem hlt,Option.getD_some]at e0 e1
    have hi0:(0:Int)≤(k:Int):=by omega
    have hi1:(k:Int)<(l.length:Int):=by omega
    have hit:=Sp.inL_take l k hlt p
    have hmem:l[k].1≤(p:Int)→(p:Int)≤l[k].2→Sp.inL l p=true:=fun q1 q2=>(Sp.inL_iff l p).2 ⟨l[k],List.getElem_mem hlt,q1,q2⟩
    rw[hin,Bool.false_or]at hit
    obtain⟨z,hz⟩:∃z,l[k]=z:=⟨_,rfl⟩
    rw[hz]at e0 e1 hit hmem
    obtain⟨x,y⟩:=z
    have HIT:=Hd (show Sp.inL (l.take (k+1)) p=decide (x≤(p:Int)∧(p:Int)≤y) from hit)
    have HM:=Hd (show x≤(p:Int)→(p:Int)≤y→Sp.inL l p=true from hmem)
    have hbn:=below_new hbw (.cells #[.int .i64 x,.int .i64 y] 97)
    clear hit hmem hz hin hc b1
    by_cases c1:x≤(p:Int)
    ·have d1:decide (x≤(p:Int))=true:=decide_eq_true c1
     by_cases c2:(p:Int)≤y
     ·have d2:decide ((p:Int)≤y)=true:=decide_eq_true c2
      have HQ:=Hd (HM.out c1 c2)
      clear HM HIT
      go_wp2
      go_ret
      exact⟨by rw[HQ.out];rfl,hbn⟩
     ·have d2:decide ((p:Int)≤y)=false:=decide_eq_false c2
      have HQ:=Hd (show Sp.inL (l.take (k+1)) p=false from by rw[HIT.out];exact decide_eq_false (fun h=>c2 h.2))
      clear HM HIT
      go_wp2_with fail
      go_roundw
      case rel=>exact⟨k+1,by omega,by go_num,HQ.out,hbn⟩
      case measure=>simp[intOf];omega
    ·have d1:decide (x≤(p:Int))=false:=decide_eq_false c1
     have HQ:=Hd (show Sp.inL (l.take (k+1)) p=false from by rw[HIT.out];exact decide_eq_false (fun h=>c1 h.1))
     clear HM HIT
     go_wp2_with fail
     go_roundw
     case rel=>exact⟨k+1,by omega,by go_num,HQ.out,hbn⟩
     case measure=>simp[intOf];omega
   ·have hkl:k=l.length:=by omega
    subst hkl
    rw[List.take_length]at hin
    have HQ:=Hd hin
    clear hin b1
    go_wp2
    go_ret
    exact⟨by rw[HQ.out];rfl,hbw⟩
 ·have hi:inOf l o=false:=by unfold inOf;rw[decide_eq_false h0];rfl
  rw[decide_eq_false h0]at n1
  rw[hi]
  have N1:=Hd n1
  clear n1 h1 hi
  go_enter Tryz.func83,Tryz.ntmps83
  go_wp2_with fail
  refine(N1.out _).mono ?_
  rintro e w1 ⟨rfl,b1⟩
  go_wp2
  go_ret
  exact⟨rfl,b1⟩
theorem infoSet:(Tryz.prog.info? 178).map (·.size)=some 256:=by kernel_rfl
theorem index_set(f:Nat→Bool)(k:Nat)(hk:k<256)(w:World):(Instr.index 178 (.agg (Sp.arr f)) (.int .i64 (k:Int))).run Tryz.prog w = .ok (.bool (f k)) w:=by
 have h1:=Sp.arr_get f k hk
 simp[Instr.index,asIntOf,run_underlying Tryz.underlying178,part,Tryz.isAgg4,Tryz.sizeOf4,h1]
 intro h
 exact absurd h (by omega)
set_option maxRecDepth 100000 in
set_option maxHeartbeats 3200000 in
theorem spans_any(f:Nat→Bool)(w:World):Calls Tryz.prog 150 #[.agg (Sp.arr f)] w (GivesS (Sp.ofL f) w):=by
 obtain⟨i0,hi,hz0,hz1,hz2⟩:=info_parts infoSp
 go_enter Tryz.func150,Tryz.ntmps150
 go_wp2_with (refine wpList_load_row rfl 178 _ rfl w.heap.size rfl 178 (Sp.arr f) (0,0) _ (Blk.new w 178 (Sp.arr f)) Tryz.underlying178 rfl (by rw[Sp.arr_size];exact infoSet) ?_)
 go_loopw [3,7] (fun s3 s4 wr=>∃k:Nat,k≤256∧s4 = .int .i64 (k:Int)∧wr.ownsRow (w.heap.size+1) 97 2 s3 (Sp.ofTo f k).length (stCells (Sp.ofTo f k))∧Blk wr w.heap.size 178 (Sp.arr f)∧Below w.heap.size w wr) (fun _ s4 _=>256-(intOf s4).toNat)
 case atStart=>exact⟨0,by omega,rfl,⟨rfl,.inl ⟨rfl,rfl⟩⟩,Blk.new _ _ _,below_new (Below.refl _ _) _⟩
 case round=>
  obtain⟨k,hk,rfl,hown,hB,hbw⟩:=hrel
  by_cases hlt:k<256
  ·have hix:=fun w=>index_set f k hlt w
   have hi0:(0:Int)≤(k:Int):=by omega
   have hi1:(k:Int)<256:=by omega
   have hln:(Sp.ofTo f k).length≤256:=by have:=Sp.ofTo_short f k;omega
   have hsz:=hbw.size
   have HB:=Hd hB
   have hst:=Sp.ofTo.eq_2 f k
   have his:=(Sp.ofTo_is f k).2.2.1
   cases hp:f k
   ·rw[hp]at hix hst
    have HST:=Hd (hst.trans (if_neg (by simp)))
    have HO:=Hd hown
    clear hown hst hp hB his
    go_wp2_with fail
    go_roundw
    case rel=>exact⟨k+1,by omega,by go_num,by rw[HST.out];exact HO.out,HB.out,hbw⟩
    case measure=>simp[intOf];omega
   ·rw[hp]at hix hst
    rw[if_pos rfl]at hst
    by_cases hq:0<k∧f (k-1)=true
    ·rw[if_pos hq]at hst
     obtain⟨hl0,_⟩:=his hq.1 hq.2
     obtain⟨m,rfl⟩:∃m,k=m+1:=⟨k-1,by omega⟩
     have c1:=hB.marks_cell m (by omega)
     replace hix:∀w,(Instr.index 178 (.agg (Sp.arr f)) (.int .i64 ((m:Int)+1))).run Tryz.prog w = .ok (.bool true) w:=fun w=>hix w
     have hfm:f m=true:=hq.2
     rw[hfm]at c1
     have hm1:((m+1:Nat):Int)-1=(m:Int):=by omega
     have hm0:(0:Int)≤(m:Int):=by omega
     have hm2:(m:Int)<256:=by omega
     have hg:decide (((m+1:Nat):Int)>0)=true:=decide_eq_true (by omega)
     obtain⟨g,cap,rfl⟩:=own_len hown hl0
     obtain⟨hg1,hg2⟩:=own_base_le hown
     have hrc:=reach_cells _ hl0 ((m+1:Nat):Int)
     have hrl:=Sp.reach_len _ ((m+1:Nat):Int) hl0
     obtain⟨L,hL⟩:∃L,Sp.ofTo f (m+1)=L:=⟨_,rfl⟩
     rw[hL]at hown hrc hrl hst hl0 hln
     obtain⟨q,hq1⟩:∃q,L.length=q+1:=⟨L.length-1,by omega⟩
     have hcl:=own_cell_at hown (i:=q*2+1) (stCells_get L q (by omega)).2
     have hfr:=own_free_at hown (q*2+1)
     have hpt:=own_put hown (q*2+1) (.int .i64 ((m+1:Nat):Int))
     rw[hq1,show q+1-1=q from rfl]at hrc
     rw[hrc]at hpt
     rw[←hst]at hpt hrl
     rw[←hrl]at hpt
     have hq2:((q+1:Nat):Int)-1=(q:Int):=by omega
     have hq3:(0:Int)≤(q:Int):=by omega
     have hq4:(q:Int)<((q+1:Nat):Int):=by omega
     have hB2:=Hd (HB.out.far (p:=⟨g,q*2+1,none⟩) (by show w.heap.size≠g;omega) (.int .i64 ((m+1:Nat):Int)))
     have hb2:=hbw.setCell (p:=⟨g,q*2+1,none⟩) (by show w.heap.size≤g;omega) (.int .i64 ((m+1:Nat):Int))
     rw[hrl,hq1]at hpt
     rw[hL,hq1]
     have HPT:=Hd hpt
     have HRL:=Hd (hrl.trans hq1)
     clear hpt hrc hst hown hB hq hp hfm hL his hl0
     go_wp2_with fail
     go_roundw
     case rel=>exact⟨m+1+1,by omega,by go_num,by rw[HRL.out];exact HPT.out,hB2.out,hb2⟩
     case measure=>simp[intOf];omega
    ·have hgd:0<k→f (k-1)=false:=fun h0=>by
      cases hf:f (k-1) with
      |false=>rfl
      |true=>exact absurd ⟨h0,hf⟩ hq
     rw[if_neg hq]at hst
     have HST:=Hd hst
     cases k with
     |zero=>
      replace hix:∀w,(Instr.index 178 (.agg (Sp.arr f)) (.int .i64 0)).run Tryz.prog w = .ok (.bool true) w:=fun w=>hix w
      clear hst hq hp hB his
      go_wp2_with (at_builtin;refine wpList_append_lies _ rfl _ _ 28 rfl (w.heap.size+1) 97 i0 (.agg #[.int .i64 0,.int .i64 0]) 2 16 Tryz.underlying28 hi hz0 hz1 hz2 rfl (by decide) _ (Sp.ofTo f 0).length (stCells (Sp.ofTo f 0)) rfl (hown.alloc _) (some ⟨wr.heap.size,0,none⟩) 1 1 (fun h=>by cases h) (stCells [(0,0)]) rfl rfl ?c1 (stCells_one _) ?c3 ?c4 ?c5 ?_)
      case c1=>
       intro _
       refine⟨wr.heap.size,0,rfl,fun j u hu =>?_⟩
       rw[Nat.zero_add]
       exact(Blk.new wr 97 #[.int .i64 0,.int .i64 0]).cell (by simpa[stCells] using hu)
      case c3=>unfold maxLen;omega
      case c4=>omega
      case c5=>have:=HB.out.lt;simp;omega
      intro v' w1 hown1 hg1 _
      have hB1:Blk w1 w.heap.size 178 (Sp.arr f):=(hg1.block w.heap.size (by have:=HB.out.lt;simp;omega) (fun e=>by have:=own_ge hown _ e.symm;omega)).trans (HB.out.alloc _)
      have hb1:Below w.heap.size w w1:=(below_new hbw _).grown hg1 (by simp;omega) (fun k' hk'=>by have:=own_ge hown _ hk';omega)
      rw[←stCells_append,show(Sp.ofTo f 0).length+1=(Sp.ofTo f 0++[(((0:Nat):Int),((0:Nat):Int))]).length from by simp]at hown1
      have HO:=Hd (show w1.ownsRow _ _ _ v' _ (stCells (Sp.ofTo f 0++[(((0:Nat):Int),((0:Nat):Int))])) from hown1)
      have HB1:=Hd hB1
      clear hown1 hB1 hown hg1
      go_wp2_with fail
      go_roundw
      case rel=>exact⟨0+1,by omega,by go_num,by rw[HST.out];exact HO.out,HB1.out,hb1⟩
      case measure=>simp[intOf]
     |succ m=>
      have c1:=hB.marks_cell m (by omega)
      replace hix:∀w,(Instr.index 178 (.agg (Sp.arr f)) (.int .i64 ((m:Int)+1))).run Tryz.prog w = .ok (.bool true) w:=fun w=>hix w
      have hfm:f m=false:=hgd (by omega)
      rw[hfm]at c1
      have hm1:((m+1:Nat):Int)-1=(m:Int):=by omega
      have hm0:(0:Int)≤(m:Int):=by omega
      have hm2:(m:Int)<256:=by omega
      have hg:decide (((m+1:Nat):Int)>0)=true:=decide_eq_true (by omega)
      clear hst hq hp hB his hgd hfm
      go_wp2_with (at_builtin;refine wpList_append_lies _ rfl _ _ 28 rfl (w.heap.size+1) 97 i0 (.agg #[.int .i64 0,.int .i64 0]) 2 16 Tryz.underlying28 hi hz0 hz1 hz2 rfl (by decide) _ (Sp.ofTo f (m+1)).length (stCells (Sp.ofTo f (m+1))) rfl (hown.alloc _) (some ⟨wr.heap.size,0,none⟩) 1 1 (fun h=>by cases h) (stCells [(((m+1:Nat):Int),((m+1:Nat):Int))]) rfl rfl ?c1 (stCells_one _) ?c3 ?c4 ?c5 ?_)
      case c1=>
       intro _
       refine⟨wr.heap.size,0,rfl,fun j u hu =>?_⟩
       rw[Nat.zero_add]
       exact(Blk.new wr 97 #[.int .i64 ((m+1:Nat):Int),.int .i64 ((m+1:Nat):Int)]).cell (by simpa[stCells] using hu)
      case c3=>unfold maxLen;omega
      case c4=>omega
      case c5=>have:=HB.out.lt;simp;omega
      intro v' w1 hown1 hg1 _
      have hB1:Blk w1 w.heap.size 178 (Sp.arr f):=(hg1.block w.heap.size (by have:=HB.out.lt;simp;omega) (fun e=>by have:=own_ge hown _ e.symm;omega)).trans (HB.out.alloc _)
      have hb1:Below w.heap.size w w1:=(below_new hbw _).grown hg1 (by simp;omega) (fun k' hk'=>by have:=own_ge hown _ hk';omega)
      rw[←stCells_append,show(Sp.ofTo f (m+1)).length+1=(Sp.ofTo f (m+1)++[(((m+1:Nat):Int),((m+1:Nat):Int))]).length from by simp]at hown1
      have HO:=Hd hown1
      have HB1:=Hd hB1
      clear hown1 hB1 hown hg1
      go_wp2_with fail
      go_roundw
      case rel=>exact⟨m+1+1,by omega,by go_num,by rw[HST.out];exact HO.out,HB1.out,hb1⟩
      case measure=>simp[intOf];omega
  ·have hk64:k=256:=by omega
   subst hk64
   have HO:=Hd hown
   clear hown
   go_wp2
   go_ret
   exact⟨_,rfl,own_base HO.out (by omega),hbw⟩
end Go.Proofs.YtjlfehpockfkdaaGreat
namespace Go.Proofs.YtjlfehpockfkdaaGreat
namespace Sp
def cvS(s:Int × Int)(o:Nat):Int:=if s.1≤(o:Int)∧(o:Int)≤s.2 then 1 else 0
def cvL:List (Int × Int)→Nat→Int
 | [],_=>0
 |s::r,o=>cvS s o+cvL r o
theorem cvS_bd(s:Int × Int)(o:Nat):0≤cvS s o∧cvS s o≤1:=by unfold cvS;split<;>omega
theorem cvS_pos(s:Int × Int)(o:Nat):0<cvS s o↔s.1≤(o:Int)∧(o:Int)≤s.2:=by
 unfold cvS
 by_cases h:s.1≤(o:Int)∧(o:Int)≤s.2
 ·rw[if_pos h];exact⟨fun _=>h,fun _=>by omega⟩
 ·rw[if_neg h];exact⟨fun h2=>by omega,fun h2=>absurd h2 h⟩
theorem cvL_snoc(s:Int × Int)(o:Nat):∀l,cvL (l++[s]) o=cvL l o+cvS s o
 | []=>by show cvS s o+0=0+cvS s o;omega
 |t::r=>by
  have:=cvL_snoc s o r
  show cvS t o+cvL (r++[s]) o=cvS t o+cvL r o+cvS s o
  omega
theorem cvL_take(l:List (Int × Int))(k:Nat)(h:k<l.length)(o:Nat):cvL (l.take (k+1)) o=cvL (l.take k) o+cvS l[k] o:=by
 rw[List.take_succ_eq_append_getElem h,cvL_snoc]
theorem cvL_bd(o:Nat):∀l,0≤cvL l o∧cvL l o≤(l.length:Int)
 | []=>⟨Int.le_refl _,Int.le_refl _⟩
 |s::r=>by
  have h1:=cvL_bd o r
  have h2:=cvS_bd s o
  have e:cvL (s::r) o=cvS s o+cvL r o:=rfl
  rw[e,List.length_cons]
  omega
theorem cvL_pos(o:Nat):∀l,0<cvL l o↔inL l o=true
 | []=>⟨fun h=>absurd h (Int.lt_irrefl _),fun h=>by cases h⟩
 |s::r=>by
  have h1:=cvL_pos o r
  have h2:=cvS_pos s o
  have h3:=(cvL_bd o r).1
  have h4:=(cvS_bd s o).1
  have e:cvL (s::r) o=cvS s o+cvL r o:=rfl
  rw[e,inL_cons,Bool.or_eq_true,decide_eq_true_eq,←h1,←h2]
  omega
def cvTo(ls:List (List (Int × Int))):Nat→Nat→Int
 |0,_=>0
 |k+1,o=>cvTo ls k o+cvL (ls.getD k []) o
def totTo(ls:List (List (Int × Int))):Nat→Nat
 |0=>0
 |k+1=>totTo ls k+(ls.getD k []).length
theorem totTo_cons(l:List (Int × Int))(ls:List (List (Int × Int))):∀k,totTo (l::ls) (k+1)=l.length+totTo ls k
 |0=>by show 0+l.length=l.length+0;omega
 |k+1=>by
  have:=totTo_cons l ls k
  show totTo (l::ls) (k+1)+(ls.getD k []).length=l.length+(totTo ls k+(ls.getD k []).length)
  omega
theorem totTo_all:∀ls,totTo ls ls.length=tot ls
 | []=>rfl
 |l::r=>by
  rw[List.length_cons,totTo_cons,totTo_all r]
  simp[tot]
theorem totTo_mono(ls:List (List (Int × Int)))(k:Nat):∀m,k≤m→totTo ls k≤totTo ls m
 |0,h=>by rw[Nat.le_zero.1 h];exact Nat.le_refl _
 |m+1,h=>by
  rcases Nat.lt_or_ge m k with h1|h1
  ·rw[show k=m+1 from by omega];exact Nat.le_refl _
  ·have:=totTo_mono ls k m h1
   show totTo ls k≤totTo ls m+_
   omega
theorem totTo_le(ls:List (List (Int × Int)))(k:Nat)(h:k<ls.length):totTo ls k+(ls.getD k []).length≤tot ls:=by
 have:=totTo_mono ls (k+1) ls.length h
 rw[totTo_all]at this
 exact this
theorem cvTo_bd(ls:List (List (Int × Int)))(o:Nat):∀k,0≤cvTo ls k o∧cvTo ls k o≤(totTo ls k:Int)
 |0=>⟨Int.le_refl _,Int.le_refl _⟩
 |k+1=>by
  have h1:=cvTo_bd ls o k
  have h2:=cvL_bd o (ls.getD k [])
  have e:cvTo ls (k+1) o=cvTo ls k o+cvL (ls.getD k []) o:=rfl
  have e2:totTo ls (k+1)=totTo ls k+(ls.getD k []).length:=rfl
  rw[e,e2]
  omega
theorem cvTo_pos(ls:List (List (Int × Int)))(o:Nat):∀k,0<cvTo ls k o↔anyTo ls k o=true
 |0=>⟨fun h=>absurd h (Int.lt_irrefl _),fun h=>by cases h⟩
 |k+1=>by
  have h1:=cvTo_pos ls o k
  have h2:=cvL_pos o (ls.getD k [])
  have h3:=(cvTo_bd ls o k).1
  have h4:=(cvL_bd o (ls.getD k [])).1
  have e:cvTo ls (k+1) o=cvTo ls k o+cvL (ls.getD k []) o:=rfl
  have e2:anyTo ls (k+1) o=(anyTo ls k o||inL (ls.getD k []) o):=rfl
  rw[e,e2,Bool.or_eq_true,←h1,←h2]
  omega
def sumTo(c:Nat→Int):Nat→Int
 |0=>0
 |k+1=>sumTo c k+c k
theorem sumTo_put(c:Nat→Int)(p:Nat)(v:Int):∀k,sumTo (fun j=>if j=p then v else c j) k=sumTo c k+(if p<k then v-c p else 0)
 |0=>by
  rw[if_neg (by omega)]
  show(0:Int)=0+0
  omega
 |k+1=>by
  have h:=sumTo_put c p v k
  show sumTo (fun j=>if j=p then v else c j) k+(if k=p then v else c k)=sumTo c k+c k+_
  rw[h]
  by_cases e:k=p
  ·rw[if_neg (by omega),if_pos e,if_pos (by omega),e]
   omega
  ·rw[if_neg e]
   by_cases e2:p<k
   ·rw[if_pos e2,if_pos (by omega)]
    omega
   ·rw[if_neg e2,if_neg (by omega)]
    omega
theorem sumTo_zero:∀k,sumTo (fun _=>0) k=0
 |0=>rfl
 |k+1=>by
  have:=sumTo_zero k
  show sumTo (fun _=>0) k+0=0
  omega
def Dif(n:Nat)(c g:Nat→Int):Prop:=(∀o,o<256→sumTo c (o+1)=g o)∧∀j,-(n:Int)≤c j∧c j≤(n:Int)
theorem Dif.zero:Dif 0 (fun _=>0) (fun _=>0):=⟨fun _ _=>sumTo_zero _,fun _=>⟨Int.le_refl _,Int.le_refl _⟩⟩
theorem Dif.same{n m:Nat}{c g g':Nat→Int}(h:Dif n c g)(hm:n≤m)(hg:∀o,o<256→g o=g' o):Dif m c g':=⟨fun o ho=>(h.1 o ho).trans (hg o ho),fun j=>by have:=h.2 j;omega⟩
theorem Dif.step{n:Nat}{c g g':Nat→Int}(h:Dif n c g)(p q:Nat)(hpq:p≤q)(hg:∀o,o<256→g' o=g o+(if p≤o∧o≤q then 1 else 0)) :
  Dif (n+1) (fun j=>if j=q+1 then c (q+1)-1 else (if j=p then c p+1 else c j)) g':=by
 refine⟨fun o ho =>?_,fun j =>?_⟩
 ·rw[sumTo_put (fun j=>if j=p then c p+1 else c j) (q+1) (c (q+1)-1),sumTo_put c p (c p+1),h.1 o ho,hg o ho,if_neg (show ¬(q+1=p) from by omega)]
  by_cases h1:p≤o
  ·rw[if_pos (show p<o+1 from by omega)]
   by_cases h2:o≤q
   ·rw[if_neg (show ¬(q+1<o+1) from by omega),if_pos ⟨h1,h2⟩]
    omega
   ·rw[if_pos (show q+1<o+1 from by omega),if_neg (fun h=>h2 h.2)]
    omega
  ·rw[if_neg (show ¬(p<o+1) from by omega),if_neg (show ¬(q+1<o+1) from by omega),if_neg (fun h=>h1 h.1)]
   omega
 ·have h1:=h.2 j
  have h2:=h.2 p
  have h3:=h.2 (q+1)
  show -((n+1:Nat):Int)≤(if j=q+1 then c (q+1)-1 else (if j=p then c p+1 else c j))∧(if j=q+1 then c (q+1)-1 else (if j=p then c p+1 else c j))≤((n+1:Nat):Int)
  split
  ·omega
  ·split<;>omega
theorem over_any(ls:List (List (Int × Int)))(o:Nat):decide (0<cvTo ls ls.length o)=anyTo ls ls.length o:=by
 rw[Bool.eq_iff_iff,decide_eq_true_eq]
 exact cvTo_pos ls o ls.length
end Sp
end Go.Proofs.YtjlfehpockfkdaaGreat
namespace Go.Proofs.YtjlfehpockfkdaaGreat
open Go.RowKit Fb
section
variable {w:World} {g:Nat} {t:TypeId} {c:Nat→Int}
theorem Blk.nar_put(h:Blk w g t (Sp.nar c))(i:Nat)(x:Int):Blk (w.setCell ⟨g,i,none⟩ (.int .i64 x)) g t (Sp.nar fun j=>if j=i then x else c j):=by
 have h2:=h.put i (.int .i64 x)
 rw[Sp.nar_set c i x]at h2
 exact h2
theorem Blk.nar_cell(h:Blk w g t (Sp.nar c))(i:Nat)(hi:i<257):w.cell? ⟨g,i,none⟩=some (.int .i64 (c i)):=h.cell (Sp.nar_get c i hi)
end
set_option maxRecDepth 100000 in
set_option maxHeartbeats 6400000 in
theorem setOf_any(A:Option Addr)(cap:Nat)(ls:List (List (Int × Int)))(w:World)(hn:ls.length≤9223372036854775807)(htot:Sp.tot ls≤9223372036854775807)(h:Rows w A ls) :
  Calls Tryz.prog 149 #[.slice A ls.length cap] w fun e w'=>e = .returned (.agg (Sp.arr (Sp.anyTo ls ls.length)))∧Below w.heap.size w w':=by
 have HR:=Hd h
 have hov:=fun o=>Sp.over_any ls o
 obtain⟨F,hF⟩:∃F,Sp.anyTo ls ls.length=F:=⟨_,rfl⟩
 rw[hF]at hov ⊢
 have HOV0:=Hd hov
 clear h hov hF
 go_enter Tryz.func149,Tryz.ntmps149
 go_wp2_with fail
 rw[set_zero,change_zero]
 go_loopw [15] (fun s15 wr=>∃(k:Nat) (c:Nat→Int),k≤ls.length∧s15 = .int .i64 (k:Int)∧Sp.Dif (Sp.totTo ls k) c (Sp.cvTo ls k)∧Blk wr (w.heap.size+1) 199 (Sp.nar c)∧Blk wr w.heap.size 178 (Sp.arr fun _=>false)∧Below w.heap.size w wr) (fun s15 _=>ls.length-(intOf s15).toNat)
 case atStart=>
  have hb:=Blk.new (w.alloc (.cells (Sp.arr fun _=>false) 178)) 199 (Sp.nar fun _=>0)
  rw[show(w.alloc (.cells (Sp.arr fun _=>false) 178)).heap.size=w.heap.size+1 from by simp]at hb
  exact⟨0,fun _=>0,Nat.zero_le _,rfl,Sp.Dif.zero,hb,(Blk.new _ _ _).alloc _,below_new (below_new (Below.refl _ _) _) _⟩
 case round=>
  obtain⟨k,c,hk,rfl,hdif,hB1,hB0,hbw⟩:=hrel
  by_cases hlt:k<ls.length
  ·have hne:ls≠[]:=fun e=>by subst e;simp at hlt
   obtain⟨b,off,hA,hc⟩:=HR.out hne
   obtain⟨A',c',e0,o1⟩:=hc k hlt
   replace e0:=cell_later hbw e0
   have HR2:=HR
   subst hA
   have hi0:(0:Int)≤(k:Int):=by omega
   have hi1:(k:Int)<(ls.length:Int):=by omega
   have htl:=Sp.totTo_le ls k hlt
   have hnext:∀c2,Sp.Dif (Sp.totTo ls k+(ls.getD k []).length) c2 (fun o=>Sp.cvTo ls k o+Sp.cvL ((ls.getD k []).take (ls.getD k []).length) o)→Sp.Dif (Sp.totTo ls (k+1)) c2 (Sp.cvTo ls (k+1)):=fun c2 h2=>by
    rw[List.take_length]at h2
    exact h2
   obtain⟨l,hl⟩:∃l,ls.getD k []=l:=⟨_,rfl⟩
   rw[hl]at e0 o1 htl hnext
   have hll:=o1.len
   have HS:=Hd o1.stamps
   have HO:=Hd o1
   have HNX:=Hd hnext
   have HB1:=Hd hB1
   have HB0:=Hd hB0
   have HD:=Hd hdif
   clear hc hl hnext hB1 hB0 hdif o1
   go_wp2_with fail
   go_loopw [21] (fun s21 wq=>∃(i:Nat) (c:Nat→Int),i≤l.length∧s21 = .int .i64 (i:Int)∧Sp.Dif (Sp.totTo ls k+i) c (fun o=>Sp.cvTo ls k o+Sp.cvL (l.take i) o)∧Blk wq (w.heap.size+1) 199 (Sp.nar c)∧Blk wq w.heap.size 178 (Sp.arr fun _=>false)∧Below w.heap.size w wq) (fun s21 _=>l.length-(intOf s21).toNat)
   case atStart=>exact⟨0,c,Nat.zero_le _,rfl,HD.out.same (by omega) (fun o _=>(Int.add_zero _).symm),HB1.out,HB0.out,hbw⟩
   case round=>
    obtain⟨i,c,hi,rfl,hdif,hC1,hC0,hbq⟩:=hrel
    clear HB1 HB0 HD
    by_cases hlt2:i<l.length
    ·have hne2:l≠[]:=fun e=>by subst e;simp at hlt2
     obtain⟨b2,off2,hA2,hc2⟩:=(HS.out.later hbq) hne2
     have HS2:=HS
     subst hA2
     obtain⟨e1,e2⟩:=hc2 i hlt2
     rw[List.getD_eq_getElem?_getD,List.getElem?_eq_getElem hlt2,Option.getD_some]at e1 e2
     have hj0:(0:Int)≤(i:Int):=by omega
     have hj1:(i:Int)<(l.length:Int):=by omega
     obtain⟨z,hz⟩:∃z,l[i]=z:=⟨_,rfl⟩
     obtain⟨x,y⟩:=z
     have HXY:=Hd hz
     rw[hz]at e1 e2
     have e1:wr.cell? ⟨b2,off2+i*2,none⟩=some (.int .i64 x):=e1
     have e2:wr.cell? ⟨b2,off2+(i*2+1),none⟩=some (.int .i64 y):=e2
     have hbn0:=below_new hbq (.cells #[.int .i64 x,.int .i64 y] 97)
     have B2:=Blk.new wr 97 #[.int .i64 x,.int .i64 y]
     have hC1':=hC1.alloc (.cells #[.int .i64 x,.int .i64 y] 97)
     have hC0':=hC0.alloc (.cells #[.int .i64 x,.int .i64 y] 97)
     obtain⟨W1,hW1⟩:∃W1,wr.alloc (.cells #[.int .i64 x,.int .i64 y] 97)=W1:=⟨_,rfl⟩
     rw[hW1]at hbn0 B2 hC1' hC0'
     have HW1:=Hd hW1
     have g0:=B2.cell (i:=0) rfl
     have g1:=B2.cell (i:=1) rfl
     have FIN:=Hd (show ∀c2 wx,Sp.Dif (Sp.totTo ls k+i+1) c2 (fun o=>Sp.cvTo ls k o+Sp.cvL (l.take (i+1)) o)→Blk wx (w.heap.size+1) 199 (Sp.nar c2)→Blk wx w.heap.size 178 (Sp.arr fun _=>false)→Below w.heap.size w wx →
       ∃(i':Nat) (c':Nat→Int),i'≤l.length∧Value.int .i64 ((i:Int)+1) = .int .i64 (i':Int)∧Sp.Dif (Sp.totTo ls k+i') c' (fun o=>Sp.cvTo ls k o+Sp.cvL (l.take i') o)∧Blk wx (w.heap.size+1) 199 (Sp.nar c')∧Blk wx w.heap.size 178 (Sp.arr fun _=>false)∧Below w.heap.size w wx from
      fun c2 wx h1 h2 h3 h4=>⟨i+1,c2,by omega,by go_num,h1,h2,h3,h4⟩)
     clear hC1 hC0 hW1 hz hc2 B2
     rcases Int.lt_or_le x 0 with hx|hx
     ·rcases Int.lt_or_le 255 y with hy|hy
      ·have hst:=hdif.step (g':=fun o=>Sp.cvTo ls k o+Sp.cvL (l.take (i+1)) o) 0 255 (by omega) (fun o ho=>by
        rw[Sp.cvL_take l i hlt2 o,HXY.out,Int.add_assoc]
        congr 2
        unfold Sp.cvS
        by_cases hq:0≤o∧o≤255
        ·rw[if_pos hq,if_pos (by show x≤(o:Int)∧(o:Int)≤y;omega)]
        ·rw[if_neg hq,if_neg (by show ¬(x≤(o:Int)∧(o:Int)≤y);omega)])
       have hbp:=hdif.2 0
       have hbq1:=hdif.2 (256)
       have y1:=hC1'.nar_cell 0 (by omega)
       have y2:=hC1'.free 0
       have y3:=(hC1'.nar_put 0 (c 0+1)).nar_cell (256) (by omega)
       have y4:=(hC1'.nar_put 0 (c 0+1)).free (256)
       have y5:=hC1'.nar_cell (256) (by omega)
       have y6:=hC1'.free (256)
       rw[if_neg (show ¬(256=0) from by omega)]at y3
       have B5:=((hC1'.nar_put 0 (c 0+1)).nar_put (256) (c (256)-1)).drew
       have B6:=((hC0'.far (p:=⟨w.heap.size+1,0,none⟩) (by show w.heap.size≠w.heap.size+1;omega) (.int .i64 (c 0+1))).far (p:=⟨w.heap.size+1,256,none⟩) (by show w.heap.size≠w.heap.size+1;omega) (.int .i64 (c (256)-1))).drew
       have b6:=((hbn0.setCell (p:=⟨w.heap.size+1,0,none⟩) (by show w.heap.size≤w.heap.size+1;omega) (.int .i64 (c 0+1))).setCell (p:=⟨w.heap.size+1,256,none⟩) (by show w.heap.size≤w.heap.size+1;omega) (.int .i64 (c (256)-1))).drew
       obtain⟨u,hu⟩:∃u,c 0=u:=⟨_,rfl⟩
       obtain⟨v,hv⟩:∃v,c (256)=v:=⟨_,rfl⟩
       rw[hu]at y1 y3 y4 hbp B5 B6 b6 hst
       rw[hv]at y3 y5 hbq1 B5 B6 b6 hst
       have HB5:=Hd B5
       have HB6:=Hd B6
       have HST:=Hd hst
       clear B5 B6 hst hC0' hdif hu hv hC1'
       go_wp2_with fail
       rw[HW1.out]
       go_region
       go_wp2_with fail
       go_roundw
       case rel=>exact FIN.out _ _ HST.out HB5.out HB6.out b6
       case measure=>simp[intOf];omega
      ·by_cases hle:0≤y
       ·obtain⟨q,rfl⟩:∃q:Nat,y=(q:Int):=⟨y.toNat,by omega⟩
        have hst:=hdif.step (g':=fun o=>Sp.cvTo ls k o+Sp.cvL (l.take (i+1)) o) 0 q (by omega) (fun o ho=>by
         rw[Sp.cvL_take l i hlt2 o,HXY.out,Int.add_assoc]
         congr 2
         unfold Sp.cvS
         by_cases hq:0≤o∧o≤q
         ·rw[if_pos hq,if_pos (by show x≤(o:Int)∧(o:Int)≤(q:Int);omega)]
         ·rw[if_neg hq,if_neg (by show ¬(x≤(o:Int)∧(o:Int)≤(q:Int));omega)])
        have hbp:=hdif.2 0
        have hbq1:=hdif.2 (q+1)
        have y1:=hC1'.nar_cell 0 (by omega)
        have y2:=hC1'.free 0
        have y3:=(hC1'.nar_put 0 (c 0+1)).nar_cell (q+1) (by omega)
        have y4:=(hC1'.nar_put 0 (c 0+1)).free (q+1)
        have y5:=hC1'.nar_cell (q+1) (by omega)
        have y6:=hC1'.free (q+1)
        rw[if_neg (show ¬(q+1=0) from by omega)]at y3
        have B5:=((hC1'.nar_put 0 (c 0+1)).nar_put (q+1) (c (q+1)-1)).drew
        have B6:=((hC0'.far (p:=⟨w.heap.size+1,0,none⟩) (by show w.heap.size≠w.heap.size+1;omega) (.int .i64 (c 0+1))).far (p:=⟨w.heap.size+1,q+1,none⟩) (by show w.heap.size≠w.heap.size+1;omega) (.int .i64 (c (q+1)-1))).drew
        have b6:=((hbn0.setCell (p:=⟨w.heap.size+1,0,none⟩) (by show w.heap.size≤w.heap.size+1;omega) (.int .i64 (c 0+1))).setCell (p:=⟨w.heap.size+1,q+1,none⟩) (by show w.heap.size≤w.heap.size+1;omega) (.int .i64 (c (q+1)-1))).drew
        obtain⟨u,hu⟩:∃u,c 0=u:=⟨_,rfl⟩
        obtain⟨v,hv⟩:∃v,c (q+1)=v:=⟨_,rfl⟩
        rw[hu]at y1 y3 y4 hbp B5 B6 b6 hst
        rw[hv]at y3 y5 hbq1 B5 B6 b6 hst
        have HB5:=Hd B5
        have HB6:=Hd B6
        have HST:=Hd hst
        clear B5 B6 hst hC0' hdif hu hv hC1'
        go_wp2_with fail
        rw[HW1.out]
        go_region
        go_wp2_with fail
        go_roundw
        case rel=>exact FIN.out _ _ HST.out HB5.out HB6.out b6
        case measure=>simp[intOf];omega
       ·have hst:=hdif.same (m:=Sp.totTo ls k+i+1) (g':=fun o=>Sp.cvTo ls k o+Sp.cvL (l.take (i+1)) o) (by omega) (fun o ho=>by
         rw[Sp.cvL_take l i hlt2 o,HXY.out]
         unfold Sp.cvS
         rw[if_neg (by show ¬(x≤(o:Int)∧(o:Int)≤y);omega),Int.add_zero])
        have HST:=Hd hst
        have HB5:=Hd hC1'.drew
        have HB6:=Hd hC0'.drew
        have hbn:=hbn0.drew
        clear hst hC0' hdif hC1'
        go_wp2_with fail
        rw[HW1.out]
        go_region
        go_wp2_with fail
        go_roundw
        case rel=>exact FIN.out _ _ HST.out HB5.out HB6.out hbn
        case measure=>simp[intOf];omega
     ·obtain⟨p,rfl⟩:∃p:Nat,x=(p:Int):=⟨x.toNat,by omega⟩
      rcases Int.lt_or_le 255 y with hy|hy
      ·by_cases hle:(p:Int)≤(255:Int)
       ·have hst:=hdif.step (g':=fun o=>Sp.cvTo ls k o+Sp.cvL (l.take (i+1)) o) p 255 (by omega) (fun o ho=>by
         rw[Sp.cvL_take l i hlt2 o,HXY.out,Int.add_assoc]
         congr 2
         unfold Sp.cvS
         by_cases hq:p≤o∧o≤255
         ·rw[if_pos hq,if_pos (by show(p:Int)≤(o:Int)∧(o:Int)≤y;omega)]
         ·rw[if_neg hq,if_neg (by show ¬((p:Int)≤(o:Int)∧(o:Int)≤y);omega)])
        have hbp:=hdif.2 p
        have hbq1:=hdif.2 (256)
        have y1:=hC1'.nar_cell p (by omega)
        have y2:=hC1'.free p
        have y3:=(hC1'.nar_put p (c p+1)).nar_cell (256) (by omega)
        have y4:=(hC1'.nar_put p (c p+1)).free (256)
        have y5:=hC1'.nar_cell (256) (by omega)
        have y6:=hC1'.free (256)
        rw[if_neg (show ¬(256=p) from by omega)]at y3
        have B5:=((hC1'.nar_put p (c p+1)).nar_put (256) (c (256)-1)).drew
        have B6:=((hC0'.far (p:=⟨w.heap.size+1,p,none⟩) (by show w.heap.size≠w.heap.size+1;omega) (.int .i64 (c p+1))).far (p:=⟨w.heap.size+1,256,none⟩) (by show w.heap.size≠w.heap.size+1;omega) (.int .i64 (c (256)-1))).drew
        have b6:=((hbn0.setCell (p:=⟨w.heap.size+1,p,none⟩) (by show w.heap.size≤w.heap.size+1;omega) (.int .i64 (c p+1))).setCell (p:=⟨w.heap.size+1,256,none⟩) (by show w.heap.size≤w.heap.size+1;omega) (.int .i64 (c (256)-1))).drew
        obtain⟨u,hu⟩:∃u,c p=u:=⟨_,rfl⟩
        obtain⟨v,hv⟩:∃v,c (256)=v:=⟨_,rfl⟩
        rw[hu]at y1 y3 y4 hbp B5 B6 b6 hst
        rw[hv]at y3 y5 hbq1 B5 B6 b6 hst
        have HB5:=Hd B5
        have HB6:=Hd B6
        have HST:=Hd hst
        clear B5 B6 hst hC0' hdif hu hv hC1'
        go_wp2_with fail
        rw[HW1.out]
        go_region
        go_wp2_with fail
        go_roundw
        case rel=>exact FIN.out _ _ HST.out HB5.out HB6.out b6
        case measure=>simp[intOf];omega
       ·have hst:=hdif.same (m:=Sp.totTo ls k+i+1) (g':=fun o=>Sp.cvTo ls k o+Sp.cvL (l.take (i+1)) o) (by omega) (fun o ho=>by
         rw[Sp.cvL_take l i hlt2 o,HXY.out]
         unfold Sp.cvS
         rw[if_neg (by show ¬((p:Int)≤(o:Int)∧(o:Int)≤y);omega),Int.add_zero])
        have HST:=Hd hst
        have HB5:=Hd hC1'.drew
        have HB6:=Hd hC0'.drew
        have hbn:=hbn0.drew
        clear hst hC0' hdif hC1'
        go_wp2_with fail
        rw[HW1.out]
        go_region
        go_wp2_with fail
        go_roundw
        case rel=>exact FIN.out _ _ HST.out HB5.out HB6.out hbn
        case measure=>simp[intOf];omega
      ·by_cases hle:(p:Int)≤y
       ·obtain⟨q,rfl⟩:∃q:Nat,y=(q:Int):=⟨y.toNat,by omega⟩
        have hst:=hdif.step (g':=fun o=>Sp.cvTo ls k o+Sp.cvL (l.take (i+1)) o) p q (by omega) (fun o ho=>by
         rw[Sp.cvL_take l i hlt2 o,HXY.out,Int.add_assoc]
         congr 2
         unfold Sp.cvS
         by_cases hq:p≤o∧o≤q
         ·rw[if_pos hq,if_pos (by show(p:Int)≤(o:Int)∧(o:Int)≤(q:Int);omega)]
         ·rw[if_neg hq,if_neg (by show ¬((p:Int)≤(o:Int)∧(o:Int)≤(q:Int));omega)])
        have hbp:=hdif.2 p
        have hbq1:=hdif.2 (q+1)
        have y1:=hC1'.nar_cell p (by omega)
        have y2:=hC1'.free p
        have y3:=(hC1'.nar_put p (c p+1)).nar_cell (q+1) (by omega)
        have y4:=(hC1'.nar_put p (c p+1)).free (q+1)
        have y5:=hC1'.nar_cell (q+1) (by omega)
        have y6:=hC1'.free (q+1)
        rw[if_neg (show ¬(q+1=p) from by omega)]at y3
        have B5:=((hC1'.nar_put p (c p+1)).nar_put (q+1) (c (q+1)-1)).drew
        have B6:=((hC0'.far (p:=⟨w.heap.size+1,p,none⟩) (by show w.heap.size≠w.heap.size+1;omega) (.int .i64 (c p+1))).far (p:=⟨w.heap.size+1,q+1,none⟩) (by show w.heap.size≠w.heap.size+1;omega) (.int .i64 (c (q+1)-1))).drew
        have b6:=((hbn0.setCell (p:=⟨w.heap.size+1,p,none⟩) (by show w.heap.size≤w.heap.size+1;omega) (.int .i64 (c p+1))).setCell (p:=⟨w.heap.size+1,q+1,none⟩) (by show w.heap.size≤w.heap.size+1;omega) (.int .i64 (c (q+1)-1))).drew
        obtain⟨u,hu⟩:∃u,c p=u:=⟨_,rfl⟩
        obtain⟨v,hv⟩:∃v,c (q+1)=v:=⟨_,rfl⟩
        rw[hu]at y1 y3 y4 hbp B5 B6 b6 hst
        rw[hv]at y3 y5 hbq1 B5 B6 b6 hst
        have HB5:=Hd B5
        have HB6:=Hd B6
        have HST:=Hd hst
        clear B5 B6 hst hC0' hdif hu hv hC1'
        go_wp2_with fail
        rw[HW1.out]
        go_region
        go_wp2_with fail
        go_roundw
        case rel=>exact FIN.out _ _ HST.out HB5.out HB6.out b6
        case measure=>simp[intOf];omega
       ·have hst:=hdif.same (m:=Sp.totTo ls k+i+1) (g':=fun o=>Sp.cvTo ls k o+Sp.cvL (l.take (i+1)) o) (by omega) (fun o ho=>by
         rw[Sp.cvL_take l i hlt2 o,HXY.out]
         unfold Sp.cvS
         rw[if_neg (by show ¬((p:Int)≤(o:Int)∧(o:Int)≤y);omega),Int.add_zero])
        have HST:=Hd hst
        have HB5:=Hd hC1'.drew
        have HB6:=Hd hC0'.drew
        have hbn:=hbn0.drew
        clear hst hC0' hdif hC1'
        go_wp2_with fail
        rw[HW1.out]
        go_region
        go_wp2_with fail
        go_roundw
        case rel=>exact FIN.out _ _ HST.out HB5.out HB6.out hbn
        case measure=>simp[intOf];omega
    ·have hil:i=l.length:=by omega
     subst hil
     have HD2:=Hd (HNX.out c hdif)
     have HC1:=Hd hC1
     have HC0:=Hd hC0
     clear hdif hC1 hC0
     go_wp2_with fail
     go_roundw
     case rel=>exact⟨k+1,c,by omega,by go_num,HD2.out,HC1.out,HC0.out,hbq⟩
     case measure=>simp[intOf];omega
  ·have hkl:k=ls.length:=by omega
   subst hkl
   have hg:∀o,o<256→Sp.sumTo c o+c o=Sp.cvTo ls ls.length o:=fun o ho=>hdif.1 o ho
   have hgb:∀o,0≤Sp.cvTo ls ls.length o∧Sp.cvTo ls ls.length o≤9223372036854775807:=fun o=>by
    have h1:=Sp.cvTo_bd ls o ls.length
    rw[Sp.totTo_all]at h1
    omega
   have hov:=HOV0.out
   have hgs:∀o,o≤256→0≤Sp.sumTo c o∧Sp.sumTo c o≤9223372036854775807:=fun o ho=>by
    cases o with
    |zero=>exact⟨Int.le_refl _,by show(0:Int)≤_;omega⟩
    |succ m=>
     have h1:=hdif.1 m (by omega)
     have h2:=hgb m
     omega
   obtain⟨G,hG⟩:∃G,Sp.cvTo ls ls.length=G:=⟨_,rfl⟩
   rw[hG]at hg hgb hov
   have HG:=Hd hg
   have HGB:=Hd hgb
   have HGS:=Hd hgs
   have HOV:=Hd hov
   have HB1:=Hd hB1
   have HB0:=Hd hB0
   have hlt1:=hB1.lt
   obtain⟨gN,hgN⟩:∃gN,wr.heap.size=gN:=⟨_,rfl⟩
   have hNew:=Blk.new wr 178 (Sp.arr fun _=>false)
   have hz:=hbw.size
   rw[hgN]at hNew hlt1 hz
   clear hg hgb hgs hov hdif hB1 hB0 hG
   go_wp2_with fail
   rw[set_zero]
   go_loopw [11,47] (fun s11 s47 wq=>∃o:Nat,o≤256∧s47 = .int .i64 (o:Int)∧s11 = .int .i64 (Sp.sumTo c o)∧Blk wq gN 178 (Sp.arr fun j=>decide (j<o)&&F j)∧Blk wq (w.heap.size+1) 199 (Sp.nar c)∧Blk wq w.heap.size 178 (Sp.arr fun _=>false)∧Below w.heap.size w wq) (fun _ s47 _=>256-(intOf s47).toNat)
   case atStart=>exact⟨0,by omega,rfl,rfl,hNew.marks_same (fun i _=>by rw[decide_eq_false (by omega),Bool.false_and]),HB1.out.alloc _,HB0.out.alloc _,below_new hbw _⟩
   case round=>
    obtain⟨o,ho,rfl,rfl,hN,hC1,hC0,hbq⟩:=hrel
    clear HB1 HB0
    by_cases hlt2:o<256
    ·have y1:=hC1.nar_cell o (by omega)
     have y0:=hN.marks_cell o hlt2
     have y2:=hN.free o
     have hj0:(0:Int)≤(o:Int):=by omega
     have hj1:(o:Int)<256:=by omega
     have hj2:(o:Int)<257:=by omega
     have hs1:=HGS.out o (by omega)
     have hs2:=HG.out o hlt2
     have hs3:=HGB.out o
     have hs4:=HOV.out o
     have hnx:∀x,x=F o→∀j,j<256→(if j=o then x else (decide (j<o)&&F j))=(decide (j<o+1)&&F j):=fun x hx j _=>by
      by_cases e:j=o
      ·rw[if_pos e,e,decide_eq_true (by omega),Bool.true_and,hx]
      ·rw[if_neg e]
       congr 1
       rw[Bool.eq_iff_iff,decide_eq_true_eq,decide_eq_true_eq]
       omega
     have hsn:Sp.sumTo c (o+1)=Sp.sumTo c o+c o:=rfl
     obtain⟨s,hs⟩:∃s,Sp.sumTo c o=s:=⟨_,rfl⟩
     obtain⟨d,hd⟩:∃d,c o=d:=⟨_,rfl⟩
     rw[hs]at hs1 hs2 hsn
     rw[hs]
     rw[hd]at y1 hs2 hsn
     rw[←hs2]at hs3 hs4
     cases hf:F o
     ·rw[hf]at hs4 hnx
      have hp:s+d≤0:=by have:=of_decide_eq_false hs4;omega
      have B7:=(hN.marks_put o hlt2 false).marks_same (hnx false rfl)
      have B8:=hC1.far (p:=⟨gN,o,none⟩) (by show w.heap.size+1≠gN;omega) (.bool false)
      have B9:=hC0.far (p:=⟨gN,o,none⟩) (by show w.heap.size≠gN;omega) (.bool false)
      have b9:=hbq.setCell (p:=⟨gN,o,none⟩) hz (.bool false)
      have HB7:=Hd B7
      have HB8:=Hd B8
      have HB9:=Hd B9
      have HSN:=Hd hsn
      clear hnx hN hC1 hC0 hs2 hf hs hd B7 B8 B9 hsn
      go_wp2_with fail
      go_roundw
      case rel=>exact⟨o+1,by omega,by go_num,by rw[HSN.out],HB7.out,HB8.out,HB9.out,b9⟩
      case measure=>simp[intOf];omega
     ·rw[hf]at hs4 hnx
      have hp:0<s+d:=of_decide_eq_true hs4
      have B7:=(hN.marks_put o hlt2 true).marks_same (hnx true rfl)
      have B8:=hC1.far (p:=⟨gN,o,none⟩) (by show w.heap.size+1≠gN;omega) (.bool true)
      have B9:=hC0.far (p:=⟨gN,o,none⟩) (by show w.heap.size≠gN;omega) (.bool true)
      have b9:=hbq.setCell (p:=⟨gN,o,none⟩) hz (.bool true)
      have HB7:=Hd B7
      have HB8:=Hd B8
      have HB9:=Hd B9
      have HSN:=Hd hsn
      clear hnx hN hC1 hC0 hs2 hf hs hd B7 B8 B9 hsn
      go_wp2_with fail
      go_roundw
      case rel=>exact⟨o+1,by omega,by go_num,by rw[HSN.out],HB7.out,HB8.out,HB9.out,b9⟩
      case measure=>simp[intOf];omega
    ·have ho256:o=256:=by omega
     subst ho256
     have hN2:=hN.marks_same (f':=F) (fun i hi=>by rw[decide_eq_true hi,Bool.true_and])
     clear hN hC1
     go_wp2_with (first|(refine wpList_load_row rfl 178 _ rfl gN rfl 178 _ (0,0) _ hN2 Tryz.underlying178 rfl (by rw[Sp.arr_size];exact infoSet) ?_)|(refine wpList_store_row rfl 178 _ _ rfl w.heap.size _ rfl rfl 178 _ hC0 (by rw[Sp.arr_size];exact infoSet) (by rw[Sp.arr_size,Sp.arr_size]) (one_marks _) ?_))
     refine bodyPost_ret (v :=.agg (Sp.arr F)) (results_cell_row rfl _ _ w.heap.size 178 (Sp.arr F) (0,0) _ rfl (setRow_heap _ _ _ _ _ _ hC0) Tryz.underlying178 rfl (by rw[Sp.arr_size];exact infoSet)) rfl ⟨rfl,below_setRow hbq (Nat.le_refl _) _⟩
end Go.Proofs.YtjlfehpockfkdaaGreat
namespace Go.Proofs.YtjlfehpockfkdaaGreat
open Go.RowKit Go.Shelf Fb
attribute [local go_sem] Oper.semAt_some
set_option maxHeartbeats 800000 in
theorem spjoin_any(A:Option Addr)(c:Nat)(ls:List (List (Int × Int)))(w:World)(hn:ls.length≤9223372036854775807)(htot:Sp.tot ls≤9223372036854775807)(h:Rows w A ls) :
  Calls Tryz.prog 90 #[.slice A ls.length c] w (GivesS (Sp.joinS ls) w):=by
 have N1:=Hd (setOf_any A c ls w hn htot h)
 clear h
 go_enter Tryz.func90,Tryz.ntmps90
 go_wp2_with fail
 refine N1.out.mono ?_
 rintro e w1 ⟨rfl,b1⟩
 clear N1
 go_wp2_with fail
 refine(spans_any _ _).mono ?_
 rintro e w2 ⟨v,rfl,ho,b2⟩
 have HO:=Hd ho
 clear ho
 go_wp2
 go_ret
 exact⟨v,rfl,own_base HO.out b1.size,below_on b1 b2⟩
theorem joinS_one(l:List (Int × Int)):Sp.joinS [l]=Sp.ofL (Sp.inL l):=Sp.ofL_ext fun o _=>by
 show(false||Sp.inL l o)=Sp.inL l o
 rw[Bool.false_or]
theorem wp_scope_in{n:Nat}{P:Program}{Q:Exit→Act→World→Prop}{a:Act}{w:World}{c:Code}(h:c.wpIn Fence.wide n P (Exit.noGoto Q) a w):(Code.scope c).wpIn Fence.wide n P Q a w:=wpIn_wide.2 (wp_scope_straight (wpIn_wide.1 h))
set_option maxRecDepth 100000 in
set_option maxHeartbeats 3200000 in
theorem eachO_in{α:Type}(told:α→Array Value)(gg:Nat→α)(ht:∀k,k<256→told (gg k)=#[.int .i64 (k:Int)])(f:Nat→Bool)(n:Nat)(hn:1≤n)
  (l n₀ B bc s dc:Nat)(D:Option Addr)(J Jx:List α→World→Prop)(hJa:AbidesFrom s J)
  (hY:∀pre x W,J pre W→pre.length<256→YieldAt Fence.wide (n-1) Tryz.prog l (told x) W fun e W'=>(e = .returned (.bool true)∧J (pre++[x]) W'∧KeepC n₀ B W W')∨(e = .returned (.bool false)∧Jx (pre++[x]) W'))
  (W:World)(hB:W.cell? ⟨bc,0,none⟩=some (.slice D (Sp.ofL f).length dc))
  (hL:Sp.ofL f≠[]→∃g off,D=some ⟨g,off,none⟩∧B≤g∧∀k,k<(Sp.ofL f).length→W.cell? ⟨g,off+k*2,none⟩=some (.int .i64 ((Sp.ofL f).getD k (0,0)).1)∧W.cell? ⟨g,off+(k*2+1),none⟩=some (.int .i64 ((Sp.ofL f).getD k (0,0)).2))
  (hle:B≤W.heap.size)(h0:J [] W) :
  CallsIn Fence.wide n Tryz.prog 172 #[.func (.yield l) #[] #[],.pointer (some ⟨bc,0,none⟩)] W fun e W'=>(∃v,e = .returned v) ∧
   ((∃ys,ys=Sp.comesO gg f 256∧J ys W')∨(∃pre,pre <+: Sp.comesO gg f 256∧Jx pre W')):=by
 have hlen:=Sp.ofL_len f
 have hst:=Sp.comesO_start gg f
 have hsp:=Sp.comesO_step gg f
 have hen:=Sp.comesO_end gg f
 have hgd:=Sp.good_ofL f
 have hpr:∀k,k≤256→Sp.comesO gg f k <+: Sp.comesO gg f 256:=fun k hk=>Sp.comesO_pre gg f k 256 hk
 obtain⟨L,hLL⟩:∃L,Sp.ofL f=L:=⟨_,rfl⟩
 rw[hLL]at hB hL hlen hst hsp hen hgd
 have HST:=Hd hst
 have HSP:=Hd hsp
 have HEN:=Hd hen
 have HGD:=Hd hgd
 have HPR:=Hd hpr
 have HJA:=Hd hJa
 have HL:=Hd hL
 clear hst hsp hen hgd hpr hJa hLL hL
 refine callsIn_of_wp Tryz.func172 rfl trivial ?_ rfl
 simp only[Tryz.ntmps172,List.size_toArray,List.length_cons,List.length_nil,Nat.reduceAdd,Nat.reduceSub,Array.replicate_succ,Array.replicate_zero,List.push_toArray,List.append_toArray,List.nil_append,List.cons_append]
 refine wp_scope_in ?_
 gi_wp2
 refine wpIn_label ?_
 gi_wp2
 gi_loopw [8] (fun s8 wr=>∃k:Nat,k≤L.length∧s8 = .int .i64 (k:Int)∧J (Sp.comesO gg f (Sp.endTo L k)) wr∧KeepC n₀ B W wr) (fun s8 _=>L.length-(intOf s8).toNat)
 case atStart=>exact⟨0,Nat.zero_le _,rfl,h0,KeepC.refl _ _ _⟩
 case round=>
  obtain⟨k,hk,rfl,hJs,hkp⟩:=hrel
  by_cases hlt:k<L.length
  ·have hne:L≠[]:=fun e=>by subst e;simp at hlt
   obtain⟨g,off,hD,hBg,hcs⟩:=HL.out hne
   subst hD
   obtain⟨e0,e1⟩:=hcs k hlt
   replace e0:=hkp.cell e0 (.inr hBg)
   replace e1:wr.cell? ⟨g,off+k*2+1,none⟩=some (.int .i64 (L.getD k (0,0)).2):=hkp.cell e1 (.inr hBg)
   obtain⟨q1,q2,q3,-⟩:=HGD.out k hlt
   have hst2:=HST.out k hlt
   have hsp2:=HSP.out k hlt
   have hi0:(0:Int)≤(k:Int):=by omega
   have hi1:(k:Int)<(L.length:Int):=by omega
   have hen2:Sp.endTo L (k+1)=((L.getD k (0,0)).2+1).toNat:=rfl
   obtain⟨z,hz⟩:∃z,L.getD k (0,0)=z:=⟨_,rfl⟩
   rw[hz]at e0 e1 q1 q2 q3 hst2 hsp2 hen2
   obtain⟨x,y⟩:=z
   obtain⟨p,hp⟩:∃p:Nat,x=(p:Int):=⟨x.toNat,(Int.toNat_of_nonneg q1).symm⟩
   have q2':x≤y:=q2
   have q3':y<256:=q3
   obtain⟨q,hq⟩:∃q:Nat,y=(q:Int):=⟨y.toNat,by omega⟩
   subst hp hq
   have hst3:=hst2 p rfl
   have hen3:Sp.endTo L (k+1)=q+1:=by rw[hen2];show(((q:Int)+1)).toNat=q+1;omega
   have hJ1:J (Sp.comesO gg f p) (wr.alloc (.cells #[.int .i64 (p:Int),.int .i64 (q:Int)] 97)):=by
    rw[hst3]
    exact HJA.out _ _ _ none hJs (World.grownBy_alloc _ _ none) (fun r e=>by cases e)
   have hkp1:KeepC n₀ B W (wr.alloc (.cells #[.int .i64 (p:Int),.int .i64 (q:Int)] 97)):=hkp.trans (KeepC.below (below_new (Below.refl _ _) _))
   have B2:=Blk.new wr 97 #[.int .i64 (p:Int),.int .i64 (q:Int)]
   have hgs:B≤wr.heap.size:=Nat.le_trans hle hkp.1
   obtain⟨gs,hgs2⟩:∃gs,wr.heap.size=gs:=⟨_,rfl⟩
   obtain⟨W1,hW1⟩:∃W1,wr.alloc (.cells #[.int .i64 (p:Int),.int .i64 (q:Int)] 97)=W1:=⟨_,rfl⟩
   rw[hW1]at hJ1 hkp1 B2
   rw[hgs2]at B2 hgs
   have g0:=B2.cell (i:=0) rfl
   have g1:=B2.cell (i:=1) rfl
   have HW1:=Hd hW1
   have HSP2:=Hd hsp2
   have HEN3:=Hd hen3
   clear hst2 hsp2 hen2 hz hW1 hcs hJs hkp hst3 hen3 B2
   gi_wp2_with fail
   rw[HW1.out]
   gi_loopw [5] (fun s5 wr=>∃o:Nat,p≤o∧o≤q+1∧s5 = .int .i64 (o:Int)∧J (Sp.comesO gg f o) wr∧KeepC n₀ B W wr∧wr.cell? ⟨gs,1,none⟩=some (.int .i64 (q:Int))) (fun s5 _=>q+1-(intOf s5).toNat)
   case atStart=>exact⟨p,Nat.le_refl _,by omega,rfl,hJ1,hkp1,g1⟩
   case round=>
    obtain⟨o,ho1,ho2,rfl,hJo,hko,hgo⟩:=hrel
    clear hJ1 hkp1 g0 g1 e0 e1
    by_cases hlt2:o≤q
    ·obtain⟨fn,tmps,assign,body,hy,hR⟩:=hY _ (gg o) wr hJo (by have:=Sp.comesO_short gg f o;omega)
     rw[ht o (by omega)]at hy
     have hd:decide ((o:Int)≤(q:Int))=true:=decide_eq_true (by omega)
     have HS1:=Hd (HSP2.out o (by show(p:Int)≤(o:Int);omega) (by show(o:Int)≤(q:Int);omega))
     gi_wp2
     refine hR.mono ?_
     rintro e W3 (⟨rfl,hJ3,hk3⟩|⟨rfl,hJx3⟩)
     ·gi_wp2
      go_roundw
      case rel=>exact⟨o+1,by omega,by omega,by go_num,by rw[HS1.out];exact hJ3,hko.trans hk3,hk3.cell hgo (.inr hgs)⟩
      case measure=>simp[intOf];omega
     ·gi_wp2
      rw[Exit.noGoto_normal]
      go_end0
      exact⟨⟨_,rfl⟩,.inr ⟨_,by rw[←HS1.out];exact HPR.out _ (by omega),hJx3⟩⟩
    ·have hoq:o=q+1:=by omega
     subst hoq
     have hd:decide (((q+1:Nat):Int)≤(q:Int))=false:=decide_eq_false (by omega)
     gi_wp2
     go_roundw
     case rel=>exact⟨k+1,by omega,by go_num,by rw[HEN3.out];exact hJo,hko⟩
     case measure=>simp[intOf];omega
  ·have hkl:k=L.length:=by omega
   subst hkl
   rw[HEN.out]at hJs
   gi_wp2
   rw[Exit.noGoto_normal]
   go_end0
   exact⟨⟨_,rfl⟩,.inl ⟨_,rfl,hJs⟩⟩
end Go.Proofs.YtjlfehpockfkdaaGreat
namespace Go.Proofs.YtjlfehpockfkdaaGreat
open Go.RowKit Go.Shelf
attribute [local go_sem] Oper.semAt_some
theorem infoC:(Tryz.prog.info? 186).map (·.size)=some 64:=by kernel_rfl
theorem index_counts(f:Nat→Int)(k:Nat)(hk:k<64)(w:World):(Instr.index 186 (.agg (Ve.arr f)) (.int .i64 (k:Int))).run Tryz.prog w = .ok (.int .i64 (f k)) w:=by
 have h1:=Ve.arr_get f k hk
 simp[Instr.index,asIntOf,run_underlying Tryz.underlying186,part,Tryz.isAgg3,Tryz.sizeOf3,h1]
 intro h
 exact absurd h (by omega)
end Go.Proofs.YtjlfehpockfkdaaGreat
namespace Go.Proofs.YtjlfehpockfkdaaGreat
open Go.RowKit Go.Shelf
attribute [local go_sem] Oper.semAt_some
def comes{α:Type}(g:Nat→α)(f:Nat→Int):Nat→List α
 |0=>[]
 |k+1=>comes g f k++(if 0<f k then [g k] else [])
theorem comes_len{α:Type}(g:Nat→α)(f:Nat→Int):∀k,(comes g f k).length≤k
 |0=>Nat.le_refl _
 |k+1=>by
  have:=comes_len g f k
  unfold comes
  split<;>simp<;>omega
theorem comes_yes{α:Type}(g:Nat→α)(f:Nat→Int)(k:Nat)(h:0<f k):comes g f (k+1)=comes g f k++[g k]:=by rw[comes,if_pos h]
theorem comes_no{α:Type}(g:Nat→α)(f:Nat→Int)(k:Nat)(h:¬0<f k):comes g f (k+1)=comes g f k:=by rw[comes,if_neg h,List.append_nil]
set_option maxRecDepth 100000 in
set_option maxHeartbeats 2000000 in
theorem each1_in{α:Type}(told:α→Array Value)(g:Nat→α)(f:Nat→Int)(ht:∀k,k<64→told (g k)=#[.int .i64 (k:Int),.int .i64 (f k)])(F:Fence)(n:Nat)(hf:F.fn 177)(hro:F.round=none)(hn:1≤n)
  (l B:Nat)(t:TypeId)(Kp:World→World→Prop)(J Jx:List α→World→Prop)
  (hY:∀pre x W,J pre W→pre.length<64→YieldAt F (n-1) Tryz.prog l (told x) W fun e W'=>(e = .returned (.bool true)∧J (pre++[x]) W'∧Kp W W')∨(e = .returned (.bool false)∧Jx (pre++[x]) W'))
  (W:World)(hB:Blk W B t (Ve.arr f))(h0:J [] W) :
  CallsIn F n Tryz.prog 177 #[.func (.yield l) #[] #[],.pointer (some ⟨B,0,none⟩)] W fun e W'=>(∃v,e = .returned v) ∧
   ((∃ys,ys=comes g f 64∧J ys W')∨(∃pre,(∃k,k≤64∧pre=comes g f k)∧Jx pre W')):=by
 refine callsIn_of_wp Tryz.func177 rfl hf ?_ hro
 simp only[Tryz.ntmps177,List.size_toArray,List.length_cons,List.length_nil,Nat.reduceAdd,Nat.reduceSub,Array.replicate_succ,Array.replicate_zero,List.push_toArray,List.append_toArray,List.nil_append,List.cons_append]
 gi_wp2_with (refine in_load_row rfl 186 _ rfl B rfl t _ _ hB Tryz.underlying186 rfl (by rw[Ve.arr_size];exact infoC) ?_)
 gi_loopw [6] (fun s6 wr=>∃k:Nat,k≤64∧s6 = .int .i64 (k:Int)∧J (comes g f k) wr) (fun s6 _=>64-(intOf s6).toNat)
 case atStart=>exact⟨0,Nat.zero_le _,rfl,h0⟩
 case round=>
  obtain⟨k,hk,rfl,hJs⟩:=hrel
  by_cases hlt:k<64
  ·have hi0:(0:Int)≤(k:Int):=by omega
   have hi1:(k:Int)<64:=by omega
   have hix:=fun w=>index_counts f k hlt w
   by_cases hc:0<f k
   ·obtain⟨fn,tmps,assign,body,hy,hR⟩:=hY _ (g k) wr hJs (by have:=comes_len g f k;omega)
    rw[ht k hlt]at hy
    have hd:decide (0<f k)=true:=decide_eq_true hc
    gi_wp2
    refine hR.mono ?_
    rintro e W3 (⟨rfl,hJ3,hk3⟩|⟨rfl,hJx3⟩)
    ·gi_wp2
     go_roundw
     case rel=>exact⟨k+1,by omega,by go_num,by rw[comes_yes g f k hc];exact hJ3⟩
     case measure=>simp[intOf];omega
    ·gi_wp2
     refine bodyPost_ret (results_none rfl _ _ _) rfl ?_
     exact⟨⟨_,rfl⟩,.inr ⟨_,⟨k+1,by omega,(comes_yes g f k hc).symm⟩,hJx3⟩⟩
   ·have hd:decide (0<f k)=false:=decide_eq_false hc
    have HC:=Hd (comes_no g f k hc)
    gi_wp2
    refine⟨fun _ h=>(by cases h),?_⟩
    gi_wp2
    go_roundw
    case rel=>exact⟨k+1,by omega,by go_num,by rw[HC.out];exact hJs⟩
    case measure=>simp[intOf];omega
  ·obtain rfl:k=64:=by omega
   gi_wp2
   go_end0
   exact⟨⟨_,rfl⟩,.inl ⟨_,rfl,hJs⟩⟩
end Go.Proofs.YtjlfehpockfkdaaGreat
namespace Go.Proofs.YtjlfehpockfkdaaGreat
open Go.RowKit
theorem Ve.cnt_snoc(l:List (Int × Int))(s:Int × Int)(n:Nat):Ve.cnt (l++[s]) n=if Ve.cnt l n=0∧St.rgt s.1 s.2=true∧s.2=(n:Int) then s.1 else Ve.cnt l n:=by
 induction l with
 |nil=>simp[Ve.cnt]
 |cons x r ih=>
  rw[List.cons_append,Ve.cnt,Ve.cnt,ih]
  by_cases h:St.rgt x.1 x.2=true∧x.2=(n:Int)
  ·have hx:1≤x.1:=by have:=h.1;unfold St.rgt at this;exact(of_decide_eq_true this).1
   rw[if_pos h,if_pos h,if_neg (by omega)]
  ·rw[if_neg h,if_neg h]
theorem Ve.cnt_take(l:List (Int × Int))(k:Nat)(h:k<l.length)(n:Nat):Ve.cnt (l.take (k+1)) n=if Ve.cnt (l.take k) n=0∧St.rgt l[k].1 l[k].2=true∧l[k].2=(n:Int) then l[k].1 else Ve.cnt (l.take k) n:=by
 rw[List.take_succ_eq_append_getElem h,Ve.cnt_snoc]
set_option maxRecDepth 100000 in
set_option maxHeartbeats 1600000 in
theorem countsOf_any(A:Option Addr)(cap:Nat)(l:List (Int × Int))(w:World)(hl:l.length≤9223372036854775807)(h:Stamps w A l) :
  Calls Tryz.prog 154 #[.slice A l.length cap] w fun e w'=>e = .returned (.agg (Ve.arr (Ve.cnt l)))∧Below w.heap.size w w':=by
 have HS:=Hd h
 clear h
 go_enter Tryz.func154,Tryz.ntmps154
 go_wp2_with fail
 rw[←Ve.arr_zero]
 go_loopw [8] (fun s8 wr=>∃k:Nat,k≤l.length∧s8 = .int .i64 (k:Int)∧Blk wr (w.heap.size+1) 186 (Ve.arr (Ve.cnt (l.take k)))∧Blk wr w.heap.size 186 (Ve.arr fun _=>0)∧Below w.heap.size w wr) (fun s8 _=>l.length-(intOf s8).toNat)
 case atStart=>
  have hb:=Blk.new (w.alloc (.cells (Ve.arr fun _=>0) 186)) 186 (Ve.arr fun _=>0)
  rw[show(w.alloc (.cells (Ve.arr fun _=>0) 186)).heap.size=w.heap.size+1 from by simp]at hb
  exact⟨0,Nat.zero_le _,rfl,hb,(Blk.new _ _ _).alloc _,below_new (below_new (Below.refl _ _) _) _⟩
 case round=>
  obtain⟨k,hk,rfl,hB1,hB0,hbw⟩:=hrel
  by_cases hlt:k<l.length
  ·have hne:l≠[]:=fun e=>by subst e;simp at hlt
   obtain⟨b,off,hA,hc⟩:=HS.out hne
   subst hA
   obtain⟨e0,e1⟩:=hc k hlt
   have hb0:b<w.heap.size:=World.block_lt_of_cell? _ _ e0
   rw[List.getD_eq_getElem?_getD,List.getElem?_eq_getElem hlt,Option.getD_some]at e0 e1
   have f0:=(hbw.cell (p:=⟨b,_,none⟩) hb0).trans e0
   have f1:=(hbw.cell (p:=⟨b,_,none⟩) hb0).trans e1
   have hcd:=Ve.cnt_take l k hlt
   have HCD:=Hd hcd
   obtain⟨x,hx⟩:∃x,l[k].1=x:=⟨_,rfl⟩
   obtain⟨y,hy⟩:∃y,l[k].2=y:=⟨_,rfl⟩
   rw[hx]at f0
   rw[hy]at f1
   have HB1:=Hd (hB1.alloc (.cells #[.int .i64 x,.int .i64 y] 46))
   have HB0:=Hd (hB0.alloc (.cells #[.int .i64 x,.int .i64 y] 46))
   have HB2:=Hd (Blk.new wr 46 #[.int .i64 x,.int .i64 y])
   have hbn:=below_new hbw (.cells #[.int .i64 x,.int .i64 y] 46)
   have HXY:=Hd (show l[k].1=x∧l[k].2=y from⟨hx,hy⟩)
   clear e0 e1 hc hcd hB1 hB0 hx hy
   have hi0:(0:Int)≤(k:Int):=by omega
   have hi1:(k:Int)<(l.length:Int):=by omega
   have fin:∀wx,Blk wx (w.heap.size+1) 186 (Ve.arr (Ve.cnt (l.take (k+1))))→Blk wx w.heap.size 186 (Ve.arr fun _=>0)→Below w.heap.size w wx →
     ∃k':Nat,k'≤l.length∧Value.int .i64 ((k:Int)+1) = .int .i64 (k':Int)∧Blk wx (w.heap.size+1) 186 (Ve.arr (Ve.cnt (l.take k')))∧Blk wx w.heap.size 186 (Ve.arr fun _=>0)∧Below w.heap.size w wx:=
    fun wx h1 h2 h3=>⟨k+1,by omega,by go_num,h1,h2,h3⟩
   have FIN:=Hd fin
   clear fin
   go_wp2_with fail
   refine(right_any _ _ _).mono ?_
   rintro e w1 ⟨rfl,hb1⟩
   have hbx:=below_on hbn hb1
   have B1:=HB1.out.later hb1
   have B0:=HB0.out.later hb1
   have B2:=HB2.out.later hb1
   have g0:=B2.cell (i:=0) rfl
   have g1:=B2.cell (i:=1) rfl
   clear HB0 HB1 HB2
   cases hr:St.rgt x y
   ·have hs:∀i,i<64→Ve.cnt (l.take k) i=Ve.cnt (l.take (k+1)) i:=fun i _=>by rw[HCD.out i,HXY.out.1,HXY.out.2,if_neg (by rw[hr];simp)]
    have B3:=Hd (B1.same hs)
    have B4:=Hd B0
    clear B1 B0 B2 hr hs
    go_wp2_with fail
    go_roundw
    case rel=>exact FIN.out _ B3.out B4.out hbx
    case measure=>simp[intOf];omega
   ·have hrr:1≤x∧0≤y∧y≤63:=by unfold St.rgt at hr;exact of_decide_eq_true hr
    obtain⟨nn,hnn⟩:∃nn:Nat,y=(nn:Int):=⟨y.toNat,by omega⟩
    have hn64:nn<64:=by omega
    rw[hnn]at g1
    have c1:=B1.arr_cell nn hn64
    have c2:=B1.free nn
    have hj0:(0:Int)≤(nn:Int):=by omega
    have hj1:(nn:Int)<64:=by omega
    by_cases hz:Ve.cnt (l.take k) nn=0
    ·have hzb:(Ve.cnt (l.take k) nn == 0)=true:=beq_iff_eq.2 hz
     have hs:∀i,i<64→(if i=nn then x else Ve.cnt (l.take k) i)=Ve.cnt (l.take (k+1)) i:=fun i _=>by
      rw[HCD.out i,HXY.out.1,HXY.out.2,hr,hnn]
      by_cases hi:i=nn
      ·rw[if_pos hi,if_pos ⟨by rw[hi];exact hz,rfl,by rw[hi]⟩]
      ·rw[if_neg hi,if_neg (fun h=>hi (by have:=h.2.2;omega))]
     have B3:=Hd ((B1.arr_put nn hn64 x).same hs)
     have B4:=Hd (B0.far (p:=⟨w.heap.size+1,nn,none⟩) (by simp) (.int .i64 x))
     clear B1 B0 B2 hr hs hrr hnn f0 f1 hz
     go_wp2_with fail
     go_roundw
     case rel=>exact FIN.out _ B3.out B4.out (hbx.setCell (by simp) _)
     case measure=>simp[intOf];omega
    ·have hzb:(Ve.cnt (l.take k) nn == 0)=false:=beq_eq_false_iff_ne.2 hz
     have hs:∀i,i<64→Ve.cnt (l.take k) i=Ve.cnt (l.take (k+1)) i:=fun i _=>by
      rw[HCD.out i,HXY.out.1,HXY.out.2,hr,hnn]
      refine(if_neg ?_).symm
      rintro ⟨q1,-,q2⟩
      have q3:i=nn:=by omega
      rw[q3]at q1
      exact hz q1
     have B3:=Hd (B1.same hs)
     have B4:=Hd B0
     clear B1 B0 B2 hr hs hrr hnn f0 f1 hz
     go_wp2_with fail
     go_roundw
     case rel=>exact FIN.out _ B3.out B4.out hbx
     case measure=>simp[intOf];omega
  ·have hkl:k=l.length:=by omega
   subst hkl
   rw[List.take_length]at hB1
   go_wp2_with (first|(refine wpList_load_row rfl 186 _ rfl (w.heap.size+1) rfl 186 _ (0,0) _ hB1 Tryz.underlying186 rfl (by rw[Ve.arr_size];exact infoC) ?_)|(refine wpList_store_row rfl 186 _ _ rfl w.heap.size _ rfl rfl 186 _ hB0 (by rw[Ve.arr_size];exact infoC) (by rw[Ve.arr_size,Ve.arr_size]) (one_arr _) ?_))
   refine bodyPost_ret (v :=.agg (Ve.arr (Ve.cnt l))) (results_cell_row rfl _ _ w.heap.size 186 (Ve.arr (Ve.cnt l)) (0,0) _ rfl (setRow_heap _ _ _ _ _ _ hB0) Tryz.underlying186 rfl (by rw[Ve.arr_size];exact infoC)) rfl ⟨rfl,below_setRow hbw (Nat.le_refl _) _⟩
end Go.Proofs.YtjlfehpockfkdaaGreat
namespace Go.Proofs.YtjlfehpockfkdaaGreat
open Go.RowKit Go.Shelf
attribute [local go_sem] Oper.semAt_some
def told(x:Int × Int):Array Value:=#[.int .i64 x.2,.int .i64 x.1]
end Go.Proofs.YtjlfehpockfkdaaGreat
namespace Go.Proofs.YtjlfehpockfkdaaGreat
open Go.RowKit Go.Shelf
set_option maxRecDepth 100000 in
set_option maxHeartbeats 1600000 in
theorem all_any(f:Nat→Int)(w:World) :
  Calls Tryz.prog 174 #[.agg (Ve.arr f)] w fun e w'=>e = .returned (.func (.func 177) #[] #[.pointer (some ⟨w.heap.size,0,none⟩)])∧w'=w.alloc (.cells (Ve.arr f) 186):=by
 go_enter Tryz.func174,Tryz.ntmps174
 go_wp2
 go_ret
 exact⟨rfl,rfl⟩
def Walker(f:Nat→Int)(w:World)(e:Ending)(w1:World):Prop:=
 ∃b,e = .returned (.func (.func 177) #[] #[.pointer (some ⟨b,0,none⟩)])∧Blk w1 b 186 (Ve.arr f)∧w.heap.size≤b∧Below w.heap.size w w1
theorem all_walker(f:Nat→Int)(w:World):Calls Tryz.prog 174 #[.agg (Ve.arr f)] w (Walker f w):=by
 refine(all_any f w).mono ?_
 rintro e w1 ⟨rfl,rfl⟩
 exact⟨w.heap.size,rfl,Blk.new _ _ _,Nat.le_refl _,below_new (Below.refl _ _) _⟩
set_option maxHeartbeats 800000 in
theorem All_any(A:Option Addr)(c:Nat)(l:List (Int × Int))(w:World)(h:OneL w A c l) :
  Calls Tryz.prog 155 #[.slice A l.length c] w (Walker (Ve.cnt l) w):=by
 have H:=Hd (countsOf_any A c l w h.len h.stamps)
 clear h
 go_enter Tryz.func155,Tryz.ntmps155
 go_wp2_with fail
 refine H.out.mono ?_
 rintro e w1 ⟨rfl,b1⟩
 clear H
 go_wp2_with fail
 refine(all_walker _ _).mono ?_
 rintro e w2 ⟨b,rfl,hB,hle,b2⟩
 go_wp2
 go_ret
 exact⟨b,rfl,hB,Nat.le_trans b1.size hle,below_on b1 b2⟩
theorem each_stops{α:Type}(told:α→Array Value)(g:Nat→α)(f:Nat→Int)(ht:∀k,k<64→told (g k)=#[.int .i64 (k:Int),.int .i64 (f k)])(F:Fence)(n:Nat)(hf:F.fn 177)(hro:F.round=none)(hn:1≤n)
  (b:Nat)(t:TypeId)(Kp:World→World→Prop)(w:World)(hB:Blk w b t (Ve.arr f)) :
  SeqStopsK F n Tryz.prog 177 #[.pointer (some ⟨b,0,none⟩)] told Kp (· = comes g f 64) (fun pre=>∃k,k≤64∧pre=comes g f k) 64 w:=
 fun l J Jx W hW _ _ hY h0=>each1_in told g f ht F n hf hro hn l b t Kp J Jx hY W (hB.later hW) h0
theorem enters_each:∀args w,(callFunc 177 args).run Tryz.prog w = .ok (.enter 177 args) w:=
 enters_of Tryz.func177 (by kernel_rfl) rfl
end Go.Proofs.YtjlfehpockfkdaaGreat
