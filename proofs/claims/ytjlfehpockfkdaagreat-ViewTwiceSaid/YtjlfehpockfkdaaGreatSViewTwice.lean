/-
  For any view, any note and any list of spans, the law ViewTwice returns true and leaves its arguments as they were. No condition.
-/
import Derived.Test.YtjlfehpockfkdaaGreatB01
import Derived.ProofKit
import Derived.Below
import Derived.WideKeyArgs
import Derived.OpenShut
import Derived.Lib.SmallJoins
import Derived.Deep.Slices
import Derived.SizedLaws
import Derived.Test.YtjlfehpockfkdaaGreatRows
import Derived.WalkKit
import Derived.Test.YtjlfehpockfkdaaGreatSViewTwiceB
import Derived.Test.YtjlfehpockfkdaaGreatB06
import Derived.Test.YtjlfehpockfkdaaGreatB02
import Derived.Test.YtjlfehpockfkdaaGreatB04
import Derived.Test.YtjlfehpockfkdaaGreatB05
import Derived.Test.YtjlfehpockfkdaaGreatB07
import Derived.Test.YtjlfehpockfkdaaGreatSViewTwiceA
import Derived.Lib.SlBytesConst
namespace Go.Proofs.YtjlfehpockfkdaaGreat
open Go.RowKit Go.Maps Fb
def Vd.KeepM(w X:World):Prop:=w.heap.size≤X.heap.size∧∀(k:Nat) (o:Obj),w.heap[k]?=some o→o.isCells=true→X.heap[k]?=some o
namespace Vd
variable {w X Y:World}
theorem KeepM.refl(w:World):KeepM w w:=⟨Nat.le_refl _,fun _ _ h _=>h⟩
theorem KeepM.later(h:KeepM w X)(hb:Below X.heap.size X Y):KeepM w Y:=⟨Nat.le_trans h.1 hb.size,fun k o h1 h2=>by
 have h3:=h.2 k o h1 h2
 exact(hb.block k (Array.getElem?_eq_some_iff.1 h3).1).trans h3⟩
theorem KeepM.grown(h:KeepM w X){row:Option Nat}(hg:X.grownBy Y row)(hr:∀r,row=some r→w.heap.size≤r∨∃o:Obj,X.heap[r]?=some o∧o.isCells=false):KeepM w Y:=⟨Nat.le_trans h.1 hg.size,fun k o h1 h2=>by
 have h3:=h.2 k o h1 h2
 refine(hg.block k (Array.getElem?_eq_some_iff.1 h3).1 (fun e =>?_)).trans h3
 rcases hr k e.symm with h4|⟨o',h4,h5⟩
 ·have:=(Array.getElem?_eq_some_iff.1 h1).1
  omega
 ·rw[h3]at h4
  cases h4
  rw[h2]at h5
  cases h5⟩
theorem KeepM.blk(h:KeepM w X){k:Nat}{t:TypeId}{cs:Array Value}(hB:Blk w k t cs):Blk X k t cs:=h.2 k _ hB rfl
theorem KeepM.cell(h:KeepM w X){a:Addr}{v:Value}(hc:w.cell? a=some v):X.cell? a=some v:=by
 obtain⟨o,ho,hoc⟩:=cells_of_cell hc
 exact(World.cell?_of_block ((h.2 _ _ ho hoc).trans ho.symm)).trans hc
theorem KeepM.oneL(h:KeepM w X){A:Option Addr}{c:Nat}{l:List (Int × Int)}(hl:OneL w A c l):OneL X A c l:=
 ⟨hl.1,hl.2.1,hl.2.2.1,fun hne=>by
  obtain⟨b,off,e,hc⟩:=hl.2.2.2 hne
  exact⟨b,off,e,fun j u hu=>h.cell (hc j u hu)⟩⟩
theorem KeepM.oneW(h:KeepM w X){A:Option Addr}{c:Nat}{l:List Wr}(hl:OneW w A c l):OneW X A c l:=
 ⟨hl.1,hl.2.1,hl.2.2.1,fun hne=>by
  obtain⟨b,off,e,hc⟩:=hl.2.2.2 hne
  exact⟨b,off,e,fun j u hu=>h.cell (hc j u hu)⟩⟩
theorem KeepM.ns(h:KeepM w X){base:Nat}{t:TypeId}{v:Value}{L:List Nl}(hn:OwnNs w base t v L):OwnNs X base t v L:=by
 have hrow:∀k,v.ownBlock=some k→X.heap[k]?=w.heap[k]?:=fun k hk=>by
  rcases hn.row.2 with ⟨hv,_⟩|⟨g3,cap,cur,hv,_,hB3,_⟩
  ·rw[hv]at hk;cases hk
  ·rw[hv]at hk
   injection hk with hk
   subst hk
   exact(h.2 _ _ hB3 rfl).trans hB3.symm
 refine⟨own_stays hn.row hrow,fun g n c e =>?_,fun z hz =>?_⟩
 ·obtain⟨cs,t',fr,h1,h2⟩:=hn.flat g n c e
  exact⟨cs,t',fr,(hrow g (by rw[e];rfl)).trans h1,h2⟩
 ·have hz:=hn.each z hz
  exact⟨h.oneL hz.hs,h.oneL hz.he,h.oneL hz.hb,h.oneW hz.hv⟩
theorem map_stays{H:Type}{P:Program}{k:TypeId}{R:Value→Option (DataW H × List MemPlace)}{w w':World}{b n:Nat}{D:DataW H}(h:w.ownsMap P k R b n D)(hs:w'.heap[b]?=w.heap[b]?):w'.ownsMap P k R b n D:=by
 obtain⟨es,clock,hh,F,hs',hD⟩:=h
 exact⟨es,clock,hs.trans hh,F,hs',hD⟩
theorem told_eq{zs:List Zn}{it:List (Int × Int)}{k p:Nat}(h:vecAt zs k=vecAt zs p)(ht:told1 zs it k k=true):told1 zs it k p=true:=by
 obtain⟨i,h1,h2,h3⟩:=(told_iff zs it k k).1 ht
 exact(told_iff zs it k p).2 ⟨i,h1,h2,h3.trans h⟩
end Vd
theorem infoSpn:(Tryz.prog.info? 97).map (fun i=>(i.zero,i.size,i.bytes))=some (some (.agg #[.int .i64 0,.int .i64 0]),2,16):=by kernel_rfl
set_option maxRecDepth 100000 in
set_option maxHeartbeats 6400000 in
theorem vdsum_any(q:Vl)(I:Option Addr)(ci:Nat)(it:List (Int × Int))(w:World)(h:VwAt w q)(hi:OneL w I ci it) :
  Calls Tryz.prog 30 #[.agg (vwCells q),.slice I it.length ci] w (GivesNE (Vw.sumR q.vw it).1 (Vw.sumR q.vw it).2 w):=by
 obtain⟨i0,hI0,hz0,hz1,hz2⟩:=info_parts infoNt44
 obtain⟨j0,hJ0,hy0,hy1,hy2⟩:=info_parts infoSpn
 have c1:=fun wx (hb:Below w.heap.size w wx)=>vdformed_any q wx (h.later hb)
 cases hf:Vw.fmd q.vw with
 |false=>
  have hR:Vw.sumR q.vw it=([],1):=by unfold Vw.sumR;rw[if_neg (by rw[hf];exact Bool.false_ne_true)]
  rw[hR]
  rw[hf]at c1
  clear hR hf h hi
  obtain⟨K,ck,kn,Z,cz,zs,H,ch,hs,B,cb,bs,room⟩:=q
  unfold vwCells at c1 ⊢
  try dsimp only at c1 ⊢
  have C1:=Hd c1
  clear c1
  have hb0:=below_new (Below.refl w.heap.size w) (.cells #[.slice K kn.length ck,.slice Z zs.length cz,.slice H hs.length ch,.slice B bs.length cb,.int .i64 room] 27)
  have hV:=Blk.new w 27 #[.slice K kn.length ck,.slice Z zs.length cz,.slice H hs.length ch,.slice B bs.length cb,.int .i64 room]
  obtain⟨W,hW⟩:∃W,w.alloc (.cells #[.slice K kn.length ck,.slice Z zs.length cz,.slice H hs.length ch,.slice B bs.length cb,.int .i64 room] 27)=W:=⟨_,rfl⟩
  rw[hW]at hb0 hV
  have HW:=Hd hW
  obtain⟨g,hgg⟩:∃g,w.heap.size=g:=⟨_,rfl⟩
  rw[hgg]at hV
  have HV:=Hd (show Blk W (g) 27 #[.slice K kn.length ck,.slice Z zs.length cz,.slice H hs.length ch,.slice B bs.length cb,.int .i64 room] from hV)
  have HB0:=Hd hb0
  clear hW hb0 hV
  go_enter Tryz.func30,Tryz.ntmps30
  go_upto_region 1 with (fail)
  rw[HW.out]
  clear HW
  have V_0:=HV.out.cell (i:=0) rfl
  have V_1:=HV.out.cell (i:=1) rfl
  have V_2:=HV.out.cell (i:=2) rfl
  have V_3:=HV.out.cell (i:=3) rfl
  have V_4:=HV.out.cell (i:=4) rfl
  go_wp2_with fail
  refine(C1.out _ HB0.out).mono ?_
  rintro e w1 ⟨rfl,b1⟩
  clear V_0 V_1 V_2 V_3 V_4
  replace HV:=Hd (HV.out.later b1)
  have HB1:=Hd (below_on HB0.out b1)
  clear HB0
  clear b1 C1
  have HQ:=Hd HB1.out
  go_wp2
  go_ret2
  exact⟨none,0,rfl,OneN.nil _,(fun _ _ h=>by cases h),HQ.out⟩
 |true=>
  rw[Vd.sum_zones hf it]
  obtain⟨hkf,hzf,hhf,-⟩:=Vw.fmd_all hf
  obtain⟨zl1,zl2⟩:=Vd.z_len (zs:=q.z) hzf
  have hkl:q.k.length≤64:=Vw.k_len (show Ve.fmd q.k=true from hkf)
  have c2:=fun wx (hb:Below w.heap.size w wx)=>tblurred_any q.Z q.cz q.z wx (h.later hb).z
  have hL0:Sp.lessS (Sp.ofL (Sp.inL it)) (Tr.blr (q.z.map Zc.zn))=Sp.ofL (fun o=>Sp.inL it o && !Vw.isB q.vw o):=Sp.ofL_ext (fun o ho=>by
   rw[Sp.inL_ofL _ o ho,Tr.blr_in (show Tr.fmd (q.z.map Zc.zn)=true from hzf) ho]
   rfl)
  have c3:=fun A c B d wx (hA:OneL wx A c (Sp.ofL (Sp.inL it))) (hB:OneL wx B d (Tr.blr (q.z.map Zc.zn)))=>(spless_any A B c d (Sp.ofL (Sp.inL it)) (Tr.blr (q.z.map Zc.zn)) wx hA hB).mono fun _ _ hg=>hg.one
  rw[hL0]at c3
  have c4:=fun A c wx (hb:Below w.heap.size w wx) (hA:OneL wx A c (Sp.ofL (fun o=>Sp.inL it o && !Vw.isB q.vw o)))=>vdtelling_any q q.K A q.ck c q.k (fun o=>Sp.inL it o && !Vw.isB q.vw o) wx (h.later hb) hhf (h.later hb).k hkl hA
  have hzx:=fun (k:Nat) (x:Zc) (hx:q.z[k]?=some x)=>(show(Vd.spAt q.vw.z k).1=x.lo∧(Vd.spAt q.vw.z k).2=x.hi∧Vd.vecAt q.vw.z k=x.l from by
   have hg:Vd.zAt (q.z.map Zc.zn) k=x.zn:=by unfold Vd.zAt;exact zn_getD hx
   refine⟨?_,?_,?_⟩
   ·show(Vd.zAt (q.z.map Zc.zn) k).1=x.lo
    rw[hg];rfl
   ·show(Vd.zAt (q.z.map Zc.zn) k).2.1=x.hi
    rw[hg];rfl
   ·show(Vd.zAt (q.z.map Zc.zn) k).2.2=x.l
    rw[hg];rfl)
  have htc:=fun k=>show Vd.tch q.vw.z it k=Sp.touch (Sp.inL (Sp.ofL (Sp.inL it))) (Sp.inL [Vd.spAt q.vw.z k]) from by
   unfold Vd.tch
   rw[Bool.eq_iff_iff,Sp.touch_iff,Sp.touch_iff]
   exact⟨fun⟨o,h1,h2,h3⟩=>⟨o,h1,by rw[Sp.inL_ofL _ o h1];exact h2,h3⟩,fun⟨o,h1,h2,h3⟩=>⟨o,h1,by rw[Sp.inL_ofL _ o h1]at h2;exact h2,h3⟩⟩
  have c5:=fun (k:Nat) (lo hi:Int) (X:Option Addr) (cx:Nat) (l:List (Int × Int)) A c B d wx (hq:(Vd.spAt q.vw.z k).1=lo∧(Vd.spAt q.vw.z k).2=hi∧Vd.vecAt q.vw.z k=l) (hA:OneL wx A c (Sp.ofL (Sp.inL it))) (hB:OneL wx B d [(lo,hi)])=>(by
   have hh:=sptouch_any A B c d (Sp.ofL (Sp.inL it)) [(lo,hi)] wx hA hB
   rw[show [(lo,hi)]=[Vd.spAt q.vw.z k] from by rw[←hq.1,←hq.2.1],←htc k]at hh
   exact hh:Calls Tryz.prog 93 #[.slice A (Sp.ofL (Sp.inL it)).length c,.slice B 1 d] wx (Says (.bool (Vd.tch q.vw.z it k)) wx))
  have hOB:=fun k=>show Sp.meetS (Sp.ofL (Sp.inL it)) (Vd.alikeTo q.vw.z k q.vw.z.length)=Sp.ofL (Vd.obj q.vw.z it k) from Sp.ofL_ext (fun o ho=>by rw[Sp.inL_ofL _ o ho];rfl)
  have hzl:q.vw.z.length=q.z.length:=List.length_map _
  have d6:=fun (k:Nat) A c B d wx (hA:OneL wx A c (Sp.ofL (Sp.inL it))) (hB:OneL wx B d (Vd.alikeTo q.vw.z k q.vw.z.length))=>(spmeet_any A B c d (Sp.ofL (Sp.inL it)) (Vd.alikeTo q.vw.z k q.vw.z.length) wx hA hB).mono fun _ _ hg=>hg.one
  have c6:=fun (k:Nat) A c B d wx (hA:OneL wx A c (Sp.ofL (Sp.inL it))) (hB:OneL wx B d (Vd.alikeTo q.vw.z k q.vw.z.length))=>(by
   have hh:=d6 k A c B d wx hA hB
   rw[hOB k]at hh
   exact hh:Calls Tryz.prog 96 #[.slice A (Sp.ofL (Sp.inL it)).length c,.slice B (Vd.alikeTo q.vw.z k q.vw.z.length).length d] wx (Ans (Sp.ofL (Vd.obj q.vw.z it k)) wx))
  have d7:=fun (k:Nat) X cx A c wx (hb:Below w.heap.size w wx) (hX:OneL wx X cx (Vd.vecAt q.vw.z k)) (hl:(Vd.vecAt q.vw.z k).length≤64) (hA:OneL wx A c (Sp.ofL (Vd.obj q.vw.z it k)))=>vdtelling_any q X A cx c (Vd.vecAt q.vw.z k) (Vd.obj q.vw.z it k) wx (h.later hb) hhf hX hl hA
  have hvl:∀k,(Vd.vecAt q.vw.z k).length≤64:=fun k=>by
   rcases Nat.lt_or_ge k q.z.length with hk|hk
   ·rw[(hzx k _ (List.getElem?_eq_getElem hk)).2.2]
    exact zl2 _ (List.getElem_mem hk)
   ·unfold Vd.vecAt Vd.zAt
    rw[List.getD_eq_getElem?_getD,List.getElem?_eq_none (by rw[hzl];exact hk)]
    exact Nat.zero_le _
  have c7:=fun (k:Nat) X cx A c wx (hb:Below w.heap.size w wx) (hX:OneL wx X cx (Vd.vecAt q.vw.z k)) (hA:OneL wx A c (Sp.ofL (Vd.obj q.vw.z it k)))=>d7 k X cx A c wx hb hX (hvl k) hA
  have ot0:Vd.outTo q.vw it 0=[]:=rfl
  have ots:=fun k=>Vd.out_succ q.vw it k
  have otn:=fun k=>Vd.out_len q.vw it k
  have td0:=fun p=>show Vd.told1 q.vw.z it 0 p=false from rfl
  have tds:=fun k p=>Vd.told_succ q.vw.z it k p
  have tde:=fun k p=>Vd.told_eq (zs:=q.vw.z) (it:=it) (k:=k) (p:=p)
  have ems:=fun k=>show Vd.em q.vw.z it k=(Vd.tch q.vw.z it k && !Vd.told1 q.vw.z it k k) from rfl
  have al0:=fun k=>show Vd.alikeTo q.vw.z k 0=[] from rfl
  have als:=fun k p=>Vd.alike_succ q.vw.z k p
  have aln:=fun k p=>Vd.alike_len q.vw.z k p
  rw[hzl]at c6 ⊢
  obtain⟨PT,hPT⟩:∃f,(fun k=>Vw.part q.vw (Vd.vecAt q.vw.z k) (Vd.obj q.vw.z it k))=f:=⟨_,rfl⟩
  have hPT:=fun k=>congrFun hPT k
  try dsimp only at hPT
  simp only[hPT]at ots c7
  obtain⟨OBL,hOBL⟩:∃f,(fun k=>Sp.ofL (Vd.obj q.vw.z it k))=f:=⟨_,rfl⟩
  have hOBL:=fun k=>congrFun hOBL k
  try dsimp only at hOBL
  simp only[hOBL]at c6 c7
  obtain⟨OT,hOT⟩:∃f,Vd.outTo q.vw it=f:=⟨_,rfl⟩
  obtain⟨TD,hTD⟩:∃f,Vd.told1 q.vw.z it=f:=⟨_,rfl⟩
  obtain⟨TC,hTC⟩:∃f,Vd.tch q.vw.z it=f:=⟨_,rfl⟩
  obtain⟨EM,hEM⟩:∃f,Vd.em q.vw.z it=f:=⟨_,rfl⟩
  obtain⟨AL,hAL⟩:∃f,Vd.alikeTo q.vw.z=f:=⟨_,rfl⟩
  obtain⟨SP,hSP⟩:∃f,Vd.spAt q.vw.z=f:=⟨_,rfl⟩
  obtain⟨VCt,hVC⟩:∃f,Vd.vecAt q.vw.z=f:=⟨_,rfl⟩
  obtain⟨N0,hN0⟩:∃n,Vw.part q.vw q.k (fun o=>Sp.inL it o && !Vw.isB q.vw o)=n:=⟨_,rfl⟩
  obtain⟨L0,hL0'⟩:∃n,Sp.ofL (fun o=>Sp.inL it o && !Vw.isB q.vw o)=n:=⟨_,rfl⟩
  obtain⟨WL,hWL⟩:∃n,Sp.ofL (Sp.inL it)=n:=⟨_,rfl⟩
  obtain⟨bl,hbl⟩:∃n,Tr.blr (q.z.map Zc.zn)=n:=⟨_,rfl⟩
  rw[show q.vw.k=q.k from rfl,hOT,hN0]
  rw[hOT]at ot0 ots otn
  rw[hEM]at ots ems
  rw[hTD]at td0 tds tde ems
  rw[hTC]at tds ems c5
  rw[hVC]at tds tde als c7 c5 hzx
  rw[hAL]at al0 als aln c6
  rw[hSP]at als hzx c5
  rw[hN0,hL0']at c4
  rw[hL0',hWL,hbl]at c3
  rw[hWL]at c5 c6
  rw[hbl]at c2
  have HWL:=Hd hWL
  have HZ:=Hd h.z
  have HI:=Hd hi
  have HZ256:=Hd zl1
  rw[hf]at c1
  clear d6 d7 hN0 hL0' hWL hbl hOT hTD hTC hEM hAL hSP hVC hPT hOBL hL0 htc hOB hzl hvl zl1 zl2 hkl hkf hzf hhf hf h hi
  obtain⟨K,ck,kn,Z,cz,zs,H,ch,hs,B,cb,bs,room⟩:=q
  unfold vwCells at c1 c4 c7 ⊢
  dsimp only at c1 c2 c3 c4 c5 c6 c7 hzx HZ HZ256 ⊢
  have C1:=Hd c1
  have C2:=Hd c2
  have C3:=Hd c3
  have C4:=Hd c4
  have C5:=Hd c5
  have C6:=Hd c6
  have C7:=Hd c7
  have HZX:=Hd hzx
  have HOT0:=Hd ot0
  have HOT:=Hd ots
  have HOTn:=Hd otn
  have HTD0:=Hd td0
  have HTD:=Hd tds
  have HTE:=Hd tde
  have HEM:=Hd ems
  have HAL0:=Hd al0
  have HAL:=Hd als
  have HALn:=Hd aln
  clear c1 c2 c3 c4 c5 c6 c7 hzx ot0 ots otn td0 tds tde ems al0 als aln
  have hb0:=below_new (Below.refl w.heap.size w) (.cells #[.slice K kn.length ck,.slice Z zs.length cz,.slice H hs.length ch,.slice B bs.length cb,.int .i64 room] 27)
  have hV:=Blk.new w 27 #[.slice K kn.length ck,.slice Z zs.length cz,.slice H hs.length ch,.slice B bs.length cb,.int .i64 room]
  obtain⟨W,hW⟩:∃W,w.alloc (.cells #[.slice K kn.length ck,.slice Z zs.length cz,.slice H hs.length ch,.slice B bs.length cb,.int .i64 room] 27)=W:=⟨_,rfl⟩
  rw[hW]at hb0 hV
  have HW:=Hd hW
  obtain⟨g,hgg⟩:∃g,w.heap.size=g:=⟨_,rfl⟩
  rw[hgg]at hV
  have HV:=Hd (show Blk W (g) 27 #[.slice K kn.length ck,.slice Z zs.length cz,.slice H hs.length ch,.slice B bs.length cb,.int .i64 room] from hV)
  have HB0:=Hd hb0
  clear hW hb0 hV
  go_enter Tryz.func30,Tryz.ntmps30
  go_upto_region 1 with (fail)
  rw[HW.out]
  clear HW
  have V_0:=HV.out.cell (i:=0) rfl
  have V_1:=HV.out.cell (i:=1) rfl
  have V_2:=HV.out.cell (i:=2) rfl
  have V_3:=HV.out.cell (i:=3) rfl
  have V_4:=HV.out.cell (i:=4) rfl
  go_wp2_with fail
  refine(C1.out _ HB0.out).mono ?_
  rintro e w1 ⟨rfl,b1⟩
  clear V_0 V_1 V_2 V_3 V_4
  replace HV:=Hd (HV.out.later b1)
  have HB1:=Hd (below_on HB0.out b1)
  clear HB0
  clear b1 C1
  go_wp2_with fail
  refine(join_one (HI.out.later HB1.out) _).mono ?_
  rintro e w2 ⟨u,rfl,ho,b2⟩
  replace HV:=Hd (HV.out.later b2)
  have HB2:=Hd (below_on HB1.out b2)
  clear HB1
  clear b2
  obtain⟨WA,wc,rfl,hWL⟩:=OneL.of_own ho
  rw[HWL.out]at hWL ⊢
  have XW:=Hd hWL
  clear ho hWL
  have V_0:=HV.out.cell (i:=0) rfl
  have V_1:=HV.out.cell (i:=1) rfl
  have V_2:=HV.out.cell (i:=2) rfl
  have V_3:=HV.out.cell (i:=3) rfl
  have V_4:=HV.out.cell (i:=4) rfl
  go_upto_region 4 with (fail)
  refine wp_region_facts 10 (by kernel_rfl) (by kernel_rfl)
   (fun v=>{ tmps:=#[.agg #[.slice K kn.length ck,.slice Z zs.length cz,.slice H hs.length ch,.slice B bs.length cb,.int .i64 room],.slice I it.length ci,.pointer (some ⟨g,0,none⟩),undef,.slice none 0 0,.int .i64 0,.slice WA WL.length wc,undef,undef,undef,undef,undef,undef,undef,undef,undef,.agg #[.slice K kn.length ck,.slice Z zs.length cz,.slice H hs.length ch,.slice B bs.length cb,.int .i64 room],.bool true,.bool false,.slice I it.length ci,.slice (some ⟨w1.heap.size,0,none⟩) 1 1,.slice WA WL.length wc,v 0,v 1,v 2,v 3,v 4,v 5,v 6,v 7,v 8,v 9,undef,undef,undef,undef,undef,undef,undef,undef,undef,undef,undef,undef,undef,undef,undef,undef,undef,undef,undef,undef,undef,undef,undef,undef,undef,undef,undef,undef,undef,undef,undef,undef,undef,undef,undef,undef,undef,undef,undef,undef,undef,undef,undef,undef,undef,undef,undef,undef,undef,undef,undef,undef,undef,undef,undef,undef,undef,undef],defers:=[] }) (fun _=>undef)
   (fun i x wx=>match i with
    |0=>x = .agg #[.slice K kn.length ck,.slice Z zs.length cz,.slice H hs.length ch,.slice B bs.length cb,.int .i64 room]
    |1=>x = .pointer (some ⟨g,0,none⟩)
    |2=>x = .slice K kn.length ck
    |3=>x = .slice WA WL.length wc
    |4=>x = .pointer (some ⟨g,1,none⟩)
    |5=>x = .slice Z zs.length cz
    |6=>∃A9 c9,x = .slice A9 bl.length c9∧OneL wx A9 c9 bl
    |7=>∃Ax cx,x = .slice Ax L0.length cx∧OneL wx Ax cx L0
    |8=>∃zz:Nl,x = .agg #[.slice zz.S zz.n.s.length zz.cs,.slice zz.E zz.n.e.length zz.ce,.slice zz.B zz.n.b.length zz.cb,.slice zz.V zz.n.ws.length zz.cv]∧zz.n=N0∧zz.At wx
    |9=>∃(gx:Nat) (zz:Nl),x = .slice (some ⟨gx,0,none⟩) 1 1∧Blk wx gx 40 #[.slice zz.S zz.n.s.length zz.cs,.slice zz.E zz.n.e.length zz.ce,.slice zz.B zz.n.b.length zz.cb,.slice zz.V zz.n.ws.length zz.cv]∧w.heap.size≤gx∧zz.n=N0∧zz.At wx
    |_=>True)
   (fun w1 w2=>Below w1.heap.size w1 w2) (fun h1 h2=>below_on h1 h2) (fun _=>Below.refl _ _) (Below.drew (Below.refl _ _)) ?stabP ?stepP ?doneP
  case stabP=>
   rintro i x w1 w2 h hb
   match i,h with
   |0,h=>exact h
   |1,h=>exact h
   |2,h=>exact h
   |3,h=>exact h
   |4,h=>exact h
   |5,h=>exact h
   |6,h=>obtain⟨A9,c9,e9,h9⟩:=h;exact⟨A9,c9,e9,h9.later hb⟩
   |7,h=>obtain⟨Ax,cx,ex,hx⟩:=h;exact⟨Ax,cx,ex,hx.later hb⟩
   |8,h=>obtain⟨zz,e9,n9,h9⟩:=h;exact⟨zz,e9,n9,NoteAt.later h9 hb⟩
   |9,h=>obtain⟨gx,zz,e9,b9,m9,n9,h9⟩:=h;exact⟨gx,zz,e9,b9.later hb,m9,n9,NoteAt.later h9 hb⟩
   |i+10,_=>trivial
  case stepP=>
   intro i hi v w' hb hd
   match i,hi with
   |0,_=>
    refine wpOp_oneH rfl fun KK HKK =>?_
    clear hd
    have q0:=cell_later hb V_0
    have q1:=cell_later hb V_1
    have q2:=cell_later hb V_2
    have q3:=cell_later hb V_3
    have q4:=cell_later hb V_4
    go_wp2
    exact HKK.out _ _ ⟨_,(by simp[upd];done),Below.refl _ _,rfl⟩
   |1,_=>
    refine wpOp_oneH rfl fun KK HKK =>?_
    clear hd
    go_wp2
    exact HKK.out _ _ ⟨_,(by simp[upd];done),Below.refl _ _,rfl⟩
   |2,_=>
    have h1:v 1=_:=hdx hd 1 (by kernel_rfl)
    refine wpOp_oneH rfl fun KK HKK =>?_
    clear hd
    rw[h1]
    have q0:=cell_later hb V_0
    go_wp2
    exact HKK.out _ _ ⟨_,(by simp[upd,h1];done),Below.refl _ _,rfl⟩
   |3,_=>
    refine wpOp_oneH rfl fun KK HKK =>?_
    clear hd
    go_wp2
    exact HKK.out _ _ ⟨_,(by simp[upd];done),Below.refl _ _,rfl⟩
   |4,_=>
    refine wpOp_oneH rfl fun KK HKK =>?_
    clear hd
    go_wp2
    exact HKK.out _ _ ⟨_,(by simp[upd];done),Below.refl _ _,rfl⟩
   |5,_=>
    have h4:v 4=_:=hdx hd 4 (by kernel_rfl)
    refine wpOp_oneH rfl fun KK HKK =>?_
    clear hd
    rw[h4]
    have q0:=cell_later hb V_1
    go_wp2
    exact HKK.out _ _ ⟨_,(by simp[upd,h4];done),Below.refl _ _,rfl⟩
   |6,_=>
    have h5:v 5=_:=hdx hd 5 (by kernel_rfl)
    refine wpOp_oneH rfl fun KK HKK =>?_
    clear hd
    rw[h5]
    go_wp2_with fail
    refine(C2.out _ (below_on HB2.out hb)).mono ?_
    rintro e w'' ⟨A9,c9,rfl,hB,b⟩
    go_wp2
    exact HKK.out _ _ ⟨_,(by simp[upd,h5];done),b,A9,c9,rfl,hB⟩
   |7,_=>
    have h3:v 3=_:=hdx hd 3 (by kernel_rfl)
    obtain⟨A6,c6,h6,o6⟩:=hd 6 (List.elem_iff.1 (by kernel_rfl))
    refine wpOp_oneH rfl fun KK HKK =>?_
    clear hd
    rw[h3,h6]
    have NX:=Hd (C3.out WA wc A6 c6 w' (XW.out.later hb) o6)
    clear o6
    go_wp2_with fail
    refine NX.out.mono ?_
    rintro e w'' ⟨Ax,cx,rfl,hB,b⟩
    go_wp2
    exact HKK.out _ _ ⟨_,(by simp[upd,h3,h6];done),b,Ax,cx,rfl,hB⟩
   |8,_=>
    have h0:v 0=_:=hdx hd 0 (by kernel_rfl)
    have h2:v 2=_:=hdx hd 2 (by kernel_rfl)
    obtain⟨A7,c7,h7,o7⟩:=hd 7 (List.elem_iff.1 (by kernel_rfl))
    refine wpOp_oneH rfl fun KK HKK =>?_
    clear hd
    rw[h0,h2,h7]
    have NX:=Hd (C4.out A7 c7 w' (below_on HB2.out hb) o7)
    clear o7
    go_wp2_with fail
    refine NX.out.mono ?_
    rintro e w'' ⟨NS,NE,NB,NV,ns,ne,nb,nv,rfl,hNA,b⟩
    unfold noteCells
    dsimp only
    go_wp2
    exact HKK.out _ _ ⟨_,(by simp[upd,h0,h2,h7];done),b,⟨NS,NE,NB,NV,ns,ne,nb,nv,N0⟩,rfl,rfl,hNA⟩
   |9,_=>
    obtain⟨zz8,h8,zn8,o8⟩:=hd 8 (List.elem_iff.1 (by kernel_rfl))
    refine wpOp_oneH rfl fun KK HKK =>?_
    clear hd
    rw[h8]
    have ZN:=Hd zn8
    clear zn8
    have bn:=below_new (Below.refl w'.heap.size w') (.cells #[.slice zz8.S zz8.n.s.length zz8.cs,.slice zz8.E zz8.n.e.length zz8.ce,.slice zz8.B zz8.n.b.length zz8.cb,.slice zz8.V zz8.n.ws.length zz8.cv] 40)
    have HBN:=Hd (Blk.new w' 40 #[.slice zz8.S zz8.n.s.length zz8.cs,.slice zz8.E zz8.n.e.length zz8.ce,.slice zz8.B zz8.n.b.length zz8.cb,.slice zz8.V zz8.n.ws.length zz8.cv])
    have HZN:=Hd (NoteAt.later o8 bn)
    have hsz:=(below_on HB2.out hb).size
    go_wp2
    exact HKK.out _ _ ⟨_,(by simp[upd,h8];done),bn,_,zz8,rfl,HBN.out,hsz,ZN.out,HZN.out⟩
   |k+10,hk=>exact absurd hk (by omega)
  case doneP=>
   intro v w5 hb hf
   have h0:v 0=_:=hf 0 (by decide)
   have h1:v 1=_:=hf 1 (by decide)
   have h2:v 2=_:=hf 2 (by decide)
   have h3:v 3=_:=hf 3 (by decide)
   have h4:v 4=_:=hf 4 (by decide)
   have h5:v 5=_:=hf 5 (by decide)
   obtain⟨A6,c6,h6,o6⟩:=hf 6 (by decide)
   obtain⟨A7,c7,h7,o7⟩:=hf 7 (by decide)
   obtain⟨zz8,h8,zn8,o8⟩:=hf 8 (by decide)
   obtain⟨g9,zz9,h9,o9,m9,zn9,y9⟩:=hf 9 (by decide)
   clear hf
   rw[h0,h1,h2,h3,h4,h5,h6,h7,h8,h9]
   clear V_0 V_1 V_2 V_3 V_4
   replace HV:=Hd (HV.out.later hb)
   have HB3:=Hd (below_on HB2.out hb)
   clear HB2
   replace XW:=Hd (XW.out.later hb)
   clear hb
   have hns:OwnNs w5 w.heap.size 40 (.slice (some ⟨g9,0,none⟩) 1 1) [zz9]:=⟨⟨rfl,.inr ⟨g9,1,_,rfl,m9,o9,Nat.le_refl _,by unfold maxLen;omega,rfl,rfl⟩⟩,(fun g' n' c' e9=>by cases e9;exact⟨_,_,_,o9,rfl⟩),fun z hz=>by rw[List.mem_singleton]at hz;subst hz;exact y9⟩
   have hn9:[zz9].map Nl.n=[N0]:=by rw[List.map_cons,zn9];rfl
   have XN:=Hd hns
   have HN9:=Hd hn9
   clear hns hn9 o6 o7 o8 o9 m9 zn8 zn9 y9
   have bm:=below_new (Below.refl w5.heap.size w5) (.map #[] 0)
   have y1:=(HV.out.later bm).cell (i:=1) rfl
   have HM0:=Hd (World.ownsMap_made (H:=Unit) w5 Tryz.prog 3 unitElem)
   have HV6:=Hd (HV.out.later bm)
   have XW6:=Hd (XW.out.later bm)
   have XN6:=Hd (XN.out.later bm)
   have HB6:=Hd (below_on HB3.out bm)
   obtain⟨mb,hmb⟩:∃mb,w5.heap.size=mb:=⟨_,rfl⟩
   rw[hmb]at HM0
   have HMB:=Hd (show w.heap.size≤mb from by have:=HB3.out.size;omega)
   clear HV XW XN HB3 bm C2 C3 C4
   have hmm :=@run_makeMap Tryz.prog
   go_wp2_with fail
   obtain⟨w6,hw6⟩:∃x,w5.alloc (.map #[] 0)=x:=⟨_,rfl⟩
   rw[hw6]at HV6 XW6 XN6 HB6 HM0 y1
   simp only[hw6]
   clear y1 hmm
   go_loopw [7,36] (fun s7 s36 wr=>∃(k m:Nat) (D:DataW Unit) (L:List Nl),k≤zs.length∧s36 = .int .i64 (k:Int)∧L.map Nl.n=N0::OT k∧OwnNs wr w.heap.size 40 s7 L∧wr.ownsMap Tryz.prog 3 unitElem mb m D∧m≤k*256∧IsMap D∧(∀p:Nat,p<zs.length→(Maps.has D (.int .i64 (p:Int))=true↔TD k p=true))∧Blk wr g 27 #[.slice K kn.length ck,.slice Z zs.length cz,.slice H hs.length ch,.slice B bs.length cb,.int .i64 room]∧OneL wr WA wc WL∧Below w.heap.size w wr) (fun _ s36 _=>zs.length-(intOf s36).toNat)
   case atStart=>exact⟨0,0,.map [],[zz9],Nat.zero_le _,rfl,by rw[HN9.out,HOT0.out],XN6.out,HM0.out,Nat.zero_le _,⟨_,rfl⟩,(fun p _=>by rw[HTD0.out];exact⟨fun h=>by simp[Maps.has]at h,fun h=>by cases h⟩),HV6.out,XW6.out,HB6.out⟩
   case round=>
    obtain⟨k,m,D,L,hk,rfl,hL,hN,hM,hm,hD,hT,hV,hW,hbw⟩:=hrel
    obtain⟨VN,nc,hvv,-,-,-,-⟩:=own_form hN.row
    subst hvv
    by_cases hlt:k<zs.length
    rotate_left
    ·
     obtain rfl:k=zs.length:=by omega
     obtain⟨A2,c2',e2,hO⟩:=hN.one
     have hgeN:=own_ge hN.row
     rw[hL]at hO
     have HLL:=Hd (show L.length=(N0::OT zs.length).length from by rw[←hL,List.length_map])
     have HGE:=Hd hgeN
     injection e2 with e3 _ e4
     subst e3 e4
     have HO:=Hd hO
     have BW:=Hd hbw
     clear hL hN hM hD hT hV hW hbw hO hgeN
     go_wp2
     go_ret2
     refine⟨VN,nc,by rw[←HLL.out];rfl,HO.out,(fun b off e9=>HGE.out b (by rw[e9];rfl)),BW.out⟩
    have hne:zs≠[]:=fun e=>by subst e;simp at hlt
    have hz:=HZ.out.later hbw
    obtain⟨b,off,hA,hc⟩:=hz.at hne
    obtain⟨x,hx⟩:∃x,zs[k]?=some x:=⟨zs[k],List.getElem?_eq_getElem hlt⟩
    obtain⟨e0,e1,e2⟩:=hc k x hx
    have hxl:=hz.each x (List.mem_of_getElem? hx)
    have hzx:=HZX.out k x hx
    have hi0:(0:Int)≤(k:Int):=by omega
    have hi1:(k:Int)<(zs.length:Int):=by omega
    have hk256:=HZ256.out
    obtain⟨lo,hi,X,cx,l⟩:=x
    dsimp only at e0 e1 e2 hxl hzx
    have HZ':=HZ
    subst hA
    have bx:=below_new (Below.refl wr.heap.size wr) (.cells #[.int .i64 lo,.int .i64 hi,.slice X l.length cx] 99)
    have hX:=Blk.new wr 99 #[.int .i64 lo,.int .i64 hi,.slice X l.length cx]
    have hMx:=map_later hM bx
    have hmx:mb<(wr.alloc (.cells #[.int .i64 lo,.int .i64 hi,.slice X l.length cx] 99)).heap.size:=hMx.lt
    obtain⟨W1,hW1⟩:∃W1,wr.alloc (.cells #[.int .i64 lo,.int .i64 hi,.slice X l.length cx] 99)=W1:=⟨_,rfl⟩
    rw[hW1]at bx hX hMx
    obtain⟨gx,hgx⟩:∃gx,wr.heap.size=gx:=⟨_,rfl⟩
    obtain⟨rt,hlk,hrt0⟩:=look_set hMx Tryz.underlying134 Tryz.underlying3 (zeroUnit W1) (k:Int)
    have hrt:=hrt0 (WalkArith.wf_i64 (by omega))
    have hrd:rt=TD k k:=by
     rw[hrt]
     exact Bool.eq_iff_iff.2 (hT k hlt)
    have HRD:=Hd hrd
    have bz:=below_new (Below.refl W1.heap.size W1) (.cells #[] 135)
    have bzx:=below_on bx bz
    have HX:=Hd (hX.later bz)
    have HM:=Hd (map_later hMx bz)
    have HN:=Hd (hN.later bzx)
    have HVr:=Hd (hV.later bzx)
    have HWr:=Hd (hW.later bzx)
    have HXL:=Hd (hxl.later bzx)
    have BW:=Hd (below_on hbw bzx)
    have HL:=Hd hL
    have HD:=Hd hD
    have HT:=Hd hT
    have HZX1:=Hd hzx
    have HW1:=Hd hW1
    have HTS:=Hd (fun p=>HTD.out k p)
    have HOS:=Hd (HOT.out k)
    have HES:=Hd (HEM.out k)
    rw[hgx]at HX
    have HGX:=Hd hgx
    clear hgx
    obtain⟨W2,hW2⟩:∃W2,W1.alloc (.cells #[] 135)=W2:=⟨_,rfl⟩
    rw[hW2]at HX HM HN HVr HWr HXL BW
    have HW2:=Hd hW2
    have p0:=HX.out.cell (i:=0) rfl
    have p1:=HX.out.cell (i:=1) rfl
    clear hc hz hx hxl hzx hL hN hM hD hT hV hW hbw bx hX hMx hrt hrt0 hrd bz bzx hW1 hW2 hne hmx
    cases rt with
    |true=>
     have FL:=Hd (show OT (k+1)=OT k from by rw[HOS.out,HES.out,←HRD.out];simp)
     have FT:=Hd (show ∀p,TD (k+1) p=TD k p from fun p=>by
      rw[HTS.out p]
      cases h1:TC k with
      |false=>simp
      |true=>
       by_cases h2:VCt k=VCt p
       ·rw[HTE.out k p h2 HRD.out.symm];simp
       ·simp[h2])
     clear HRD
     go_upto_region 9 with (fail)
     rw[HW1.out]
     rw[HGX.out]
     clear HW1 e0 e1 e2
     go_wp2_with fail
     go_roundw
     case rel=>exact⟨k+1,m,D,L,by omega,by go_num,by rw[FL.out];exact HL.out,by rw[←HW2.out]at HN;exact HN.out,by rw[←HW2.out]at HM;exact HM.out,by omega,HD.out,(fun p hp=>by rw[FT.out p];exact HT.out p hp),by rw[←HW2.out]at HVr;exact HVr.out,by rw[←HW2.out]at HWr;exact HWr.out,by rw[←HW2.out]at BW;exact BW.out⟩
     case measure=>simp[intOf];omega
    |false=>
    go_upto_region 9 with (fail)
    rw[HW1.out]
    rw[HGX.out]
    clear HW1 e0 e1 e2
    go_upto_region 10 with (fail)
    rw[HW2.out]
    clear HW2 hlk
    go_wp2_with fail
    refine(vdalone_any lo hi W2).mono ?_
    rintro e w7 ⟨ga,rfl,hga,b7⟩
    have NT:=Hd (C5.out k lo hi X cx l WA wc (some ⟨ga,0,none⟩) 1 w7 HZX1.out (HWr.out.later b7) hga)
    replace HX:=Hd (HX.out.later b7)
    replace HM:=Hd (map_later HM.out b7)
    replace HN:=Hd (HN.out.later b7)
    replace HVr:=Hd (HVr.out.later b7)
    replace HWr:=Hd (HWr.out.later b7)
    replace HXL:=Hd (HXL.out.later b7)
    replace BW:=Hd (below_on BW.out b7)
    clear p0 p1 hga b7
    go_wp2_with fail
    refine NT.out.mono ?_
    rintro e w8 ⟨rfl,b8⟩
    replace HX:=Hd (HX.out.later b8)
    replace HM:=Hd (map_later HM.out b8)
    replace HN:=Hd (HN.out.later b8)
    replace HVr:=Hd (HVr.out.later b8)
    replace HWr:=Hd (HWr.out.later b8)
    replace HXL:=Hd (HXL.out.later b8)
    replace BW:=Hd (below_on BW.out b8)
    clear NT b8
    cases htc:TC k with
    |false=>
     have FL:=Hd (show OT (k+1)=OT k from by rw[HOS.out,HES.out,htc];simp)
     have FT:=Hd (show ∀p,TD (k+1) p=TD k p from fun p=>by rw[HTS.out p,htc];simp)
     clear HRD htc
     go_wp2_with fail
     go_roundw
     case rel=>exact⟨k+1,m,D,L,by omega,by go_num,by rw[FL.out];exact HL.out,HN.out,HM.out,by omega,HD.out,(fun p hp=>by rw[FT.out p];exact HT.out p hp),HVr.out,HWr.out,BW.out⟩
     case measure=>simp[intOf];omega
    |true=>
    have FL:=Hd (show OT (k+1)=OT k++[PT k] from by rw[HOS.out,HES.out,htc,←HRD.out];simp)
    have FT:=Hd (show ∀p,TD (k+1) p=(TD k p||decide (VCt k=VCt p)) from fun p=>by rw[HTS.out p,htc];simp)
    have HAS:=Hd (fun p=>HAL.out k p)
    have HAN:=Hd (fun p=>HALn.out k p)
    have HVK:=Hd (show VCt k=l from HZX1.out.2.2)
    have y1:=HVr.out.cell (i:=1) rfl
    clear HRD htc HTS HOS HES
    have HWZ:=Hd BW.out.size
    go_wp2_with fail
    go_loopw [13,59] (fun s13 s59 wr=>∃(p m':Nat) (D':DataW Unit),p≤zs.length∧s59 = .int .i64 (p:Int)∧wr.ownsRow w8.heap.size 97 2 s13 (AL k p).length (stCells (AL k p))∧wr.ownsMap Tryz.prog 3 unitElem mb m' D'∧m'≤m+p∧IsMap D'∧(∀u:Nat,u<zs.length→(Maps.has D' (.int .i64 (u:Int))=true↔(TD k u=true∨(u<p∧VCt k=VCt u))))∧Vd.KeepM w8 wr∧Below w.heap.size w wr) (fun _ s59 _=>zs.length-(intOf s59).toNat)
    case atStart=>exact⟨0,m,D,Nat.zero_le _,rfl,by rw[HAL0.out k];exact⟨rfl,.inl ⟨rfl,rfl⟩⟩,HM.out,by omega,HD.out,(fun u hu=>by rw[HT.out u hu];exact⟨fun h =>.inl h,fun h=>h.elim id (fun h=>absurd h.1 (by omega))⟩),Vd.KeepM.refl _,BW.out⟩
    case round=>
     obtain⟨p,m',D',hp,rfl,hR,hM',hm',hD',hT',hK',hbw'⟩:=hrel
     obtain⟨VR,rc,hvv,-,-,-,-⟩:=own_form hR
     subst hvv
     by_cases hpl:p<zs.length
     ·have hz:=HZ'.out.later hbw'
      obtain⟨b',off',hA',hc⟩:=hz.at (fun e=>by subst e;simp at hpl)
      injection hA' with hA'
      injection hA' with hA1 hA2 _
      subst hA1 hA2
      obtain⟨y,hy⟩:∃y,zs[p]?=some y:=⟨zs[p],List.getElem?_eq_getElem hpl⟩
      obtain⟨e0,e1,e2⟩:=hc p y hy
      have hyl:=hz.each y (List.mem_of_getElem? hy)
      have hzy:=HZX.out p y hy
      have hj0:(0:Int)≤(p:Int):=by omega
      have hj1:(p:Int)<(zs.length:Int):=by omega
      obtain⟨lo2,hi2,Y,cy,r⟩:=y
      dsimp only at e0 e1 e2 hyl hzy
      have bx:=below_new (Below.refl wr.heap.size wr) (.cells #[.int .i64 lo2,.int .i64 hi2,.slice Y r.length cy] 99)
      have hY:=Blk.new wr 99 #[.int .i64 lo2,.int .i64 hi2,.slice Y r.length cy]
      have hXk:=(hK'.blk HX.out).later bx
      have hXk2:=(hK'.oneL HXL.out).later bx
      obtain⟨W3,hW3⟩:∃W3,wr.alloc (.cells #[.int .i64 lo2,.int .i64 hi2,.slice Y r.length cy] 99)=W3:=⟨_,rfl⟩
      rw[hW3]at bx hY hXk hXk2
      have NQ:=Hd (veq_any Y X cy cx r l W3 (hyl.later bx) hXk2)
      have HY:=Hd hY
      have HR3:=Hd (own_later hR bx)
      have HM3:=Hd (map_later hM' bx)
      have HK3:=Hd (hK'.later bx)
      have BW3:=Hd (below_on hbw' bx)
      have HD3:=Hd hD'
      have HT3:=Hd hT'
      have HZY:=Hd hzy
      have HW3:=Hd hW3
      have q2:=hY.cell (i:=2) rfl
      have x2:=hXk.cell (i:=2) rfl
      clear hz hc hy hyl hzy bx hY hXk hXk2 hW3 hR hM' hK' hbw' hD' hT'
      go_upto_region 15 with (fail)
      rw[HW3.out]
      clear HW3 e0 e1 e2
      go_wp2_with fail
      refine NQ.out.mono ?_
      rintro e w9 ⟨rfl,b9⟩
      replace HY:=Hd (HY.out.later b9)
      replace HR3:=Hd (own_later HR3.out b9)
      replace HM3:=Hd (map_later HM3.out b9)
      replace HK3:=Hd (HK3.out.later b9)
      replace BW3:=Hd (below_on BW3.out b9)
      have HAP:=Hd (HAS.out p)
      have HVP:=Hd (show VCt p=r from HZY.out.2.2)
      have hanl:=HAN.out p
      clear NQ b9 q2 x2
      by_cases heq:r=l
      ·rw[decide_eq_true heq]
       have FA:=Hd (show AL k (p+1)=AL k p++[(lo2,hi2)] from by rw[HAP.out,if_pos (by rw[HVP.out,HVK.out,heq])];rw[show SP p=(lo2,hi2) from by rw[←HZY.out.1,←HZY.out.2.1]])
       have hkey:keyOf Tryz.prog 3 (.int .i64 (p:Int))=some (.int .i64 (p:Int)):=keyOf_int_mk Tryz.underlying3 (WalkArith.wf_i64 (by omega))
       have hM4:=HM3.out
       have hkm:m'<maxLen:=by unfold maxLen;omega
       have FQ:=Hd (show VCt k=VCt p from by rw[HVP.out,HVK.out,heq])
       clear heq HAP
       go_upto_region 17 with (at_mapUpdate;refine wpList_mapUpdate_own _ rfl _ _ _ 134 rfl 3 135 lawObj Tryz.underlying134 (unitElem (H:=Unit)) mb m' _ rfl hM4 hkm _ _ _ rfl rfl hkey _ [] unitElem_mk ?_;intro w10 hM5 hg5)
       have hmo:∃o:Obj,w9.heap[mb]?=some o∧o.isCells=false:=by
        obtain⟨es,clock,hh,-⟩:=hM4
        exact⟨_,hh,rfl⟩
       have HM5:=Hd hM5
       have HR5:=Hd (own_stays HR3.out (fun j hj=>hg5.block j (own_lt HR3.out j hj) (fun e=>by
        injection e with e
        subst e
        obtain⟨o,ho,hoc⟩:=hmo
        rcases HR3.out.2 with ⟨hv,_⟩|⟨g3,cap,cur,hv,_,hB3,_⟩
        ·rw[hv]at hj;cases hj
        ·rw[hv]at hj
         injection hj with hj
         subst hj
         rw[ho]at hB3
         cases hB3
         cases hoc)))
       have HY5:=Hd (Vd.KeepM.blk ((Vd.KeepM.refl w9).grown hg5 (fun j e=>by cases e;exact .inr hmo)) HY.out)
       have HK5:=Hd (HK3.out.grown hg5 (fun j e=>by cases e;exact .inr hmo))
       have BW5:=Hd (BW3.out.grown hg5 BW3.out.size (fun j hj=>by cases hj;exact HMB.out))
       have s0:=HY5.out.cell (i:=0) rfl
       have s1:=HY5.out.cell (i:=1) rfl
       clear hM4 hM5 hg5 hmo HM3 HR3 HY HK3 BW3
       have bn:=below_new (Below.refl w10.heap.size w10) (.cells #[.int .i64 lo2,.int .i64 hi2] 97)
       have hrow:=own_later HR5.out bn
       have hlies:Lies (w10.alloc (.cells #[.int .i64 lo2,.int .i64 hi2] 97)) (some ⟨w10.heap.size,0,none⟩) (stCells [(lo2,hi2)]):=fun _=>⟨w10.heap.size,0,rfl,fun j u hu=>by
        rw[Nat.zero_add]
        exact(Blk.new w10 97 #[.int .i64 lo2,.int .i64 hi2]).cell (by simpa[stCells] using hu)⟩
       have hszw:w8.heap.size≤(w10.alloc (.cells #[.int .i64 lo2,.int .i64 hi2] 97)).heap.size:=Nat.le_trans HK5.out.1 bn.size
       have HK6:=Hd (HK5.out.later bn)
       have BW6:=Hd (below_on BW5.out bn)
       have HM6:=Hd (map_later HM5.out bn)
       have hw8:=HWZ.out
       clear bn HM5 HR5 HK5 BW5
       go_wp2_with (at_builtin;refine Go.Proofs.YtjlfehpockfkdaaGreat.wpList_append_lies _ rfl _ _ 28 rfl w8.heap.size 97 j0 (.agg #[.int .i64 0,.int .i64 0]) 2 16 Tryz.underlying28 hJ0 hy0 hy1 hy2 rfl (by decide) _ (AL k p).length (stCells (AL k p)) rfl hrow (some ⟨w10.heap.size,0,none⟩) 1 1 (fun h=>by cases h) (stCells [(lo2,hi2)]) rfl rfl hlies (by intro u hu;simp[stCells]at hu;rcases hu with rfl|rfl<;>rfl) ?h63 ?hbytes hszw ?_)
       case h63=>unfold maxLen;omega
       case hbytes=>omega
       intro v' wz hownz hgz _
       have hmo:∃o:Obj,(w10.alloc (.cells #[.int .i64 lo2,.int .i64 hi2] 97)).heap[mb]?=some o∧o.isCells=false:=by
        obtain⟨es,clock,hh,-⟩:=HM6.out
        exact⟨_,hh,rfl⟩
       have hMz:=Vd.map_stays HM6.out (hgz.block mb HM6.out.lt (fun e=>by
        obtain⟨o,ho,hoc⟩:=hmo
        rcases hrow.2 with ⟨hv,_⟩|⟨g3,cap,cur,hv,_,hB3,_⟩
        ·rw[hv]at e;cases e
        ·rw[hv]at e
         injection e with e
         have e:mb=g3:=e
         subst e
         rw[ho]at hB3
         cases hB3
         cases hoc))
       have hKz:=HK6.out.grown hgz (fun j e =>.inl (own_ge hrow j e))
       have hBz:=BW6.out.grown hgz BW6.out.size (fun j e=>Nat.le_trans hw8 (own_ge hrow j e))
       rw[show stCells (AL k p)++stCells [(lo2,hi2)]=stCells (AL k (p+1)) from by rw[FA.out,stCells_append],show(AL k p).length+1=(AL k (p+1)).length from by rw[FA.out,List.length_append];rfl]at hownz
       obtain⟨gv,capv,rfl⟩:=own_len hownz (by rw[FA.out];simp)
       have HQ:=Hd (And.intro hownz (And.intro hMz (And.intro hKz hBz)))
       clear hownz hMz hKz hBz hgz hrow hlies hszw hmo HM6 HK6 BW6 s0 s1
       go_wp2_with fail
       go_roundw
       case rel=>
        refine⟨p+1,m'+1,_,by omega,by go_num,HQ.out.1,HQ.out.2.1,by omega,HD3.out.put _ _,fun u hu =>?_,HQ.out.2.2.1,HQ.out.2.2.2⟩
        by_cases e:u=p
        ·subst e
         rw[has_put_same (k :=.int .i64 (u:Int)) HD3.out (by simp[WideAt.IsKeyLit])]
         exact⟨fun _ =>.inr ⟨by omega,FQ.out⟩,fun _=>rfl⟩
        ·rw[has_put_other (fun h=>e (by cases h;rfl)),HT3.out u hu]
         constructor
         ·rintro (h|⟨h1,h2⟩)
          ·exact .inl h
          ·exact .inr ⟨by omega,h2⟩
         ·rintro (h|⟨h1,h2⟩)
          ·exact .inl h
          ·exact .inr ⟨by omega,h2⟩
       case measure=>simp[intOf];omega
      ·rw[decide_eq_false heq]
       have FA:=Hd (show AL k (p+1)=AL k p from by rw[HAP.out,if_neg (by rw[HVP.out,HVK.out];exact heq),List.append_nil])
       have FQ:=Hd (show VCt k≠VCt p from by rw[HVP.out,HVK.out];exact fun h=>heq h.symm)
       have HQ:=Hd (And.intro HR3.out (And.intro HM3.out (And.intro HK3.out BW3.out)))
       clear heq HAP HY
       go_wp2_with fail
       go_roundw
       case rel=>
        refine⟨p+1,m',D',by omega,by go_num,by rw[FA.out];exact HQ.out.1,HQ.out.2.1,by omega,HD3.out,fun u hu =>?_,HQ.out.2.2.1,HQ.out.2.2.2⟩
        rw[HT3.out u hu]
        constructor
        ·rintro (h|⟨h1,h2⟩)
         ·exact .inl h
         ·exact .inr ⟨by omega,h2⟩
        ·rintro (h|⟨h1,h2⟩)
         ·exact .inl h
         ·refine .inr ⟨?_,h2⟩
          rcases Nat.lt_or_ge u p with h3|h3
          ·exact h3
          ·obtain rfl:u=p:=by omega
           exact absurd h2 FQ.out
       case measure=>simp[intOf];omega
     ·obtain rfl:p=zs.length:=by omega
      have hXk:=hK'.blk HX.out
      have hVk:=hK'.blk HVr.out
      have hWk:=hK'.oneL HWr.out
      have hlk:=hK'.oneL HXL.out
      have hNk:=hK'.ns HN.out
      obtain⟨ra,rcc,re,hRO⟩:=OneL.of_own hR
      injection re with re1 _ re2
      subst re1 re2
      have HX9:=Hd hXk
      have HV9:=Hd hVk
      have HW9:=Hd hWk
      have HL9:=Hd (show OneL wr X cx (VCt k) from by rw[HVK.out];exact hlk)
      have HN9':=Hd hNk
      have HR9:=Hd hRO
      have HM9:=Hd hM'
      have HD9:=Hd hD'
      have HT9:=Hd hT'
      have BW9:=Hd hbw'
      have HMM:=Hd hm'
      have HLE:=Hd (show L.length≤k+1 from by have h1:=congrArg List.length HL.out;rw[List.length_map,List.length_cons]at h1;have:=HOTn.out k;omega)
      clear hXk hVk hWk hlk hNk hR hRO hM' hD' hT' hK' hbw' HX HVr HWr HXL HN HM HT BW hm'
      have z0:=HX9.out.cell (i:=2) rfl
      have V_0:=HV9.out.cell (i:=0) rfl
      have V_1:=HV9.out.cell (i:=1) rfl
      have V_2:=HV9.out.cell (i:=2) rfl
      have V_3:=HV9.out.cell (i:=3) rfl
      have V_4:=HV9.out.cell (i:=4) rfl
      go_upto_region 19 with (fail)
      have HBR:=Hd (Below.refl wr.heap.size wr)
      have HV:=HV9
      refine wp_region_facts 9 (by kernel_rfl) (by kernel_rfl)
       (fun v=>{ tmps:=#[.agg #[.slice K kn.length ck,.slice (some ⟨b,off,none⟩) zs.length cz,.slice H hs.length ch,.slice B bs.length cb,.int .i64 room],.slice I it.length ci,.pointer (some ⟨g,0,none⟩),undef,.slice none 0 0,.int .i64 0,.slice WA WL.length wc,.slice VN L.length nc,.map (some mb),.int .i64 (k:Int),.pointer (some ⟨gx,0,none⟩),.pointer (some ⟨W1.heap.size,0,none⟩),.bool false,.slice VR (AL k zs.length).length rc,u14,u15,.agg #[.slice K kn.length ck,.slice (some ⟨b,off,none⟩) zs.length cz,.slice H hs.length ch,.slice B bs.length cb,.int .i64 room],.bool true,.bool false,.slice I it.length ci,.slice (some ⟨w1.heap.size,0,none⟩) 1 1,.slice WA WL.length wc,.agg #[.slice K kn.length ck,.slice (some ⟨b,off,none⟩) zs.length cz,.slice H hs.length ch,.slice B bs.length cb,.int .i64 room],.pointer (some ⟨g,0,none⟩),.slice K kn.length ck,.slice WA WL.length wc,.pointer (some ⟨g,1,none⟩),.slice (some ⟨b,off,none⟩) zs.length cz,.slice A6 bl.length c6,.slice A7 L0.length c7,.agg #[.slice zz8.S zz8.n.s.length zz8.cs,.slice zz8.E zz8.n.e.length zz8.ce,.slice zz8.B zz8.n.b.length zz8.cb,.slice zz8.V zz8.n.ws.length zz8.cv],.slice (some ⟨g9,0,none⟩) 1 1,.map (some mb),.pointer (some ⟨g,1,none⟩),.slice (some ⟨b,off,none⟩) zs.length cz,.int .i64 (zs.length:Int),.int .i64 (k:Int),.bool true,.int .i64 (k:Int),.pointer (some ⟨b,off+k*3,none⟩),.agg #[.int .i64 lo,.int .i64 hi,.slice X l.length cx],.tuple #[.agg #[],.bool false],.map (some mb),.int .i64 (k:Int),.tuple #[.agg #[],.bool false],.agg #[],.bool false,.bool false,.bool false,.slice WA WL.length wc,.pointer (some ⟨gx,0,none⟩),.agg #[.int .i64 lo,.int .i64 hi],.slice (some ⟨ga,0,none⟩) 1 1,.bool true,.bool false,.bool false,.pointer (some ⟨g,1,none⟩),.slice (some ⟨b,off,none⟩) zs.length cz,.int .i64 (zs.length:Int),.int .i64 (zs.length:Int),.bool false,u61,u62,u63,u64,u65,u66,u67,u68,u69,u70,u71,u72,u73,u74,u75,u76,u77,v 0,v 1,v 2,v 3,v 4,v 5,v 6,v 7,v 8,u87,u88,undef],defers:=[] }) (fun i=>match i with|0=>u78|1=>u79|2=>u80|3=>u81|4=>u82|5=>u83|6=>u84|7=>u85|8=>u86|_=>undef)
       (fun i x wx=>match i with
        |0=>x = .slice VN L.length nc
        |1=>x = .agg #[.slice K kn.length ck,.slice (some ⟨b,off,none⟩) zs.length cz,.slice H hs.length ch,.slice B bs.length cb,.int .i64 room]
        |2=>x = .pointer (some ⟨gx,2,none⟩)
        |3=>x = .slice X l.length cx
        |4=>x = .slice WA WL.length wc
        |5=>x = .slice VR (AL k zs.length).length rc
        |6=>∃Ax cx,x = .slice Ax (OBL k).length cx∧OneL wx Ax cx (OBL k)
        |7=>∃zz:Nl,x = .agg #[.slice zz.S zz.n.s.length zz.cs,.slice zz.E zz.n.e.length zz.ce,.slice zz.B zz.n.b.length zz.cb,.slice zz.V zz.n.ws.length zz.cv]∧zz.n=(PT k)∧zz.At wx
        |8=>∃(gx:Nat) (zz:Nl),x = .slice (some ⟨gx,0,none⟩) 1 1∧Blk wx gx 40 #[.slice zz.S zz.n.s.length zz.cs,.slice zz.E zz.n.e.length zz.ce,.slice zz.B zz.n.b.length zz.cb,.slice zz.V zz.n.ws.length zz.cv]∧w.heap.size≤gx∧zz.n=(PT k)∧zz.At wx
        |_=>True)
       (fun w1 w2=>Below w1.heap.size w1 w2) (fun h1 h2=>below_on h1 h2) (fun _=>Below.refl _ _) (Below.drew (Below.refl _ _)) ?stabQ ?stepQ ?doneQ
      case stabQ=>
       rintro i x w1 w2 h hb
       match i,h with
       |0,h=>exact h
       |1,h=>exact h
       |2,h=>exact h
       |3,h=>exact h
       |4,h=>exact h
       |5,h=>exact h
       |6,h=>obtain⟨Ax,cx,ex,hx⟩:=h;exact⟨Ax,cx,ex,hx.later hb⟩
       |7,h=>obtain⟨zz,e9,n9,h9⟩:=h;exact⟨zz,e9,n9,NoteAt.later h9 hb⟩
       |8,h=>obtain⟨gx,zz,e9,b9,m9,n9,h9⟩:=h;exact⟨gx,zz,e9,b9.later hb,m9,n9,NoteAt.later h9 hb⟩
       |i+9,_=>trivial
      case stepQ=>
       intro i hi v w' hb hd
       match i,hi with
       |0,_=>
        refine wpOp_oneH rfl fun KK HKK =>?_
        clear hd
        go_wp2
        exact HKK.out _ _ ⟨_,(by simp[upd];done),Below.refl _ _,rfl⟩
       |1,_=>
        refine wpOp_oneH rfl fun KK HKK =>?_
        clear hd
        have q0:=cell_later hb V_0
        have q1:=cell_later hb V_1
        have q2:=cell_later hb V_2
        have q3:=cell_later hb V_3
        have q4:=cell_later hb V_4
        go_wp2
        exact HKK.out _ _ ⟨_,(by simp[upd];done),Below.refl _ _,rfl⟩
       |2,_=>
        refine wpOp_oneH rfl fun KK HKK =>?_
        clear hd
        go_wp2
        exact HKK.out _ _ ⟨_,(by simp[upd];done),Below.refl _ _,rfl⟩
       |3,_=>
        have h2:v 2=_:=hdx hd 2 (by kernel_rfl)
        refine wpOp_oneH rfl fun KK HKK =>?_
        clear hd
        rw[h2]
        have q0:=cell_later hb z0
        go_wp2
        exact HKK.out _ _ ⟨_,(by simp[upd,h2];done),Below.refl _ _,rfl⟩
       |4,_=>
        refine wpOp_oneH rfl fun KK HKK =>?_
        clear hd
        go_wp2
        exact HKK.out _ _ ⟨_,(by simp[upd];done),Below.refl _ _,rfl⟩
       |5,_=>
        refine wpOp_oneH rfl fun KK HKK =>?_
        clear hd
        go_wp2
        exact HKK.out _ _ ⟨_,(by simp[upd];done),Below.refl _ _,rfl⟩
       |6,_=>
        have h4:v 4=_:=hdx hd 4 (by kernel_rfl)
        have h5:v 5=_:=hdx hd 5 (by kernel_rfl)
        refine wpOp_oneH rfl fun KK HKK =>?_
        clear hd
        rw[h4,h5]
        have NX:=Hd (C6.out k WA wc VR rc w' (HW9.out.later hb) (HR9.out.later hb))
        go_wp2_with fail
        refine NX.out.mono ?_
        rintro e w'' ⟨Ax,cx,rfl,hB,b⟩
        go_wp2
        exact HKK.out _ _ ⟨_,(by simp[upd,h4,h5];done),b,Ax,cx,rfl,hB⟩
       |7,_=>
        have h1:v 1=_:=hdx hd 1 (by kernel_rfl)
        have h3:v 3=_:=hdx hd 3 (by kernel_rfl)
        obtain⟨A6,c6,h6,o6⟩:=hd 6 (List.elem_iff.1 (by kernel_rfl))
        refine wpOp_oneH rfl fun KK HKK =>?_
        clear hd
        rw[h1,h3,h6]
        have NX:=Hd (C7.out k X cx A6 c6 w' (below_on BW9.out hb) (HL9.out.later hb) o6)
        rw[HVK.out]at NX
        clear o6
        go_wp2_with fail
        refine NX.out.mono ?_
        rintro e w'' ⟨NS,NE,NB,NV,ns,ne,nb,nv,rfl,hNA,b⟩
        unfold noteCells
        dsimp only
        go_wp2
        exact HKK.out _ _ ⟨_,(by simp[upd,h1,h3,h6];done),b,⟨NS,NE,NB,NV,ns,ne,nb,nv,(PT k)⟩,rfl,rfl,hNA⟩
       |8,_=>
        obtain⟨zz7,h7,zn7,o7⟩:=hd 7 (List.elem_iff.1 (by kernel_rfl))
        refine wpOp_oneH rfl fun KK HKK =>?_
        clear hd
        rw[h7]
        have ZN:=Hd zn7
        clear zn7
        have bn:=below_new (Below.refl w'.heap.size w') (.cells #[.slice zz7.S zz7.n.s.length zz7.cs,.slice zz7.E zz7.n.e.length zz7.ce,.slice zz7.B zz7.n.b.length zz7.cb,.slice zz7.V zz7.n.ws.length zz7.cv] 40)
        have HBN:=Hd (Blk.new w' 40 #[.slice zz7.S zz7.n.s.length zz7.cs,.slice zz7.E zz7.n.e.length zz7.ce,.slice zz7.B zz7.n.b.length zz7.cb,.slice zz7.V zz7.n.ws.length zz7.cv])
        have HZN:=Hd (NoteAt.later o7 bn)
        have hsz:=(below_on BW9.out hb).size
        go_wp2
        exact HKK.out _ _ ⟨_,(by simp[upd,h7];done),bn,_,zz7,rfl,HBN.out,hsz,ZN.out,HZN.out⟩
       |k+9,hk=>exact absurd hk (by omega)
      case doneQ=>
       intro v w5 hb hf
       have h0:v 0=_:=hf 0 (by decide)
       have h1:v 1=_:=hf 1 (by decide)
       have h2:v 2=_:=hf 2 (by decide)
       have h3:v 3=_:=hf 3 (by decide)
       have h4:v 4=_:=hf 4 (by decide)
       have h5:v 5=_:=hf 5 (by decide)
       obtain⟨A6,c6,h6,o6⟩:=hf 6 (by decide)
       obtain⟨zz7,h7,zn7,o7⟩:=hf 7 (by decide)
       obtain⟨g8,zz8,h8,o8,m8,zn8,y8⟩:=hf 8 (by decide)
       clear hf
       rw[h0,h1,h2,h3,h4,h5,h6,h7,h8]
       clear V_0 V_1 V_2 V_3 V_4
       replace HV:=Hd (HV.out.later hb)
       have HB1:=Hd (below_on HBR.out hb)
       clear HBR
       clear hb
       have hbq:=HB1.out
       have HZ8:=Hd (And.intro y8 (And.intro zn8 (And.intro o8 m8)))
       have XN:=Hd (HN9'.out.later hbq)
       have XM:=Hd (map_later HM9.out hbq)
       have XV:=Hd (HV9.out.later hbq)
       have XWL:=Hd (HW9.out.later hbq)
       have XB:=Hd (below_on BW9.out hbq)
       have hwz:=XB.out.size
       clear hbq o6 o7 o8 m8 zn7 zn8 y8 z0
       have HNL:=Hd (show Lies w5 (some ⟨g8,0,none⟩) (Nl.cell zz8) from fun _=>⟨g8,0,rfl,fun j u hu=>by rw[Nat.zero_add];exact HZ8.out.2.2.1.cell (by simpa[Nl.cell] using hu)⟩)
       have hle:=HLE.out
       have hk2:=HZ256.out
       simp only[List.drop_succ_cons,List.drop_zero]
       go_wp2_with (at_builtin;refine Go.Proofs.YtjlfehpockfkdaaGreat.wpList_append_flat _ rfl _ _ 57 rfl w.heap.size 40 i0 (.agg #[.slice none 0 0,.slice none 0 0,.slice none 0 0,.slice none 0 0]) 4 96 Tryz.underlying57 hI0 hz0 hz1 hz2 rfl (by decide) rfl _ L.length (Nl.cells L) rfl XN.out.row XN.out.flat (some ⟨g8,0,none⟩) 1 1 (fun h=>by cases h) (Nl.cell zz8) rfl rfl HNL.out (by intro u hu;simp[Nl.cell]at hu;rcases hu with rfl|rfl|rfl|rfl<;>rfl) (by intro u hu;simp[Nl.cell]at hu;rcases hu with rfl|rfl|rfl|rfl<;>exact⟨rfl,rfl⟩) (Nl.cells_flat L) ?h63 ?hbytes hwz ?_)
       case h63=>unfold maxLen;omega
       case hbytes=>omega
       intro v' wz hownz hgz hfz hmz
       try rw[←hgg]at hownz
       obtain⟨gv,capv,rfl⟩:=ownsRow_succ hownz
       have hmo:∃o:Obj,w5.heap[mb]?=some o∧o.isCells=false:=by
        obtain⟨es,clock,hh,-⟩:=XM.out
        exact⟨_,hh,rfl⟩
       have hMz:=Vd.map_stays XM.out (hgz.block mb XM.out.lt (fun e=>by
        obtain⟨o,ho,hoc⟩:=hmo
        rcases XN.out.row.2 with ⟨hv,_⟩|⟨g3,cap,cur,hv,_,hB3,_⟩
        ·rw[hv]at e;cases e
        ·rw[hv]at e
         injection e with e
         have e:mb=g3:=e
         subst e
         rw[ho]at hB3
         cases hB3
         cases hoc))
       have hVz:Blk wz g 27 #[.slice K kn.length ck,.slice (some ⟨b,off,none⟩) zs.length cz,.slice H hs.length ch,.slice B bs.length cb,.int .i64 room]:=(hgz.block _ XV.out.lt (fun e=>own_other XN.out.row XV.out (by decide) _ e.symm rfl)).trans XV.out
       have hWz:OneL wz WA wc WL:=XWL.out.mild hmz
       have hBz:=XB.out.grown hgz XB.out.size (fun j e=>own_ge XN.out.row j e)
       have hNz:OwnNs wz w.heap.size 40 (.slice (some ⟨gv,0,none⟩) (L++[zz8]).length capv) (L++[zz8]):=⟨by rw[List.length_append,Nl.cells_append,show Nl.cells [zz8]=Nl.cell zz8 from List.append_nil _];exact hownz,by rw[List.length_append];exact hfz,fun z hz=>by
        rcases List.mem_append.1 hz with hz|hz
        ·exact NoteAt.mild (XN.out.each z hz) hmz
        ·rw[List.mem_singleton]at hz;subst hz;exact NoteAt.mild HZ8.out.1 hmz⟩
       have HQ:=Hd (And.intro hNz (And.intro hMz (And.intro hVz (And.intro hWz hBz))))
       have HLX:=Hd (show(L++[zz8]).map Nl.n=N0::OT (k+1) from by rw[List.map_append,HL.out,FL.out,List.map_cons,List.map_nil,HZ8.out.2.1];rfl)
       clear hownz hgz hfz hmz hmo hMz hVz hWz hBz hNz XN XM XV XWL XB HNL
       rw[List.length_append]at HQ
       go_wp2_with fail
       go_roundw
       case rel=>
        refine⟨k+1,_,_,L++[zz8],by omega,by go_num,HLX.out,HQ.out.1,HQ.out.2.1,by have:=HMM.out;omega,HD9.out,fun u hu =>?_,HQ.out.2.2.1,HQ.out.2.2.2.1,HQ.out.2.2.2.2⟩
        rw[HT9.out u hu,FT.out u,Bool.or_eq_true,decide_eq_true_eq]
        exact⟨fun h=>h.elim .inl (fun h =>.inr h.2),fun h=>h.elim .inl (fun h =>.inr ⟨hu,h⟩)⟩
       case measure=>simp[intOf];omega
end Go.Proofs.YtjlfehpockfkdaaGreat
namespace Go.Proofs.YtjlfehpockfkdaaGreat
open Go.RowKit Fb
def Vw.fold:Vw→List Note→Vw
 |v,[]=>v
 |v,n::r=>Vw.fold (Vw.takeR v n).1 r
def Vw.goes:Vw→List Note→Prop
 |_,[]=>True
 |v,n::r=>(Vw.takeR v n).2=0∧Vw.goes (Vw.takeR v n).1 r
theorem Vw.fold_at(v:Vw):∀(l:List Note) (k:Nat),k<l.length→Vw.fold v (l.take (k+1))=(Vw.takeR (Vw.fold v (l.take k)) (l.getD k zeroN)).1:=by
 intro l
 induction l generalizing v with
 |nil=>intro k h;cases h
 |cons n r ih=>
  intro k h
  cases k with
  |zero=>rfl
  |succ k=>
   have:=ih (Vw.takeR v n).1 k (by simpa using h)
   simpa[Vw.fold] using this
theorem Vw.goes_at{v:Vw}:∀{l:List Note},Vw.goes v l→∀k,k<l.length→(Vw.takeR (Vw.fold v (l.take k)) (l.getD k zeroN)).2=0:=by
 intro l
 induction l generalizing v with
 |nil=>intro _ k h;cases h
 |cons n r ih=>
  intro hg k h
  cases k with
  |zero=>exact hg.1
  |succ k=>
   have:=ih hg.2 k (by simpa using h)
   simpa[Vw.fold] using this
def GivesVwB(v:Vw)(b:Bool)(w:World)(e:Ending)(w':World):Prop:=∃q,e = .returned (.tuple #[.agg (vwCells q),.bool b])∧q.vw=v∧VwAt w' q∧Below w.heap.size w w'
def VwF(B:Nat)(t:TypeId)(kk:Nat→Value)(nx:Vw)(i:Nat)(v:Nat→Value)(wx:World):Prop:=match i with
 |0=>v 0=kk 0
 |1=>v 1=kk 1
 |2=>v 2=kk 2
 |3=>v 3=kk 3
 |4=>v 4=kk 4
 |5=>∃q,v 5 = .tuple #[.agg (vwCells q),.int .i64 0]∧q.vw=nx∧VwAt wx q
 |6=>∃q,v 6 = .tuple #[.agg (vwCells q),.int .i64 0]∧q.vw=nx∧VwAt wx q
 |7=>∃q,v 7 = .agg (vwCells q)∧q.vw=nx∧VwAt wx q
 |8=>v 8 = .int .i64 0
 |9=>∃g p,v 9 = .pointer (some ⟨g,0,none⟩)∧B≤g∧Blk wx g t (vwCells p)
 |10=>∃g q,v 9 = .pointer (some ⟨g,0,none⟩)∧B≤g∧Blk wx g t (vwCells q)∧q.vw=nx∧VwAt wx q
 |_=>True
section
variable {B:Nat} {t:TypeId} {kk:Nat→Value} {nx:Vw}
theorem VwF.later{i:Nat}{v:Nat→Value}{w w':World}(h:VwF B t kk nx i v w)(hb:Below w.heap.size w w'):VwF B t kk nx i v w':=by
 match i,h with
 |0,h=>exact h
 |1,h=>exact h
 |2,h=>exact h
 |3,h=>exact h
 |4,h=>exact h
 |5,⟨q,h1,h2,h3⟩=>exact⟨q,h1,h2,h3.later hb⟩
 |6,⟨q,h1,h2,h3⟩=>exact⟨q,h1,h2,h3.later hb⟩
 |7,⟨q,h1,h2,h3⟩=>exact⟨q,h1,h2,h3.later hb⟩
 |8,h=>exact h
 |9,⟨g,p,h1,h2,h3⟩=>exact⟨g,p,h1,h2,h3.later hb⟩
 |10,⟨g,q,h1,h2,h3,h4,h5⟩=>exact⟨g,q,h1,h2,h3.later hb,h4,h5.later hb⟩
 |i+11,_=>trivial
theorem VwF.loc{i k:Nat}{v:Nat→Value}{x:Value}{w:World}(hk:k≠i)(h8:i=10→k≠9)(h:VwF B t kk nx i v w):VwF B t kk nx i (upd v k x) w:=by
 have e:∀j,k≠j→upd v k x j=v j:=fun j hj=>upd_other v k x (fun e=>hj e.symm)
 match i,hk,h8,h with
 |0,hk,_,h=>unfold VwF at h ⊢;simp only[e 0 hk];exact h
 |1,hk,_,h=>unfold VwF at h ⊢;simp only[e 1 hk];exact h
 |2,hk,_,h=>unfold VwF at h ⊢;simp only[e 2 hk];exact h
 |3,hk,_,h=>unfold VwF at h ⊢;simp only[e 3 hk];exact h
 |4,hk,_,h=>unfold VwF at h ⊢;simp only[e 4 hk];exact h
 |5,hk,_,h=>unfold VwF at h ⊢;simp only[e 5 hk];exact h
 |6,hk,_,h=>unfold VwF at h ⊢;simp only[e 6 hk];exact h
 |7,hk,_,h=>unfold VwF at h ⊢;simp only[e 7 hk];exact h
 |8,hk,_,h=>unfold VwF at h ⊢;simp only[e 8 hk];exact h
 |9,hk,_,h=>unfold VwF at h ⊢;simp only[e 9 hk];exact h
 |10,_,h8,h=>unfold VwF at h ⊢;simp only[e 9 (h8 rfl)];exact h
 |i+11,_,_,_=>trivial
theorem VwF.store{v:Nat→Value}{w:World}{g:Nat}{p q:Vl}(hv:v 9 = .pointer (some ⟨g,0,none⟩))(hg:B≤g)(hb:Blk w g t (vwCells p))(hq:q.vw=nx)(hV:VwAt w q) :
  Below B w (((((w.setCell ⟨g,0,none⟩ (.slice q.K q.k.length q.ck)).setCell ⟨g,1,none⟩ (.slice q.Z q.z.length q.cz)).setCell ⟨g,2,none⟩ (.slice q.H q.h.length q.ch)).setCell ⟨g,3,none⟩ (.slice q.B q.b.length q.cb)).setCell ⟨g,4,none⟩ (.int .i64 q.r)) ∧
  (∀x,VwF B t kk nx 10 (upd v 10 x) (((((w.setCell ⟨g,0,none⟩ (.slice q.K q.k.length q.ck)).setCell ⟨g,1,none⟩ (.slice q.Z q.z.length q.cz)).setCell ⟨g,2,none⟩ (.slice q.H q.h.length q.ch)).setCell ⟨g,3,none⟩ (.slice q.B q.b.length q.cb)).setCell ⟨g,4,none⟩ (.int .i64 q.r))) ∧
  ∀j,j<11→j≠10→VwF B t kk nx j v w→VwF B t kk nx j v (((((w.setCell ⟨g,0,none⟩ (.slice q.K q.k.length q.ck)).setCell ⟨g,1,none⟩ (.slice q.Z q.z.length q.cz)).setCell ⟨g,2,none⟩ (.slice q.H q.h.length q.ch)).setCell ⟨g,3,none⟩ (.slice q.B q.b.length q.cb)).setCell ⟨g,4,none⟩ (.int .i64 q.r)):=by
 have hp:∀q2:Vl,VwAt w q2→VwAt (((((w.setCell ⟨g,0,none⟩ (.slice q.K q.k.length q.ck)).setCell ⟨g,1,none⟩ (.slice q.Z q.z.length q.cz)).setCell ⟨g,2,none⟩ (.slice q.H q.h.length q.ch)).setCell ⟨g,3,none⟩ (.slice q.B q.b.length q.cb)).setCell ⟨g,4,none⟩ (.int .i64 q.r)) q2:=fun q2 h2=>h2.puts hb (by simp[dull,dullL,headInt,int_slice,byte_slice,int_i64,byte_i64]) ⟨rfl,rfl,rfl,rfl,rfl⟩
 have hB:Blk (((((w.setCell ⟨g,0,none⟩ (.slice q.K q.k.length q.ck)).setCell ⟨g,1,none⟩ (.slice q.Z q.z.length q.cz)).setCell ⟨g,2,none⟩ (.slice q.H q.h.length q.ch)).setCell ⟨g,3,none⟩ (.slice q.B q.b.length q.cb)).setCell ⟨g,4,none⟩ (.int .i64 q.r)) g t (vwCells q):=((((hb.put 0 _).put 1 _).put 2 _).put 3 _).put 4 _
 have hbl:Below B w (((((w.setCell ⟨g,0,none⟩ (.slice q.K q.k.length q.ck)).setCell ⟨g,1,none⟩ (.slice q.Z q.z.length q.cz)).setCell ⟨g,2,none⟩ (.slice q.H q.h.length q.ch)).setCell ⟨g,3,none⟩ (.slice q.B q.b.length q.cb)).setCell ⟨g,4,none⟩ (.int .i64 q.r)):=(((((Below.refl B w).setCell (p:=⟨g,0,none⟩) hg _).setCell (p:=⟨g,1,none⟩) hg _).setCell (p:=⟨g,2,none⟩) hg _).setCell (p:=⟨g,3,none⟩) hg _).setCell (p:=⟨g,4,none⟩) hg _
 obtain⟨w9,hw9⟩:∃x,(((((w.setCell ⟨g,0,none⟩ (.slice q.K q.k.length q.ck)).setCell ⟨g,1,none⟩ (.slice q.Z q.z.length q.cz)).setCell ⟨g,2,none⟩ (.slice q.H q.h.length q.ch)).setCell ⟨g,3,none⟩ (.slice q.B q.b.length q.cb)).setCell ⟨g,4,none⟩ (.int .i64 q.r))=x:=⟨_,rfl⟩
 rw[hw9]at hp hB hbl ⊢
 clear hw9 hb
 refine⟨hbl,fun x=>⟨g,q,(upd_other v 10 x (by decide)).trans hv,hg,hB,hq,hp q hV⟩,fun j hj hne h =>?_⟩
 match j,hj,hne,h with
 |0,_,_,h=>exact h
 |1,_,_,h=>exact h
 |2,_,_,h=>exact h
 |3,_,_,h=>exact h
 |4,_,_,h=>exact h
 |5,_,_,⟨q2,h1,h2,h3⟩=>exact⟨q2,h1,h2,hp q2 h3⟩
 |6,_,_,⟨q2,h1,h2,h3⟩=>exact⟨q2,h1,h2,hp q2 h3⟩
 |7,_,_,⟨q2,h1,h2,h3⟩=>exact⟨q2,h1,h2,hp q2 h3⟩
 |8,_,_,h=>exact h
 |9,_,_,_=>exact⟨g,q,hv,hg,hB⟩
 |10,_,hne,_=>exact absurd rfl hne
end
theorem OneN.farN{w:World}{A:Option Addr}{c:Nat}{l:List Note}{g:Nat}{t:TypeId}{ds:Array Value}(h:OneN w A c l)(hA:∀b off,A=some ⟨b,off,none⟩→b≠g)(hB:Blk w g t ds)(hd:dull ds=true)(i:Nat)(v:Value):OneN (w.setCell ⟨g,i,none⟩ v) A c l:=by
 refine⟨h.le,h.cap,h.noA,fun hne =>?_⟩
 obtain⟨b,off,hA2,hc⟩:=h.lies hne
 have hb:=hA b off hA2
 have hs:∀j,(w.setCell ⟨g,i,none⟩ v).cell? ⟨b,j,none⟩=w.cell? ⟨b,j,none⟩:=fun j=>World.cell?_of_block (Below.heap_setCell w ⟨g,i,none⟩ v b hb)
 refine⟨b,off,hA2,fun k hk =>?_⟩
 obtain⟨S,E,B,V,cs,ce,cb,cv,h0,h1,h2,h3,h4⟩:=hc k hk
 exact⟨S,E,B,V,cs,ce,cb,cv,(hs _).trans h0,(hs _).trans h1,(hs _).trans h2,(hs _).trans h3,h4.mild (Mild.put hB hd i v)⟩
set_option maxRecDepth 100000 in
set_option maxHeartbeats 6400000 in
theorem summed_any(S:ViewSum)(q p:Vl)(I:Option Addr)(ci:Nat)(it:List (Int × Int))(w:World)(h:VwAt w q)(h2:VwAt w p)(hi:OneL w I ci it)(h0:(Vw.sumR p.vw it).2=0)(h1:(Vw.sumR p.vw it).1≠[])(hg:Vw.goes q.vw (Vw.sumR p.vw it).1) :
  Calls Tryz.prog 34 #[.agg (vwCells q),.agg (vwCells p),.slice I it.length ci] w (GivesVwB (Vw.fold q.vw (Vw.sumR p.vw it).1) true w):=by
 have SS:=Hd S
 have HVQ:=Hd (fun wx (hb:Below w.heap.size w wx)=>h.later hb)
 have HVP:=Hd (fun wx (hb:Below w.heap.size w wx)=>h2.later hb)
 have HI:=Hd (fun wx (hb:Below w.heap.size w wx)=>hi.later hb)
 obtain⟨⟨sl,se⟩,hsu⟩:∃p9,Vw.sumR p.vw it=p9:=⟨_,rfl⟩
 rw[hsu]at h0 h1 hg
 rw[hsu]
 dsimp only at h0 h1 hg ⊢
 subst h0
 obtain⟨qv,hqv⟩:∃v,q.vw=v:=⟨_,rfl⟩
 rw[hqv]at hg
 rw[hqv]
 have hne:0<sl.length:=List.length_pos_iff.2 h1
 have HSU:=Hd hsu
 have HQV:=Hd hqv
 have HGO:=Hd hg
 have HNE:=Hd hne
 clear S h h2 hi h1 hg hsu hqv hne
 obtain⟨K,ck,kn,Z,cz,zs,H,ch,hs,B,cb,bs,room⟩:=q
 obtain⟨K1,ck1,k1,Z1,cz1,z1,H1,ch1,h1,B1,cb1,b1,r1⟩:=p
 unfold vwCells
 dsimp only
 have hb0:=below_new (below_new (below_new (Below.refl w.heap.size w) (.cells #[.slice K kn.length ck,.slice Z zs.length cz,.slice H hs.length ch,.slice B bs.length cb,.int .i64 room] 27)) (.cells #[.slice K1 k1.length ck1,.slice Z1 z1.length cz1,.slice H1 h1.length ch1,.slice B1 b1.length cb1,.int .i64 r1] 27)) (.cells #[.slice none 0 0,.slice none 0 0,.slice none 0 0,.slice none 0 0,.int .i64 0] 27)
 have hX:=((Blk.new w 27 #[.slice K kn.length ck,.slice Z zs.length cz,.slice H hs.length ch,.slice B bs.length cb,.int .i64 room]).alloc (.cells #[.slice K1 k1.length ck1,.slice Z1 z1.length cz1,.slice H1 h1.length ch1,.slice B1 b1.length cb1,.int .i64 r1] 27)).alloc (.cells #[.slice none 0 0,.slice none 0 0,.slice none 0 0,.slice none 0 0,.int .i64 0] 27)
 have hY:=(Blk.new (w.alloc (.cells #[.slice K kn.length ck,.slice Z zs.length cz,.slice H hs.length ch,.slice B bs.length cb,.int .i64 room] 27)) 27 #[.slice K1 k1.length ck1,.slice Z1 z1.length cz1,.slice H1 h1.length ch1,.slice B1 b1.length cb1,.int .i64 r1]).alloc (.cells #[.slice none 0 0,.slice none 0 0,.slice none 0 0,.slice none 0 0,.int .i64 0] 27)
 simp only[World.size_alloc]at hY
 have hR:=Blk.new ((w.alloc (.cells #[.slice K kn.length ck,.slice Z zs.length cz,.slice H hs.length ch,.slice B bs.length cb,.int .i64 room] 27)).alloc (.cells #[.slice K1 k1.length ck1,.slice Z1 z1.length cz1,.slice H1 h1.length ch1,.slice B1 b1.length cb1,.int .i64 r1] 27)) 27 #[.slice none 0 0,.slice none 0 0,.slice none 0 0,.slice none 0 0,.int .i64 0]
 simp only[World.size_alloc]at hR
 obtain⟨W,hW⟩:∃W,((w.alloc (.cells #[.slice K kn.length ck,.slice Z zs.length cz,.slice H hs.length ch,.slice B bs.length cb,.int .i64 room] 27)).alloc (.cells #[.slice K1 k1.length ck1,.slice Z1 z1.length cz1,.slice H1 h1.length ch1,.slice B1 b1.length cb1,.int .i64 r1] 27)).alloc (.cells #[.slice none 0 0,.slice none 0 0,.slice none 0 0,.slice none 0 0,.int .i64 0] 27)=W:=⟨_,rfl⟩
 rw[hW]at hb0 hX hY hR
 have HW:=Hd hW
 obtain⟨g,hgg⟩:∃g,w.heap.size=g:=⟨_,rfl⟩
 rw[hgg]at hX hY hR
 have HX:=Hd (show Blk W (g) 27 #[.slice K kn.length ck,.slice Z zs.length cz,.slice H hs.length ch,.slice B bs.length cb,.int .i64 room] from hX)
 have HY:=Hd (show Blk W (g+1) 27 #[.slice K1 k1.length ck1,.slice Z1 z1.length cz1,.slice H1 h1.length ch1,.slice B1 b1.length cb1,.int .i64 r1] from hY)
 have HR:=Hd (show Blk W (g+2) 27 #[.slice none 0 0,.slice none 0 0,.slice none 0 0,.slice none 0 0,.int .i64 0] from hR)
 have HB0:=Hd hb0
 clear hW hb0 hX hY hR
 go_enter Tryz.func34,Tryz.ntmps34
 go_upto_region 1 with (fail)
 rw[HW.out]
 clear HW
 have HLT:=Hd HR.out.lt
 have Y_0:=HY.out.cell (i:=0) rfl
 have Y_1:=HY.out.cell (i:=1) rfl
 have Y_2:=HY.out.cell (i:=2) rfl
 have Y_3:=HY.out.cell (i:=3) rfl
 have Y_4:=HY.out.cell (i:=4) rfl
 go_wp2_with fail
 refine((show Calls Tryz.prog 30 #[.agg #[.slice K1 k1.length ck1,.slice Z1 z1.length cz1,.slice H1 h1.length ch1,.slice B1 b1.length cb1,.int .i64 r1],.slice I it.length ci] W (GivesNE sl 0 W) from by have n:=SS.out.sum ⟨K1,ck1,k1,Z1,cz1,z1,H1,ch1,h1,B1,cb1,b1,r1⟩ I ci it W (HVP.out _ HB0.out) (HI.out _ HB0.out);rw[HSU.out]at n;exact n)).mono ?_
 rintro e w1 ⟨A3,c3,rfl,hN3,hF3,b1⟩
 clear Y_0 Y_1 Y_2 Y_3 Y_4
 replace HX:=Hd (HX.out.later b1)
 replace HY:=Hd (HY.out.later b1)
 replace HR:=Hd (HR.out.later b1)
 have HB1:=Hd (below_on HB0.out b1)
 clear HB0
 clear b1
 have X3:=Hd hN3
 have HF3:=Hd (show ∀b off,A3=some ⟨b,off,none⟩→g+2<b from fun b off e=>Nat.lt_of_lt_of_le HLT.out (hF3 b off e))
 clear hN3 hF3
 have hq0:=HVQ.out _ HB1.out
 have XQ:=Hd hq0
 clear hq0
 have hl0:((sl.length:Int) == 0)=false:=by rw[beq_eq_false_iff_ne];have:=HNE.out;omega
 go_wp2_with fail
 clear hl0
 go_loopw [10] (fun s10 wr=>∃(k:Nat) (p:Vl),k≤sl.length∧s10 = .int .i64 (k:Int)∧p.vw=Vw.fold qv (sl.take k)∧VwAt wr p∧Blk wr (g) 27 (vwCells p)∧Blk wr (g+2) 27 #[.slice none 0 0,.slice none 0 0,.slice none 0 0,.slice none 0 0,.int .i64 0]∧OneN wr A3 c3 sl∧Below w.heap.size w wr) (fun s10 _=>sl.length-(intOf s10).toNat)
 case atStart=>exact⟨0,⟨K,ck,kn,Z,cz,zs,H,ch,hs,B,cb,bs,room⟩,Nat.zero_le _,rfl,HQV.out,XQ.out,HX.out,HR.out,X3.out,HB1.out⟩
 case round=>
  clear HX HY HR X3 XQ HB1
  obtain⟨k,p,hk,rfl,hp,hV,hX,hR,hN,hbw⟩:=hrel
  obtain⟨K5,ck5,k5,Z5,cz5,z5,H5,ch5,h5,B5,cb5,b5,r5⟩:=p
  unfold vwCells at hX
  dsimp only at hX
  have HPK:=Hd hp
  have XV:=Hd hV
  have HX:=Hd hX
  have HR:=Hd hR
  have X3:=Hd hN
  have HBW:=Hd hbw
  clear hp hV hX hR hN hbw
  have hlen:=X3.out.len
  by_cases hlt:k<sl.length
  ·
   have hi0:(0:Int)≤(k:Int):=by omega
   have hi1:(k:Int)<(sl.length:Int):=by omega
   obtain⟨b,off,hA,hcs⟩:=X3.out.lies (fun h=>by rw[h]at hlt;exact absurd hlt (Nat.not_lt_zero _))
   obtain⟨S,E,P,U,cs,ce,cp,cu,e0,e1,e2,e3,hn⟩:=hcs k hlt
   have hgo:=Vw.goes_at HGO.out k hlt
   have hfo:=Vw.fold_at qv sl k hlt
   obtain⟨xn,hxn⟩:∃n,sl.getD k zeroN=n:=⟨_,rfl⟩
   rw[hxn]at e0 e1 e2 e3 hn hgo hfo
   obtain⟨fv,hfv⟩:∃v,Vw.fold qv (sl.take k)=v:=⟨_,rfl⟩
   rw[hfv]at hgo hfo
   obtain⟨⟨nx,nk⟩,hnx⟩:∃t,Vw.takeR fv xn=t:=⟨_,rfl⟩
   rw[hnx]at hgo hfo
   dsimp only at hgo hfo
   subst hgo
   have HFO:=Hd hfo
   have hgb:=HF3.out b off hA
   have hbl:b<wr.heap.size:=by rcases Nat.lt_or_ge b wr.heap.size with h3|h3;exact h3;simp[World.cell?,Array.getElem?_eq_none h3]at e0
   have TK:=Hd (fun wx (hbx:Below wr.heap.size wr wx)=>show Calls Tryz.prog 22 #[.agg #[.slice K5 k5.length ck5,.slice Z5 z5.length cz5,.slice H5 h5.length ch5,.slice B5 b5.length cb5,.int .i64 r5],.agg #[.slice S xn.s.length cs,.slice E xn.e.length ce,.slice P xn.b.length cp,.slice U xn.ws.length cu]] wx (GivesVwE nx 0 wx) from by have n:=SS.out.take ⟨K5,ck5,k5,Z5,cz5,z5,H5,ch5,h5,B5,cb5,b5,r5⟩ S E P U cs ce cp cu xn wx (XV.out.later hbx) (hn.later hbx);rw[HPK.out,hfv,hnx]at n;exact n)
   have HGB:=Hd (And.intro hgb hbl)
   subst hA
   clear hcs hn hfo hfv hnx hxn hgb hbl HPK XV
   have HGR:=Hd HX.out.lt
   have HGR2:=Hd HR.out.lt
   have X_0:=HX.out.cell (i:=0) rfl
   have X_1:=HX.out.cell (i:=1) rfl
   have X_2:=HX.out.cell (i:=2) rfl
   have X_3:=HX.out.cell (i:=3) rfl
   have X_4:=HX.out.cell (i:=4) rfl
   go_upto_region 7 with (fail)
   refine wp_region_facts3 11 (by kernel_rfl) (by kernel_rfl)
    (fun v=>{ tmps:=#[.agg #[.slice K kn.length ck,.slice Z zs.length cz,.slice H hs.length ch,.slice B bs.length cb,.int .i64 room],.agg #[.slice K1 k1.length ck1,.slice Z1 z1.length cz1,.slice H1 h1.length ch1,.slice B1 b1.length cb1,.int .i64 r1],.slice I it.length ci,.pointer (some ⟨g,0,none⟩),.pointer (some ⟨g+1,0,none⟩),undef,.pointer (some ⟨g+1+1,0,none⟩),u7,.slice (some ⟨b,off,none⟩) sl.length c3,.int .i64 0,.int .i64 (k:Int),v 9,u12,.tuple #[.slice (some ⟨b,off,none⟩) sl.length c3,.int .i64 0],.agg #[.slice K1 k1.length ck1,.slice Z1 z1.length cz1,.slice H1 h1.length ch1,.slice B1 b1.length cb1,.int .i64 r1],.slice I it.length ci,.tuple #[.slice (some ⟨b,off,none⟩) sl.length c3,.int .i64 0],.slice (some ⟨b,off,none⟩) sl.length c3,.int .i64 0,.int .i64 0,.bool false,.bool false,.slice (some ⟨b,off,none⟩) sl.length c3,.int .i64 (sl.length:Int),.bool false,.bool false,undef,.int .i64 (k:Int),.slice (some ⟨b,off,none⟩) sl.length c3,.int .i64 (sl.length:Int),.bool true,u31,u32,v 6,v 0,v 1,v 2,v 3,v 4,v 5,v 7,v 8,u42,u43,u44,u45,undef],defers:=[] }) (fun i=>match i with|0=>u34|1=>u35|2=>u36|3=>u37|4=>u38|5=>u39|6=>u33|7=>u40|8=>u41|9=>u11|_=>undef)
    (VwF wr.heap.size 27 (fun i=>match i with|0 =>.agg #[.slice K5 k5.length ck5,.slice Z5 z5.length cz5,.slice H5 h5.length ch5,.slice B5 b5.length cb5,.int .i64 r5]|1 =>.slice (some ⟨b,off,none⟩) sl.length c3|2 =>.int .i64 (k:Int)|3 =>.pointer (some ⟨b,off+k*4,none⟩)|4 =>.agg #[.slice S xn.s.length cs,.slice E xn.e.length ce,.slice P xn.b.length cp,.slice U xn.ws.length cu]|_=>undef) nx)
    (fun w1 w2=>Below wr.heap.size w1 w2) (fun h1 h2=>h1.trans h2) (fun _=>Below.refl _ _) (Below.drew (Below.refl _ _)) ?loc ?step ?done
   case loc=>
    intro i k9 v x wx hk9 hd h
    exact VwF.loc hk9 (fun e h8=>by subst e;subst h8;exact hd (List.elem_iff.1 (by kernel_rfl))) h
   case step=>
    intro i hi v w' hb hd
    match i,hi with
    |0,_=>
     refine wpOp_oneH rfl fun KK HKK =>?_
     clear hd
     have q0:=cell_later hb X_0
     have q1:=cell_later hb X_1
     have q2:=cell_later hb X_2
     have q3:=cell_later hb X_3
     have q4:=cell_later hb X_4
     go_wp2
     exact HKK.out _ _ ⟨_,(by simp[upd];done),Below.refl _ _,rfl,fun _ _ _ h=>h⟩
    |1,_=>
     refine wpOp_oneH rfl fun KK HKK =>?_
     clear hd
     go_wp2
     exact HKK.out _ _ ⟨_,(by simp[upd];done),Below.refl _ _,rfl,fun _ _ _ h=>h⟩
    |2,_=>
     refine wpOp_oneH rfl fun KK HKK =>?_
     clear hd
     go_wp2
     exact HKK.out _ _ ⟨_,(by simp[upd];done),Below.refl _ _,rfl,fun _ _ _ h=>h⟩
    |3,_=>
     have h1:v 1 = .slice (some ⟨b,off,none⟩) sl.length c3:=hd 1 (List.elem_iff.1 (by kernel_rfl))
     have h2:v 2 = .int .i64 (k:Int):=hd 2 (List.elem_iff.1 (by kernel_rfl))
     refine wpOp_oneH rfl fun KK HKK =>?_
     clear hd
     rw[h1,h2]
     go_wp2
     exact HKK.out _ _ ⟨_,(by simp[upd,h1,h2];done),Below.refl _ _,rfl,fun _ _ _ h=>h⟩
    |4,_=>
     have h3:v 3 = .pointer (some ⟨b,off+k*4,none⟩):=hd 3 (List.elem_iff.1 (by kernel_rfl))
     refine wpOp_oneH rfl fun KK HKK =>?_
     clear hd
     have q0:=cell_later hb e0
     have q1:=cell_later hb e1
     have q2:=cell_later hb e2
     have q3:=cell_later hb e3
     rw[h3]
     go_wp2
     exact HKK.out _ _ ⟨_,(by simp[upd,h3];done),Below.refl _ _,rfl,fun _ _ _ h=>h⟩
    |5,_=>
     have h0:v 0 = .agg #[.slice K5 k5.length ck5,.slice Z5 z5.length cz5,.slice H5 h5.length ch5,.slice B5 b5.length cb5,.int .i64 r5]:=hd 0 (List.elem_iff.1 (by kernel_rfl))
     have h4:v 4 = .agg #[.slice S xn.s.length cs,.slice E xn.e.length ce,.slice P xn.b.length cp,.slice U xn.ws.length cu]:=hd 4 (List.elem_iff.1 (by kernel_rfl))
     refine wpOp_oneH rfl fun KK HKK =>?_
     clear hd
     rw[h0,h4]
     go_wp2_with fail
     refine(TK.out _ hb).mono ?_
     rintro e w'' ⟨⟨p1,q2,q1,p3,q5,q4,p6,q8,q7,p9,q11,q10,q12⟩,rfl,hq,hV,bV⟩
     unfold vwCells
     dsimp only
     go_wp2
     exact HKK.out _ _ ⟨_,(by simp[upd,h0,h4,vwCells];done),bV.mono hb.size,⟨⟨p1,q2,q1,p3,q5,q4,p6,q8,q7,p9,q11,q10,q12⟩,rfl,hq,hV⟩,fun _ _ _ h=>h.later bV⟩
    |6,_=>
     obtain⟨⟨p1,q2,q1,p3,q5,q4,p6,q8,q7,p9,q11,q10,q12⟩,h5,m5,o5⟩:=hd 5 (List.elem_iff.1 (by kernel_rfl))
     have h5:v 5 = .tuple #[.agg #[.slice p1 q1.length q2,.slice p3 q4.length q5,.slice p6 q7.length q8,.slice p9 q10.length q11,.int .i64 q12],.int .i64 0]:=h5
     refine wpOp_oneH rfl fun KK HKK =>?_
     clear hd
     rw[h5]
     go_wp2
     exact HKK.out _ _ ⟨_,(by simp[upd,h5,vwCells];done),Below.refl _ _,⟨⟨p1,q2,q1,p3,q5,q4,p6,q8,q7,p9,q11,q10,q12⟩,rfl,m5,o5⟩,fun _ _ _ h=>h⟩
    |7,_=>
     obtain⟨⟨p1,q2,q1,p3,q5,q4,p6,q8,q7,p9,q11,q10,q12⟩,h6,m6,o6⟩:=hd 6 (List.elem_iff.1 (by kernel_rfl))
     have h6:v 6 = .tuple #[.agg #[.slice p1 q1.length q2,.slice p3 q4.length q5,.slice p6 q7.length q8,.slice p9 q10.length q11,.int .i64 q12],.int .i64 0]:=h6
     refine wpOp_oneH rfl fun KK HKK =>?_
     clear hd
     rw[h6]
     go_wp2
     exact HKK.out _ _ ⟨_,(by simp[upd,h6,vwCells];done),Below.refl _ _,⟨⟨p1,q2,q1,p3,q5,q4,p6,q8,q7,p9,q11,q10,q12⟩,rfl,m6,o6⟩,fun _ _ _ h=>h⟩
    |8,_=>
     obtain⟨⟨p1,q2,q1,p3,q5,q4,p6,q8,q7,p9,q11,q10,q12⟩,h6,m6,o6⟩:=hd 6 (List.elem_iff.1 (by kernel_rfl))
     have h6:v 6 = .tuple #[.agg #[.slice p1 q1.length q2,.slice p3 q4.length q5,.slice p6 q7.length q8,.slice p9 q10.length q11,.int .i64 q12],.int .i64 0]:=h6
     refine wpOp_oneH rfl fun KK HKK =>?_
     clear hd
     rw[h6]
     go_wp2
     exact HKK.out _ _ ⟨_,(by simp[upd,h6];done),Below.refl _ _,rfl,fun _ _ _ h=>h⟩
    |9,_=>
     refine wpOp_oneH rfl fun KK HKK =>?_
     clear hd
     go_wp2
     exact HKK.out _ _ ⟨_,(by simp[upd];done),(below_new (Below.refl w'.heap.size w') (.cells #[.slice none 0 0,.slice none 0 0,.slice none 0 0,.slice none 0 0,.int .i64 0] 27)).mono hb.size,⟨w'.heap.size,Vl.none,rfl,hb.size,Blk.new _ _ _⟩,fun _ _ _ h=>h.later (below_new (Below.refl w'.heap.size w') (.cells #[.slice none 0 0,.slice none 0 0,.slice none 0 0,.slice none 0 0,.int .i64 0] 27))⟩
    |10,_=>
     obtain⟨⟨p1,q2,q1,p3,q5,q4,p6,q8,q7,p9,q11,q10,q12⟩,h7,m7,o7⟩:=hd 7 (List.elem_iff.1 (by kernel_rfl))
     have h7:v 7 = .agg #[.slice p1 q1.length q2,.slice p3 q4.length q5,.slice p6 q7.length q8,.slice p9 q10.length q11,.int .i64 q12]:=h7
     obtain⟨g9,y9,h9,l9,o9⟩:=hd 9 (List.elem_iff.1 (by kernel_rfl))
     refine wpOp_oneH rfl fun KK HKK =>?_
     clear hd
     rw[h7,h9]
     have FIN:=Hd (fun kk9=>VwF.store (B:=wr.heap.size) (kk:=kk9) (p:=y9) h9 l9 o9 m7 o7)
     obtain⟨K8,ck8,k8,Z8,cz8,z8,H8,ch8,h8,B8,cb8,b8,r8⟩:=y9
     unfold vwCells at o9
     dsimp only at o9
     have z0':=o9.cell (i:=0) rfl
     have z1':=o9.cell (i:=1) rfl
     have z2':=o9.cell (i:=2) rfl
     have z3':=o9.cell (i:=3) rfl
     have z4':=o9.cell (i:=4) rfl
     have u0':=o9.free 0
     have u1':=o9.free 1
     have u2':=o9.free 2
     have u3':=o9.free 3
     have u4':=o9.free 4
     go_wp2
     exact HKK.out _ _ ⟨undef,(by simp[upd,h7,h9];done),(FIN.out (fun _=>undef)).1,(FIN.out _).2.1 undef,(FIN.out _).2.2⟩
   case done=>
    intro v w' hb hf
    have h8:v 8 = .int .i64 0:=hf 8 (by omega)
    obtain⟨g9,q7,h9,m9,o9,m7,o7⟩:=hf 10 (by omega)
    clear hf
    simp only[List.drop_succ_cons,List.drop_zero]
    rw[h8,h9]
    clear X_0 X_1 X_2 X_3 X_4
    replace HX:=Hd (HX.out.later hb)
    replace HR:=Hd (HR.out.later hb)
    replace X3:=Hd (X3.out.later hb)
    have HB2:=Hd (below_on HBW.out hb)
    clear HBW
    clear hb
    obtain⟨K6,ck6,k6,Z6,cz6,z6,H6,ch6,h6,B6,cb6,b6,r6⟩:=q7
    have HQ6:=Hd m7
    have XV6:=Hd o7
    unfold vwCells at o9
    dsimp only at o9
    have HT:=Hd o9
    clear m7 o7 o9 e0 e1 e2 e3
    have hgb:=HGB.out.1
    have hbl:=HGB.out.2
    have hgr:=HGR.out
    have hgr2:=HGR2.out
    have T_0:=HT.out.cell (i:=0) rfl
    have T_1:=HT.out.cell (i:=1) rfl
    have T_2:=HT.out.cell (i:=2) rfl
    have T_3:=HT.out.cell (i:=3) rfl
    have T_4:=HT.out.cell (i:=4) rfl
    have X_0:=HX.out.cell (i:=0) rfl
    have X_1:=HX.out.cell (i:=1) rfl
    have X_2:=HX.out.cell (i:=2) rfl
    have X_3:=HX.out.cell (i:=3) rfl
    have X_4:=HX.out.cell (i:=4) rfl
    have X_f0:=HX.out.free 0
    have X_f1:=HX.out.free 1
    have X_f2:=HX.out.free 2
    have X_f3:=HX.out.free 3
    have X_f4:=HX.out.free 4
    go_upto_region 6 with (fail)
    clear T_0 T_1 T_2 T_3 T_4 X_0 X_1 X_2 X_3 X_4 X_f0 X_f1 X_f2 X_f3 X_f4
    obtain⟨w3,hw3⟩:∃x,w'.setCell ⟨g,0,none⟩ (.slice K6 k6.length ck6)=x:=⟨_,rfl⟩
    have t_X3:=X3.out.farN (by intro b' off' e;injection e with e;injection e with e;omega) HX.out rfl 0 (.slice K6 k6.length ck6)
    have t_XV6:=XV6.out.far HX.out rfl 0 (.slice K6 k6.length ck6)
    have t_HR:=HR.out.far (p:=⟨g,0,none⟩) (by show g+2≠g;omega) (.slice K6 k6.length ck6)
    have t_HT:=HT.out.far (p:=⟨g,0,none⟩) (by show g9≠g;omega) (.slice K6 k6.length ck6)
    have t_HX:Blk (w'.setCell ⟨g,0,none⟩ (.slice K6 k6.length ck6)) (g) 27 #[.slice K6 k6.length ck6,.slice Z5 z5.length cz5,.slice H5 h5.length ch5,.slice B5 b5.length cb5,.int .i64 r5]:=HX.out.put 0 (.slice K6 k6.length ck6)
    have t_HB3:=HB2.out.setCell (p:=⟨g,0,none⟩) (by show w.heap.size≤g;omega) (.slice K6 k6.length ck6)
    rw[hw3]at t_X3 t_XV6 t_HR t_HT t_HX t_HB3
    rw[hw3]
    replace X3:=Hd t_X3
    replace XV6:=Hd t_XV6
    replace HR:=Hd t_HR
    replace HT:=Hd t_HT
    replace HX:=Hd t_HX
    have HB3:=Hd t_HB3
    clear t_X3 t_XV6 t_HR t_HT t_HX t_HB3 hw3 HB2
    obtain⟨w4,hw4⟩:∃x,w3.setCell ⟨g,1,none⟩ (.slice Z6 z6.length cz6)=x:=⟨_,rfl⟩
    have t_X3:=X3.out.farN (by intro b' off' e;injection e with e;injection e with e;omega) HX.out rfl 1 (.slice Z6 z6.length cz6)
    have t_XV6:=XV6.out.far HX.out rfl 1 (.slice Z6 z6.length cz6)
    have t_HR:=HR.out.far (p:=⟨g,1,none⟩) (by show g+2≠g;omega) (.slice Z6 z6.length cz6)
    have t_HT:=HT.out.far (p:=⟨g,1,none⟩) (by show g9≠g;omega) (.slice Z6 z6.length cz6)
    have t_HX:Blk (w3.setCell ⟨g,1,none⟩ (.slice Z6 z6.length cz6)) (g) 27 #[.slice K6 k6.length ck6,.slice Z6 z6.length cz6,.slice H5 h5.length ch5,.slice B5 b5.length cb5,.int .i64 r5]:=HX.out.put 1 (.slice Z6 z6.length cz6)
    have t_HB4:=HB3.out.setCell (p:=⟨g,1,none⟩) (by show w.heap.size≤g;omega) (.slice Z6 z6.length cz6)
    rw[hw4]at t_X3 t_XV6 t_HR t_HT t_HX t_HB4
    rw[hw4]
    replace X3:=Hd t_X3
    replace XV6:=Hd t_XV6
    replace HR:=Hd t_HR
    replace HT:=Hd t_HT
    replace HX:=Hd t_HX
    have HB4:=Hd t_HB4
    clear t_X3 t_XV6 t_HR t_HT t_HX t_HB4 hw4 HB3
    obtain⟨w5,hw5⟩:∃x,w4.setCell ⟨g,2,none⟩ (.slice H6 h6.length ch6)=x:=⟨_,rfl⟩
    have t_X3:=X3.out.farN (by intro b' off' e;injection e with e;injection e with e;omega) HX.out rfl 2 (.slice H6 h6.length ch6)
    have t_XV6:=XV6.out.far HX.out rfl 2 (.slice H6 h6.length ch6)
    have t_HR:=HR.out.far (p:=⟨g,2,none⟩) (by show g+2≠g;omega) (.slice H6 h6.length ch6)
    have t_HT:=HT.out.far (p:=⟨g,2,none⟩) (by show g9≠g;omega) (.slice H6 h6.length ch6)
    have t_HX:Blk (w4.setCell ⟨g,2,none⟩ (.slice H6 h6.length ch6)) (g) 27 #[.slice K6 k6.length ck6,.slice Z6 z6.length cz6,.slice H6 h6.length ch6,.slice B5 b5.length cb5,.int .i64 r5]:=HX.out.put 2 (.slice H6 h6.length ch6)
    have t_HB5:=HB4.out.setCell (p:=⟨g,2,none⟩) (by show w.heap.size≤g;omega) (.slice H6 h6.length ch6)
    rw[hw5]at t_X3 t_XV6 t_HR t_HT t_HX t_HB5
    rw[hw5]
    replace X3:=Hd t_X3
    replace XV6:=Hd t_XV6
    replace HR:=Hd t_HR
    replace HT:=Hd t_HT
    replace HX:=Hd t_HX
    have HB5:=Hd t_HB5
    clear t_X3 t_XV6 t_HR t_HT t_HX t_HB5 hw5 HB4
    obtain⟨w6,hw6⟩:∃x,w5.setCell ⟨g,3,none⟩ (.slice B6 b6.length cb6)=x:=⟨_,rfl⟩
    have t_X3:=X3.out.farN (by intro b' off' e;injection e with e;injection e with e;omega) HX.out rfl 3 (.slice B6 b6.length cb6)
    have t_XV6:=XV6.out.far HX.out rfl 3 (.slice B6 b6.length cb6)
    have t_HR:=HR.out.far (p:=⟨g,3,none⟩) (by show g+2≠g;omega) (.slice B6 b6.length cb6)
    have t_HT:=HT.out.far (p:=⟨g,3,none⟩) (by show g9≠g;omega) (.slice B6 b6.length cb6)
    have t_HX:Blk (w5.setCell ⟨g,3,none⟩ (.slice B6 b6.length cb6)) (g) 27 #[.slice K6 k6.length ck6,.slice Z6 z6.length cz6,.slice H6 h6.length ch6,.slice B6 b6.length cb6,.int .i64 r5]:=HX.out.put 3 (.slice B6 b6.length cb6)
    have t_HB6:=HB5.out.setCell (p:=⟨g,3,none⟩) (by show w.heap.size≤g;omega) (.slice B6 b6.length cb6)
    rw[hw6]at t_X3 t_XV6 t_HR t_HT t_HX t_HB6
    rw[hw6]
    replace X3:=Hd t_X3
    replace XV6:=Hd t_XV6
    replace HR:=Hd t_HR
    replace HT:=Hd t_HT
    replace HX:=Hd t_HX
    have HB6:=Hd t_HB6
    clear t_X3 t_XV6 t_HR t_HT t_HX t_HB6 hw6 HB5
    obtain⟨w7,hw7⟩:∃x,w6.setCell ⟨g,4,none⟩ (.int .i64 r6)=x:=⟨_,rfl⟩
    have t_X3:=X3.out.farN (by intro b' off' e;injection e with e;injection e with e;omega) HX.out rfl 4 (.int .i64 r6)
    have t_XV6:=XV6.out.far HX.out rfl 4 (.int .i64 r6)
    have t_HR:=HR.out.far (p:=⟨g,4,none⟩) (by show g+2≠g;omega) (.int .i64 r6)
    have t_HT:=HT.out.far (p:=⟨g,4,none⟩) (by show g9≠g;omega) (.int .i64 r6)
    have t_HX:Blk (w6.setCell ⟨g,4,none⟩ (.int .i64 r6)) (g) 27 #[.slice K6 k6.length ck6,.slice Z6 z6.length cz6,.slice H6 h6.length ch6,.slice B6 b6.length cb6,.int .i64 r6]:=HX.out.put 4 (.int .i64 r6)
    have t_HB7:=HB6.out.setCell (p:=⟨g,4,none⟩) (by show w.heap.size≤g;omega) (.int .i64 r6)
    rw[hw7]at t_X3 t_XV6 t_HR t_HT t_HX t_HB7
    rw[hw7]
    replace X3:=Hd t_X3
    replace XV6:=Hd t_XV6
    replace HR:=Hd t_HR
    replace HT:=Hd t_HT
    replace HX:=Hd t_HX
    have HB7:=Hd t_HB7
    clear t_X3 t_XV6 t_HR t_HT t_HX t_HB7 hw7 HB6
    go_wp2_with fail
    go_roundw
    case rel=>exact⟨k+1,⟨K6,ck6,k6,Z6,cz6,z6,H6,ch6,h6,B6,cb6,b6,r6⟩,by omega,by go_num,by rw[HFO.out];exact HQ6.out,XV6.out,HX.out,HR.out,X3.out,HB7.out⟩
    case measure=>simp[intOf];omega
  obtain rfl:k=sl.length:=by omega
  have hd0:decide ((sl.length:Int)<(sl.length:Int))=false:=decide_eq_false (by omega)
  have X_0:=HX.out.cell (i:=0) rfl
  have X_1:=HX.out.cell (i:=1) rfl
  have X_2:=HX.out.cell (i:=2) rfl
  have X_3:=HX.out.cell (i:=3) rfl
  have X_4:=HX.out.cell (i:=4) rfl
  have R_0:=HR.out.cell (i:=0) rfl
  have R_1:=HR.out.cell (i:=1) rfl
  have R_2:=HR.out.cell (i:=2) rfl
  have R_3:=HR.out.cell (i:=3) rfl
  have R_4:=HR.out.cell (i:=4) rfl
  have R_f0:=HR.out.free 0
  have R_f1:=HR.out.free 1
  have R_f2:=HR.out.free 2
  have R_f3:=HR.out.free 3
  have R_f4:=HR.out.free 4
  have hh:w.heap.size≤g+2:=by omega
  have HP:=Hd (((((HR.out.put 0 (.slice K5 k5.length ck5)).put 1 (.slice Z5 z5.length cz5)).put 2 (.slice H5 h5.length ch5)).put 3 (.slice B5 b5.length cb5)).put 4 (.int .i64 r5))
  have HQ:=Hd (((((HBW.out.setCell (p:=⟨g+2,0,none⟩) hh (.slice K5 k5.length ck5)).setCell (p:=⟨g+2,1,none⟩) hh (.slice Z5 z5.length cz5)).setCell (p:=⟨g+2,2,none⟩) hh (.slice H5 h5.length ch5)).setCell (p:=⟨g+2,3,none⟩) hh (.slice B5 b5.length cb5)).setCell (p:=⟨g+2,4,none⟩) hh (.int .i64 r5))
  have FXV:=Hd (((((XV.out.far (show Blk _ (g+2) 27 #[.slice none 0 0,.slice none 0 0,.slice none 0 0,.slice none 0 0,.int .i64 0] from HR.out) rfl 0 (.slice K5 k5.length ck5)).far (show Blk _ (g+2) 27 #[.slice K5 k5.length ck5,.slice none 0 0,.slice none 0 0,.slice none 0 0,.int .i64 0] from(HR.out.put 0 (.slice K5 k5.length ck5))) rfl 1 (.slice Z5 z5.length cz5)).far (show Blk _ (g+2) 27 #[.slice K5 k5.length ck5,.slice Z5 z5.length cz5,.slice none 0 0,.slice none 0 0,.int .i64 0] from((HR.out.put 0 (.slice K5 k5.length ck5)).put 1 (.slice Z5 z5.length cz5))) rfl 2 (.slice H5 h5.length ch5)).far (show Blk _ (g+2) 27 #[.slice K5 k5.length ck5,.slice Z5 z5.length cz5,.slice H5 h5.length ch5,.slice none 0 0,.int .i64 0] from(((HR.out.put 0 (.slice K5 k5.length ck5)).put 1 (.slice Z5 z5.length cz5)).put 2 (.slice H5 h5.length ch5))) rfl 3 (.slice B5 b5.length cb5)).far (show Blk _ (g+2) 27 #[.slice K5 k5.length ck5,.slice Z5 z5.length cz5,.slice H5 h5.length ch5,.slice B5 b5.length cb5,.int .i64 0] from((((HR.out.put 0 (.slice K5 k5.length ck5)).put 1 (.slice Z5 z5.length cz5)).put 2 (.slice H5 h5.length ch5)).put 3 (.slice B5 b5.length cb5))) rfl 4 (.int .i64 r5))
  clear hh
  go_wp2
  exact bodyPost_ret (results_cell_tmp (p:=6) (t1:=7) (ty:=27) rfl _ _ (g+2) 27 #[.slice K5 k5.length ck5,.slice Z5 z5.length cz5,.slice H5 h5.length ch5,.slice B5 b5.length cb5,.int .i64 r5] _ rfl HP.out Tryz.underlying27 rfl infoVw) rfl ⟨⟨K5,ck5,k5,Z5,cz5,z5,H5,ch5,h5,B5,cb5,b5,r5⟩,rfl,(by have h:=HPK.out;rw[List.take_length]at h;exact h),FXV.out,HQ.out⟩
end Go.Proofs.YtjlfehpockfkdaaGreat
namespace Go.Proofs.YtjlfehpockfkdaaGreat
open Go.RowKit
theorem viewSum:ViewSum:={ viewSpec with sum:=vdsum_any }
end Go.Proofs.YtjlfehpockfkdaaGreat
namespace Go.Proofs.YtjlfehpockfkdaaGreat
open Go.ChangeShapes Go.WideShapes Go.RowKit
section
variable {H:Type} {enc:TypeId × Value→H} {P:Program}
theorem args_stay(hl:laidOutB P=true){W W':World}{sp:Nat→Bool}(hb:Below W.heap.size W W') :
  ∀{ts:List TypeId} {vs:List Value} {ds:List (DataW H)} {ps:List MemPlace},(∀t∈ts,P.readableRec t=true∧t<P.types.size) →
   DataW.TrodAll enc P W 0 (fun _=>true) true ts vs ds ps→(∀x∈ps,x.block<W.heap.size)→(∀x∈ps,sp x.block=true) →
   DataW.TrodAll enc P W' 0 sp true ts vs ds ps
 | [],_,_,_,_,h,_,_=>by
  obtain⟨rfl,rfl,rfl⟩:=trodAll_nil h
  exact trodAll_mk0
 |t::ts,_,_,_,ht,h,hlt,hsp=>by
  obtain⟨v,vs1,d,ds1,a,b,rfl,rfl,rfl,h1,h2⟩:=trodAll_cons h
  have htt:=ht t (List.mem_cons_self ..)
  refine⟨a,b,?_,?_,rfl⟩
  ·exact WideElems.Trod_stays hl htt.1 htt.2 h1 (fun x hx=>hb.same (hlt x (List.mem_append_left _ hx))) (fun x hx=>hsp x (List.mem_append_left _ hx))
  ·exact args_stay hl hb (fun t' h'=>ht t' (List.mem_cons_of_mem _ h')) h2 (fun x hx=>hlt x (List.mem_append_right _ hx)) (fun x hx=>hsp x (List.mem_append_right _ hx))
theorem law_post(hl:laidOutB P=true){f:Func}{s:ChangeSpec}{W W':World}{args:Array Value}{ds gs:List (DataW H)}{before:List MemPlace}{tb:TypeId}
  (hW:DataW.Whole enc P f.params.toList s.vars false W args.toList ds gs before)
  (hvars:s.vars=[])(hfn:s.fn H (ds++gs)={ results:=[.lit (.bool true)],args:=ds })
  (hres:f.resultTypes=#[tb])(htb:P.underlying tb=some .bool)
  (hts:∀t∈f.params.toList,P.readableRec t=true∧t<P.types.size)(hb:Below W.heap.size W W') :
  s.post enc P f false true false false W args (.bool true) W':=by
 have hlt:∀x∈before,x.block<W.heap.size:=fun x hx=>hW.lt x hx
 have hW0:=hW
 obtain⟨p,q,hA,hV,hpq,_,_⟩:=hW0
 rw[hvars]at hV
 obtain⟨rfl,rfl⟩:=trodVars_none hV
 obtain rfl:before=p:=by rw[hpq,List.append_nil]
 refine⟨ds,[],before,[],before,[],hW,?_,?_,?_,?_,fun h=>by cases h⟩
 ·rw[hfn,hres]
  exact trodAll_mk1 (shut_bool htb _)
 ·rw[hfn]
  exact args_stay hl hb hts hA hlt (fun x hx=>by simpa using hlt x hx)
 ·rw[hvars,hfn]
  rfl
 ·exact World.keptBut_mono (fun x hx=>hx.elim) (hb.frame (fun _=>False))
theorem stamp_cells{w:World}{base:Nat}{spare:Nat→Bool}{held:Bool}{fuel:Nat}{t ti:TypeId}{f0 f1:Field}{cs:List Value}{x:DataW H × List MemPlace}
  (hs:P.underlying t=some (.struct #[f0,f1]))(hone:Deep.oneCellFields P #[f0,f1]=true)(hC:P.cellsOf t=2)(hi0:f0.type=ti)(hi1:f1.type=ti)(hi:P.underlying ti=some (.int .i64))
  (h:DataW.trod enc P w base spare held fuel t cs=some x) :
  ∃c n:Int,cs=[.int .i64 c,.int .i64 n]∧x.2=[] ∧ -9223372036854775808≤c∧c≤9223372036854775807 ∧ -9223372036854775808≤n∧n≤9223372036854775807:=by
 obtain⟨y0,y1,m,rfl,hl,hy0,hy1⟩:=trod_struct2 hs h
 obtain⟨o0,k0⟩:=Deep.hone_of hone 0 f0 rfl
 obtain⟨o1,k1⟩:=Deep.hone_of hone 1 f1 rfl
 rw[hC]at hl
 obtain⟨a0,a1,rfl⟩:∃a0 a1,cs=[a0,a1]:=by
  match cs,hl with
  | [a0,a1],_=>exact⟨a0,a1,rfl⟩
 rw[o0,k0,hi0]at hy0
 rw[o1,k1,hi1]at hy1
 obtain⟨a,e0,rfl,wa⟩:=DataW.trod_int hi hy0
 obtain⟨b,e1,rfl,wb⟩:=DataW.trod_int hi hy1
 simp at e0 e1
 subst e0 e1
 exact⟨a,b,rfl,rfl,(bounds_i64 wa).1,(bounds_i64 wa).2,(bounds_i64 wb).1,(bounds_i64 wb).2⟩
end
end Go.Proofs.YtjlfehpockfkdaaGreat
namespace Go.Proofs.YtjlfehpockfkdaaGreat
open Go.ChangeShapes Go.WideShapes Go.RowKit Go.Deep
theorem pick{α:Type}(z:α){n:Nat}{p:Nat→α→Prop}(h:∀i,i<n→∃s,p i s):∃f:Nat→α,∀i,i<n→p i (f i):=by
 refine⟨fun i=>if hi:i<n then Classical.choose (h i hi) else z,fun i hi =>?_⟩
 simp only[hi,dite_true]
 exact Classical.choose_spec (h i hi)
theorem flat_get{α:Type}{size:Nat}(f:α→List Value)(hf:∀a,(f a).length=size):∀(l:List α) (j:Nat) (u:Value),(l.flatMap f)[j]?=some u →
  ∃i r a,l[i]?=some a∧r<size∧j=i*size+r∧(f a)[r]?=some u
 | [],j,u,h=>by simp at h
 |a::l,j,u,h=>by
  rw[List.flatMap_cons]at h
  by_cases hj:j<size
  ·rw[List.getElem?_append_left (by rw[hf];exact hj)]at h
   exact⟨0,j,a,rfl,hj,by omega,h⟩
  ·rw[List.getElem?_append_right (by rw[hf];omega),hf]at h
   obtain⟨i,r,b,h1,h2,h3,h4⟩:=flat_get f hf l (j-size) u h
   refine⟨i+1,r,b,by simpa using h1,h2,?_,h4⟩
   rw[Nat.add_mul]
   omega
section
variable {H:Type} {enc:TypeId × Value→H} {P:Program} {w:World}
theorem open_list{α:Type}(z:α)(f:α→List Value)(good:α→Prop){size:Nat}(hf:∀a,(f a).length=size){r:Reach}{b0:Nat}{t e:TypeId}{v:Value}{d:DataW H}{p:List MemPlace}
  (ht:P.underlying t=some (.slice e))(hC:P.cellsOf e=size)(hsz:0<size)
  (helem:∀(fuel:Nat) (cs:List Value) (x:DataW H × List MemPlace),DataW.trod enc P w 0 (fun _=>true) true fuel e cs=some x→∃a,cs=f a∧good a)
  (hv:Value.okWide P w r b0 t v)(h:DataW.Trod enc P w 0 (fun _=>true) true t v d p) :
  ∃(A:Option Addr) (cap:Nat) (l:List α),v = .slice A l.length cap∧l.length≤cap∧cap≤maxLen∧(A=none→l.length=0∧cap=0)∧Lies w A (l.flatMap f)∧(∀a∈l,good a) ∧
   ((d = .nil∧l.length=0∧cap=0)∨∃elems spare,d = .slice elems spare∧elems.length=l.length∧elems.length+spare.length=cap):=by
 obtain⟨a0,len0,cap0,rfl⟩:=okWide_slice ht hv
 obtain⟨fuel,hfu⟩:=h
 rcases open_slice ht hfu with ⟨hcs,hx⟩|⟨a,len,cap,m,n,D,Pl,hcs,_,hl,hm,hmm,hx,hi⟩
 ·simp[Value.cells]at hcs hx
  obtain⟨rfl,rfl,rfl⟩:=hcs
  exact⟨none,0,[],rfl,Nat.le_refl _,Nat.zero_le _,fun _=>⟨rfl,rfl⟩,Lies.nil,by simp,.inl ⟨hx.1,rfl,rfl⟩⟩
 ·simp[Value.cells]at hcs hx hmm
  obtain⟨rfl,rfl,rfl⟩:=hcs
  subst hmm
  obtain⟨g,hg⟩:=pick (n:=len0) (p:=fun i s=>good s∧∀j,j<size→w.cell? (a.add (i*size+j))=(f s)[j]?) z (fun i hi'=>by
   obtain⟨cs',hc,ht'⟩:=hi i (by omega)
   rw[hC]at hc
   obtain⟨s,rfl,hs⟩:=helem _ _ _ ht'
   obtain⟨_,_,hcell⟩:=World.cells?_some hc
   refine⟨s,hs,fun j hj =>?_⟩
   rw[←hcell j hj,Go.Deep.add_add])
  refine⟨some a,m,(List.range len0).map g,by simp,by simpa using hl,hm,(fun h=>by cases h),(fun hne =>?_),?_,.inr ⟨_,_,hx.1,by simp,by simp;omega⟩⟩
  ·have hpos:0<len0:=by
    rcases Nat.eq_zero_or_pos len0 with h0|h0
    ·subst h0;simp at hne
    ·exact h0
   obtain⟨b,off,spot⟩:=a
   have h00:=(hg 0 hpos).2 0 hsz
   have hspot:spot=none:=by
    have hlen:=hf (g 0)
    rw[List.getElem?_eq_getElem (by omega)]at h00
    simpa[Addr.add] using World.cell?_spot h00
   subst hspot
   refine⟨b,off,rfl,fun j u hu =>?_⟩
   obtain⟨i,r,s,h1,h2,h3,h4⟩:=flat_get f hf _ j u hu
   have hil:i<len0:=by
    have:=(List.getElem?_eq_some_iff.1 h1).1
    simpa using this
   simp[hil]at h1
   subst h1
   rw[←Go.WideShapes.add_plain,h3,(hg i hil).2 r h2]
   exact h4
  ·intro s hs
   simp at hs
   obtain⟨i,hil,rfl⟩:=hs
   exact(hg i hil).1
def stCell(s:Int × Int):List Value:=[.int .i64 s.1,.int .i64 s.2]
theorem stCells_flat(l:List (Int × Int)):l.flatMap stCell=stCells l:=by
 induction l with
 |nil=>rfl
 |cons s r ih=>simp[stCells,stCell,ih]
theorem open_stamps{r:Reach}{b0:Nat}{t e ti:TypeId}{f0 f1:Field}{v:Value}{d:DataW H}{p:List MemPlace}
  (ht:P.underlying t=some (.slice e))(hs:P.underlying e=some (.struct #[f0,f1]))(hone:Deep.oneCellFields P #[f0,f1]=true)(hC:P.cellsOf e=2)(hi0:f0.type=ti)(hi1:f1.type=ti)(hi:P.underlying ti=some (.int .i64))
  (hv:Value.okWide P w r b0 t v)(h:DataW.Trod enc P w 0 (fun _=>true) true t v d p) :
  ∃(A:Option Addr) (cap:Nat) (l:List (Int × Int)),v = .slice A l.length cap∧l.length≤cap∧cap≤maxLen∧(A=none→l.length=0∧cap=0)∧Lies w A (stCells l) ∧
   (∀s∈l,-9223372036854775808≤s.1∧s.1≤9223372036854775807 ∧ -9223372036854775808≤s.2∧s.2≤9223372036854775807) ∧
   ((d = .nil∧l.length=0∧cap=0)∨∃elems spare,d = .slice elems spare∧elems.length=l.length∧elems.length+spare.length=cap):=by
 have:=open_list (0,0) stCell (fun s=> -9223372036854775808≤s.1∧s.1≤9223372036854775807 ∧ -9223372036854775808≤s.2∧s.2≤9223372036854775807) (size:=2) (fun _=>rfl) ht hC (by decide)
  (fun fuel cs x hx=>by
   obtain⟨c,n,rfl,_,h1,h2,h3,h4⟩:=stamp_cells hs hone hC hi0 hi1 hi hx
   exact⟨(c,n),rfl,h1,h2,h3,h4⟩) hv h
 obtain⟨A,cap,l,h1,h2,h3,h4,h5,h6,h7⟩:=this
 rw[stCells_flat]at h5
 exact⟨A,cap,l,h1,h2,h3,h4,h5,h6,h7⟩
end
set_option maxRecDepth 100000
theorem list3{cs:List Value}(h:cs.length=3):∃a0 a1 a2,cs=[a0,a1,a2]:=by
 match cs,h with
 | [a0,a1,a2],_=>exact⟨a0,a1,a2,rfl⟩
theorem list2{cs:List Value}(h:cs.length=2):∃a0 a1,cs=[a0,a1]:=by
 match cs,h with
 | [a0,a1],_=>exact⟨a0,a1,rfl⟩
section
variable {H:Type} {enc:TypeId × Value→H} {w:World}
def LenG(d:DataW H)(k:Nat):Prop:=k=0∨∃elems spare,d = .slice elems spare∧elems.length=k
theorem open_list_with{P:Program}{α:Type}(z:α)(f:α→List Value)(good:α→DataW H→Prop){size:Nat}(hf:∀a,(f a).length=size){t e:TypeId}{fuel0:Nat}{cs0:List Value}{y:DataW H × List MemPlace}
  (ht:P.underlying t=some (.slice e))(hC:P.cellsOf e=size)(hsz:0<size)
  (helem:∀(fuel:Nat) (cs:List Value) (x:DataW H × List MemPlace),DataW.trod enc P w 0 (fun _=>true) true fuel e cs=some x→∃a,cs=f a∧good a x.1)
  (hfu:DataW.trod enc P w 0 (fun _=>true) true fuel0 t cs0=some y) :
  ∃(A:Option Addr) (cap:Nat) (l:List α),cs0=[.slice A l.length cap]∧l.length≤cap∧cap≤maxLen∧(A=none→l.length=0∧cap=0)∧Lies w A (l.flatMap f) ∧
   (l=[]∨∃elems spare,y.1 = .slice elems spare∧elems.length=l.length∧∀a∈l,∃d∈elems,good a d):=by
 rcases open_slice ht hfu with ⟨hcs,hx⟩|⟨a,len,cap,m,n,D,Pl,hcs,_,hl,hm,hmm,hx,hi⟩
 ·subst hcs hx
  exact⟨none,0,[],rfl,Nat.le_refl _,Nat.zero_le _,fun _=>⟨rfl,rfl⟩,Lies.nil,.inl rfl⟩
 ·simp at hmm
  subst hmm
  obtain⟨g,hg⟩:=pick (n:=len) (p:=fun i s=>good s (D i)∧∀j,j<size→w.cell? (a.add (i*size+j))=(f s)[j]?) z (fun i hi'=>by
   obtain⟨cs',hc,ht'⟩:=hi i (by omega)
   rw[hC]at hc
   obtain⟨s,rfl,hs⟩:=helem _ _ _ ht'
   obtain⟨_,_,hcell⟩:=World.cells?_some hc
   refine⟨s,hs,fun j hj =>?_⟩
   rw[←hcell j hj,Go.Deep.add_add])
  refine⟨some a,m,(List.range len).map g,by simpa using hcs,by simpa using hl,hm,(fun h=>by cases h),(fun hne =>?_),.inr ⟨_,_,by rw[hx],by simp,fun s hs =>?_⟩⟩
  ·have hpos:0<len:=by
    rcases Nat.eq_zero_or_pos len with h0|h0
    ·subst h0;simp at hne
    ·exact h0
   obtain⟨b,off,spot⟩:=a
   have h00:=(hg 0 hpos).2 0 hsz
   have hspot:spot=none:=by
    have hlen:=hf (g 0)
    rw[List.getElem?_eq_getElem (by omega)]at h00
    simpa[Addr.add] using World.cell?_spot h00
   subst hspot
   refine⟨b,off,rfl,fun j u hu =>?_⟩
   obtain⟨i,r,s,h1,h2,h3,h4⟩:=flat_get f hf _ j u hu
   have hil:i<len:=by
    have:=(List.getElem?_eq_some_iff.1 h1).1
    simpa using this
   simp[hil]at h1
   subst h1
   rw[←Go.WideShapes.add_plain,h3,(hg i hil).2 r h2]
   exact h4
  ·simp at hs
   obtain⟨i,hil,rfl⟩:=hs
   exact⟨D i,List.mem_map.2 ⟨i,List.mem_range.2 hil,rfl⟩,(hg i hil).1⟩
end
end Go.Proofs.YtjlfehpockfkdaaGreat
namespace Go.Proofs.YtjlfehpockfkdaaGreat
open Go.ChangeShapes Go.WideShapes Go.RowKit Go.Deep
set_option maxRecDepth 100000
section
variable {H:Type} {enc:TypeId × Value→H} {w:World}
theorem znInt:Tryz.prog.cellsOf 3=1:=by kernel_rfl
theorem znSt:Tryz.prog.cellsOf 46=2:=by kernel_rfl
theorem znSp:Tryz.prog.cellsOf 97=2:=by kernel_rfl
theorem znLS:Tryz.prog.cellsOf 22=1:=by kernel_rfl
theorem znZn:Tryz.prog.cellsOf 99=3:=by kernel_rfl
theorem znLZ:Tryz.prog.cellsOf 23=1:=by kernel_rfl
theorem zn_stampE(fuel:Nat)(cs:List Value)(x:DataW H × List MemPlace)(h:DataW.trod enc Tryz.prog w 0 (fun _=>true) true fuel 46 cs=some x):∃a:Int × Int,cs=stCells [a]:=by
 obtain⟨y0,y1,m,hx,hl,q0,q1⟩:=trod_struct2 Tryz.underlying46 h
 rw[znSt]at hl
 obtain⟨a0,a1,rfl⟩:=list2 hl
 dsimp only at q0 q1
 rw[znInt]at q0 q1
 obtain⟨n,e0,_,_⟩:=DataW.trod_int Tryz.underlying3 q0
 obtain⟨s,e1,_,_⟩:=DataW.trod_int Tryz.underlying3 q1
 simp at e0 e1
 subst e0 e1
 exact⟨(n,s),rfl⟩
theorem zn_flat(l:List (Int × Int)):l.flatMap (fun n=>stCells [n])=stCells l:=by
 induction l with
 |nil=>rfl
 |cons s r ih=>
  rw[List.flatMap_cons,ih]
  rfl
theorem zn_vecE{fuel:Nat}{cs:List Value}{x:DataW H × List MemPlace}(h:DataW.trod enc Tryz.prog w 0 (fun _=>true) true fuel 22 cs=some x):∃A c l,cs=[.slice A (List.length l) c]∧OneL w A c l∧LenG x.1 l.length:=by
 obtain⟨A,c,l,h1,h2,h3,h4,h5,h6⟩:=open_list_with ((0,0):Int × Int) (fun n=>stCells [n]) (fun _ _=>True) (size:=2) (fun _=>rfl) Tryz.underlying22 znSt (by decide) (fun fuel cs x h=>(zn_stampE fuel cs x h).imp fun _ h=>⟨h,trivial⟩) h
 rw[zn_flat]at h5
 refine⟨A,c,l,h1,⟨h2,h3,h4,h5⟩,?_⟩
 rcases h6 with rfl|⟨el,sp,h7,h8,_⟩
 ·exact .inl rfl
 ·exact .inr ⟨el,sp,h7,h8⟩
def ZoneG(w:World)(z:Zc)(d:DataW H):Prop:=OneL w z.X z.c z.l∧∃d0 d1,d = .agg [d0,d1]∧LenG d1 z.l.length
def Zc.zero:Zc:=⟨0,0,Option.none,0,[]⟩
theorem zn_zoneE(fuel:Nat)(cs:List Value)(x:DataW H × List MemPlace)(h:DataW.trod enc Tryz.prog w 0 (fun _=>true) true fuel 99 cs=some x):∃z:Zc,cs=zCells [z]∧ZoneG w z x.1:=by
 obtain⟨y0,y1,m,hx,hl,q0,q1⟩:=trod_struct2 Tryz.underlying99 h
 rw[znZn]at hl
 obtain⟨a0,a1,a2,rfl⟩:=list3 hl
 dsimp only at q0 q1
 rw[znSp]at q0
 rw[znLS]at q1
 obtain⟨z0,z1,m2,hx2,hl2,r0,r1⟩:=trod_struct2 Tryz.underlying97 q0
 dsimp only at r0 r1
 rw[znInt]at r0 r1
 obtain⟨n,e0,_,_⟩:=DataW.trod_int Tryz.underlying3 r0
 obtain⟨s,e1,_,_⟩:=DataW.trod_int Tryz.underlying3 r1
 obtain⟨X,c,l,e2,o1,g1⟩:=zn_vecE q1
 simp at e0 e1 e2
 subst e0 e1 e2
 exact⟨⟨n,s,X,c,l⟩,rfl,o1,_,_,congrArg Prod.fst hx,g1⟩
theorem zCells_flat(l:List Zc):l.flatMap (fun f=>zCells [f])=zCells l:=by
 induction l with
 |nil=>rfl
 |cons s r ih=>
  rw[List.flatMap_cons,ih]
  rfl
end
end Go.Proofs.YtjlfehpockfkdaaGreat
namespace Go.Proofs.YtjlfehpockfkdaaGreat
open Go.ChangeShapes Go.WideShapes Go.RowKit Go.Deep
set_option maxRecDepth 100000
theorem ca_list4{cs:List Value}(h:cs.length=4):∃a0 a1 a2 a3,cs=[a0,a1,a2,a3]:=by
 match cs,h with
 | [a0,a1,a2,a3],_=>exact⟨a0,a1,a2,a3,rfl⟩
section
variable {H:Type} {enc:TypeId × Value→H} {w:World}
theorem caInt:Tryz.prog.cellsOf 3=1:=by kernel_rfl
theorem caB:Tryz.prog.cellsOf 5=1:=by kernel_rfl
theorem caLB:Tryz.prog.cellsOf 47=1:=by kernel_rfl
theorem caSt:Tryz.prog.cellsOf 46=2:=by kernel_rfl
theorem caBd:Tryz.prog.cellsOf 49=4:=by kernel_rfl
theorem ca_byteE(fuel:Nat)(cs:List Value)(x:DataW H × List MemPlace)(h:DataW.trod enc Tryz.prog w 0 (fun _=>true) true fuel 5 cs=some x):∃a:Int,cs=[.int .u8 a]∧isB a:=by
 obtain⟨a,e0,rfl,wa⟩:=DataW.trod_int Tryz.underlying5 h
 refine⟨a,e0,?_⟩
 have hb:IntKind.u8.min≤a∧a≤IntKind.u8.max:=by simpa[Lit.wf] using wa
 have e1:IntKind.u8.min=0:=by decide
 have e2:IntKind.u8.max=255:=by decide
 rw[e1,e2]at hb
 exact⟨hb.1,by omega⟩
theorem ca_flat(l:List Int):l.flatMap (fun n=>[Value.int .u8 n])=bCells l:=by
 induction l with
 |nil=>rfl
 |cons s r ih=>
  rw[List.flatMap_cons,ih]
  rfl
theorem ca_bytesE{fuel:Nat}{cs:List Value}{x:DataW H × List MemPlace}(h:DataW.trod enc Tryz.prog w 0 (fun _=>true) true fuel 47 cs=some x):∃A c l,cs=[.slice A (List.length l) c]∧OneB w A c l∧LenG x.1 l.length:=by
 obtain⟨A,c,l,h1,h2,h3,h4,h5,h6⟩:=open_list_with (0:Int) (fun n=>[Value.int .u8 n]) (fun a _=>isB a) (size:=1) (fun _=>rfl) Tryz.underlying47 caB (by decide) (fun fuel cs x h=>ca_byteE fuel cs x h) h
 rw[ca_flat]at h5
 refine⟨A,c,l,h1,⟨h2,h3,h4,h5,fun x hx =>?_⟩,?_⟩
 ·rcases h6 with rfl|⟨_,_,_,_,h7⟩
  ·cases hx
  ·obtain⟨_,_,h8⟩:=h7 x hx
   exact h8
 ·rcases h6 with rfl|⟨el,sp,h7,h8,_⟩
  ·exact .inl rfl
  ·exact .inr ⟨el,sp,h7,h8⟩
def BodyG(w:World)(f:Bc)(d:DataW H):Prop:=OneB w f.X f.d f.b.v∧∃d0 d1 d2,d = .agg [d0,d1,d2]∧LenG d2 f.b.v.length
theorem ca_bodyE(fuel:Nat)(cs:List Value)(x:DataW H × List MemPlace)(h:DataW.trod enc Tryz.prog w 0 (fun _=>true) true fuel 49 cs=some x):∃f:Bc,cs=Ca.cell f∧BodyG w f x.1:=by
 obtain⟨y0,y1,y2,m,hx,hl,q0,q1,q2⟩:=trod_struct3 Tryz.underlying49 h
 rw[caBd]at hl
 obtain⟨a0,a1,a2,a3,rfl⟩:=ca_list4 hl
 dsimp only at q0 q1 q2
 rw[caInt]at q0
 rw[caSt]at q1
 rw[caLB]at q2
 obtain⟨o,e0,_,_⟩:=DataW.trod_int Tryz.underlying3 q0
 obtain⟨c,n,e1,_,_,_,_⟩:=stamp_cells Tryz.underlying46 (by kernel_rfl) (by kernel_rfl) rfl rfl Tryz.underlying3 q1
 obtain⟨X,d,l,e2,o2,z2⟩:=ca_bytesE q2
 simp at e0 e1 e2
 obtain⟨rfl,rfl⟩:=e1
 subst e0 e2
 exact⟨⟨X,d,⟨o,c,n,l⟩⟩,rfl,o2,_,_,_,congrArg Prod.fst hx,z2⟩
theorem ca_cells_flat(l:List Bc):l.flatMap Ca.cell=Ca.cells l:=by
 induction l with
 |nil=>rfl
 |cons s r ih=>
  rw[List.flatMap_cons,ih]
  rfl
def BodiesG(w:World)(L:List Bc)(d:DataW H):Prop:=L=[]∨∃elems spare,d = .slice elems spare∧elems.length=L.length∧∀z∈L,∃x∈elems,BodyG w z x
end
end Go.Proofs.YtjlfehpockfkdaaGreat
namespace Go.Proofs.YtjlfehpockfkdaaGreat
open Go.ChangeShapes Go.WideShapes Go.RowKit Go.Deep
section
variable {H:Type} {enc:TypeId × Value→H} {P:Program} {w:World}
theorem open_list_at{α:Type}(z:α)(f:α→List Value){size:Nat}(hf:∀a,(f a).length=size){t e:TypeId}{fuel0:Nat}{cs0:List Value}{y:DataW H × List MemPlace}
  (ht:P.underlying t=some (.slice e))(hC:P.cellsOf e=size)(hsz:0<size)
  (helem:∀(fuel:Nat) (cs:List Value) (x:DataW H × List MemPlace),DataW.trod enc P w 0 (fun _=>true) true fuel e cs=some x→∃a,cs=f a)
  (hfu:DataW.trod enc P w 0 (fun _=>true) true fuel0 t cs0=some y) :
  ∃(A:Option Addr) (cap:Nat) (l:List α),cs0=[.slice A l.length cap]∧l.length≤cap∧cap≤maxLen∧(A=none→l.length=0∧cap=0)∧Lies w A (l.flatMap f) ∧
   ((y.1 = .nil∧l.length=0∧cap=0)∨∃elems spare,y.1 = .slice elems spare∧elems.length=l.length∧elems.length+spare.length=cap):=by
 rcases open_slice ht hfu with ⟨hcs,hx⟩|⟨a,len,cap,m,n,D,Pl,hcs,_,hl,hm,hmm,hx,hi⟩
 ·subst hcs hx
  exact⟨none,0,[],rfl,Nat.le_refl _,Nat.zero_le _,fun _=>⟨rfl,rfl⟩,Lies.nil,.inl ⟨rfl,rfl,rfl⟩⟩
 ·simp at hmm
  subst hmm
  obtain⟨g,hg⟩:=pick (n:=len) (p:=fun i s=>∀j,j<size→w.cell? (a.add (i*size+j))=(f s)[j]?) z (fun i hi'=>by
   obtain⟨cs',hc,ht'⟩:=hi i (by omega)
   rw[hC]at hc
   obtain⟨s,rfl⟩:=helem _ _ _ ht'
   obtain⟨_,_,hcell⟩:=World.cells?_some hc
   refine⟨s,fun j hj =>?_⟩
   rw[←hcell j hj,Go.Deep.add_add])
  refine⟨some a,m,(List.range len).map g,by simpa using hcs,by simpa using hl,hm,(fun h=>by cases h),(fun hne =>?_),.inr ⟨_,_,by rw[hx],by simp,by simp;omega⟩⟩
  have hpos:0<len:=by
   rcases Nat.eq_zero_or_pos len with h0|h0
   ·subst h0;simp at hne
   ·exact h0
  obtain⟨b,off,spot⟩:=a
  have h00:=hg 0 hpos 0 hsz
  have hspot:spot=none:=by
   have hlen:=hf (g 0)
   rw[List.getElem?_eq_getElem (by omega)]at h00
   simpa[Addr.add] using World.cell?_spot h00
  subst hspot
  refine⟨b,off,rfl,fun j u hu =>?_⟩
  obtain⟨i,r,s,h1,h2,h3,h4⟩:=flat_get f hf _ j u hu
  have hil:i<len:=by
   have:=(List.getElem?_eq_some_iff.1 h1).1
   simpa using this
  simp[hil]at h1
  subst h1
  rw[←Go.WideShapes.add_plain,h3,hg i hil r h2]
  exact h4
end
section
variable {H:Type} {enc:TypeId × Value→H} {P:Program} {w:World}
theorem write_cells{base:Nat}{spare:Nat→Bool}{held:Bool}{fuel:Nat}{t ti:TypeId}{g0 g1 g2 s0 s1:Field}{cs:List Value}{x:DataW H × List MemPlace}
  (hs:P.underlying t=some (.struct #[g0,g1,g2]))(hC:P.cellsOf t=4)(k0:P.cellsOf g0.type=2)(o0:g0.offset=0)(k1:P.cellsOf g1.type=1)(o1:g1.offset=2)(k2:P.cellsOf g2.type=1)(o2:g2.offset=3)
  (hss:P.underlying g0.type=some (.struct #[s0,s1]))(hone:Deep.oneCellFields P #[s0,s1]=true)(hi0:s0.type=ti)(hi1:s1.type=ti)(hi:P.underlying ti=some (.int .i64))(h1:P.underlying g1.type=some (.int .i64))(hb:P.underlying g2.type=some .bool)
  (h:DataW.trod enc P w base spare held fuel t cs=some x):∃y:Wr,cs=Nt.wrCell y:=by
 obtain⟨y0,y1,y2,m,rfl,hl,q0,q1,q2⟩:=trod_struct3 hs h
 rw[hC]at hl
 obtain⟨a0,a1,a2,a3,rfl⟩:∃a0 a1 a2 a3,cs=[a0,a1,a2,a3]:=by
  match cs,hl with
  | [a0,a1,a2,a3],_=>exact⟨a0,a1,a2,a3,rfl⟩
 rw[o0,k0]at q0
 rw[o1,k1]at q1
 rw[o2,k2]at q2
 obtain⟨c,n,e0,_⟩:=stamp_cells hss hone k0 hi0 hi1 hi q0
 obtain⟨o,e1,_,_⟩:=DataW.trod_int h1 q1
 obtain⟨g,e2,_⟩:=DataW.trod_bool hb q2
 simp at e0 e1 e2
 obtain⟨rfl,rfl⟩:=e0
 subst e1 e2
 exact⟨(c,n,o,g),rfl⟩
def LenD(d:DataW H)(k:Nat):Prop:=k=0∨∃elems spare,d = .slice elems spare∧elems.length=k
theorem open_note{b0:Nat}{r:Reach}{t es ep ew:TypeId}{f0 f1 f2 f3:Field}{v:Value}{d:DataW H}{p:List MemPlace}
  (hs:P.underlying t=some (.struct #[f0,f1,f2,f3]))(hone:Deep.oneCellFields P #[f0,f1,f2,f3]=true)(hC:P.cellsOf t=4)
  (u0:P.underlying f0.type=some (.slice es))(u1:P.underlying f1.type=some (.slice es))(u2:P.underlying f2.type=some (.slice ep))(u3:P.underlying f3.type=some (.slice ew))(cS:P.cellsOf es=2)(cP:P.cellsOf ep=2)(cW:P.cellsOf ew=4)
  (HS:∀(fuel:Nat) (cs:List Value) (x:DataW H × List MemPlace),DataW.trod enc P w 0 (fun _=>true) true fuel es cs=some x→∃a,cs=stCell a)
  (HP:∀(fuel:Nat) (cs:List Value) (x:DataW H × List MemPlace),DataW.trod enc P w 0 (fun _=>true) true fuel ep cs=some x→∃a,cs=stCell a)
  (HW:∀(fuel:Nat) (cs:List Value) (x:DataW H × List MemPlace),DataW.trod enc P w 0 (fun _=>true) true fuel ew cs=some x→∃a,cs=Nt.wrCell a)
  (hv:Value.okWide P w r b0 t v)(h:DataW.Trod enc P w 0 (fun _=>true) true t v d p) :
  ∃(S E B V:Option Addr) (cs ce cb cv:Nat) (n:Note),v = .agg (noteCells S E B V cs ce cb cv n)∧NoteAt w S E B V cs ce cb cv n ∧
   ∃d0 d1 d2 d3,d = .agg [d0,d1,d2,d3]∧LenD d0 n.s.length∧LenD d1 n.e.length∧LenD d2 n.b.length∧LenD d3 n.ws.length:=by
 obtain⟨cs,rfl,hsz⟩:=okWide_struct hs hv
 obtain⟨fuel,hf⟩:=h
 obtain⟨y0,y1,y2,y3,m,hx,_,q0,q1,q2,q3⟩:=Go.Joins.trod_struct4 hs hf
 obtain⟨o0,k0⟩:=Deep.hone_of hone 0 f0 rfl
 obtain⟨o1,k1⟩:=Deep.hone_of hone 1 f1 rfl
 obtain⟨o2,k2⟩:=Deep.hone_of hone 2 f2 rfl
 obtain⟨o3,k3⟩:=Deep.hone_of hone 3 f3 rfl
 rw[hC]at hsz
 obtain⟨a0,a1,a2,a3,hcs⟩:∃a0 a1 a2 a3,cs.toList=[a0,a1,a2,a3]:=by
  have hl:cs.toList.length=4:=by simpa using hsz
  match cs.toList,hl with
  | [a0,a1,a2,a3],_=>exact⟨a0,a1,a2,a3,rfl⟩
 have hcc:(Value.agg cs).cells.toList=[a0,a1,a2,a3]:=hcs
 rw[hcc]at q0 q1 q2 q3
 rw[o0,k0]at q0
 rw[o1,k1]at q1
 rw[o2,k2]at q2
 rw[o3,k3]at q3
 simp at q0 q1 q2 q3
 obtain⟨S,c0,l0,e0,g0,g0',g0'',L0,z0⟩:=open_list_at (0,0) stCell (size:=2) (fun _=>rfl) u0 cS (by decide) HS q0
 obtain⟨E,c1,l1,e1,g1,g1',g1'',L1,z1⟩:=open_list_at (0,0) stCell (size:=2) (fun _=>rfl) u1 cS (by decide) HS q1
 obtain⟨B,c2,l2,e2,g2,g2',g2'',L2,z2⟩:=open_list_at (0,0) stCell (size:=2) (fun _=>rfl) u2 cP (by decide) HP q2
 obtain⟨V,c3,l3,e3,g3,g3',g3'',L3,z3⟩:=open_list_at Nt.zeroW Nt.wrCell (size:=4) (fun _=>rfl) u3 cW (by decide) HW q3
 rw[stCells_flat]at L0 L1 L2
 simp at e0 e1 e2 e3
 subst e0 e1 e2 e3
 have hv2:cs=noteCells S E B V c0 c1 c2 c3 ⟨l0,l1,l2,l3⟩:=by
  apply Array.toList_inj.1
  rw[hcs]
  rfl
 have hd:d = .agg [y0.1,y1.1,y2.1,y3.1]:=congrArg Prod.fst hx
 refine⟨S,E,B,V,c0,c1,c2,c3,⟨l0,l1,l2,l3⟩,by rw[hv2],⟨⟨g0,g0',g0'',L0⟩,⟨g1,g1',g1'',L1⟩,⟨g2,g2',g2'',L2⟩,⟨g3,g3',g3'',L3⟩⟩,_,_,_,_,hd,?_,?_,?_,?_⟩
 ·rcases z0 with ⟨_,z,_⟩|⟨el,sp,z,z',_⟩
  ·exact .inl z
  ·exact .inr ⟨el,sp,z,z'⟩
 ·rcases z1 with ⟨_,z,_⟩|⟨el,sp,z,z',_⟩
  ·exact .inl z
  ·exact .inr ⟨el,sp,z,z'⟩
 ·rcases z2 with ⟨_,z,_⟩|⟨el,sp,z,z',_⟩
  ·exact .inl z
  ·exact .inr ⟨el,sp,z,z'⟩
 ·rcases z3 with ⟨_,z,_⟩|⟨el,sp,z,z',_⟩
  ·exact .inl z
  ·exact .inr ⟨el,sp,z,z'⟩
end
set_option maxRecDepth 100000
section
variable {H:Type} {enc:TypeId × Value→H} {w:World}
theorem trod_struct5{P:Program}{base:Nat}{spare:Nat→Bool}{held:Bool}{t:TypeId}{f0 f1 f2 f3 f4:Field}{fuel:Nat}{cs:List Value}{x:DataW H × List MemPlace}(ht:P.underlying t=some (.struct #[f0,f1,f2,f3,f4]))(h:DataW.trod enc P w base spare held fuel t cs=some x) :
  ∃y0 y1 y2 y3 y4 n,x=(.agg [y0.1,y1.1,y2.1,y3.1,y4.1],y0.2++(y1.2++(y2.2++(y3.2++y4.2))))∧cs.length=P.cellsOf t∧DataW.trod enc P w base spare held n f0.type ((cs.drop f0.offset).take (P.cellsOf f0.type))=some y0 ∧
   DataW.trod enc P w base spare held n f1.type ((cs.drop f1.offset).take (P.cellsOf f1.type))=some y1∧DataW.trod enc P w base spare held n f2.type ((cs.drop f2.offset).take (P.cellsOf f2.type))=some y2 ∧
   DataW.trod enc P w base spare held n f3.type ((cs.drop f3.offset).take (P.cellsOf f3.type))=some y3∧DataW.trod enc P w base spare held n f4.type ((cs.drop f4.offset).take (P.cellsOf f4.type))=some y4:=by
 obtain⟨xs,n,_,rfl,hl,hlen,hf⟩:=DataW.trod_struct ht h
 match xs,hlen with
 | [y0,y1,y2,y3,y4],_=>exact⟨y0,y1,y2,y3,y4,n,by simp,hl,by simpa using hf 0 f0 rfl,by simpa using hf 1 f1 rfl,by simpa using hf 2 f2 rfl,by simpa using hf 3 f3 rfl,by simpa using hf 4 f4 rfl⟩
theorem vw_list5{cs:List Value}(h:cs.length=5):∃a0 a1 a2 a3 a4,cs=[a0,a1,a2,a3,a4]:=by
 match cs,h with
 | [a0,a1,a2,a3,a4],_=>exact⟨a0,a1,a2,a3,a4,rfl⟩
theorem vwWr:Tryz.prog.cellsOf 52=4:=by kernel_rfl
theorem vwLW:Tryz.prog.cellsOf 24=1:=by kernel_rfl
theorem vwLB:Tryz.prog.cellsOf 25=1:=by kernel_rfl
theorem vwVw:Tryz.prog.cellsOf 27=5:=by kernel_rfl
theorem vw_writeE(fuel:Nat)(cs:List Value)(x:DataW H × List MemPlace)(h:DataW.trod enc Tryz.prog w 0 (fun _=>true) true fuel 52 cs=some x):∃a,cs=Nt.wrCell a:=
 write_cells Tryz.underlying52 (by kernel_rfl) (by kernel_rfl) rfl (by kernel_rfl) rfl (by kernel_rfl) rfl Tryz.underlying46 (by kernel_rfl) rfl rfl Tryz.underlying3 Tryz.underlying3 Tryz.underlying4 h
theorem vw_writesE{fuel:Nat}{cs:List Value}{x:DataW H × List MemPlace}(h:DataW.trod enc Tryz.prog w 0 (fun _=>true) true fuel 24 cs=some x):∃A c l,cs=[.slice A (List.length l) c]∧OneW w A c l∧LenG x.1 l.length:=by
 obtain⟨A,c,l,h1,h2,h3,h4,h5,h6⟩:=open_list_with Nt.zeroW Nt.wrCell (fun _ _=>True) (size:=4) (fun _=>rfl) Tryz.underlying24 vwWr (by decide) (fun fuel cs x h=>(vw_writeE fuel cs x h).imp fun _ h=>⟨h,trivial⟩) h
 refine⟨A,c,l,h1,⟨h2,h3,h4,h5⟩,?_⟩
 rcases h6 with rfl|⟨el,sp,h7,h8,_⟩
 ·exact .inl rfl
 ·exact .inr ⟨el,sp,h7,h8⟩
def ZonesG(w:World)(L:List Zc)(d:DataW H):Prop:=L=[]∨∃elems spare,d = .slice elems spare∧elems.length=L.length∧∀f∈L,∃x∈elems,ZoneG w f x
theorem vw_zonesE{fuel:Nat}{cs:List Value}{x:DataW H × List MemPlace}(h:DataW.trod enc Tryz.prog w 0 (fun _=>true) true fuel 23 cs=some x):∃A c L,cs=[.slice A (List.length L) c]∧OneZ w A c L∧ZonesG w L x.1:=by
 obtain⟨A,c,L,e1,h2,h3,h4,h5,h6⟩:=open_list_with Zc.zero (fun f=>zCells [f]) (fun f d=>ZoneG w f d) (size:=3) (fun _=>rfl) Tryz.underlying23 znZn (by decide) (fun fuel cs x h=>zn_zoneE fuel cs x h) h
 rw[zCells_flat]at h5
 refine⟨A,c,L,e1,⟨h2,h3,h4,h5,fun f hf2 =>?_⟩,h6⟩
 rcases h6 with rfl|⟨_,_,_,_,h7⟩
 ·cases hf2
 ·obtain⟨_,_,h8⟩:=h7 f hf2
  exact h8.1
theorem vw_bodiesE{fuel:Nat}{cs:List Value}{x:DataW H × List MemPlace}(h:DataW.trod enc Tryz.prog w 0 (fun _=>true) true fuel 25 cs=some x):∃A c L,cs=[.slice A (List.length L) c]∧OneC w A c L∧BodiesG w L x.1:=by
 obtain⟨A,c,L,h1,h2,h3,h4,h5,h6⟩:=open_list_with Bc.zero Ca.cell (fun z d=>BodyG w z d) (size:=4) (fun _=>rfl) Tryz.underlying25 caBd (by decide) (fun fuel cs x h=>ca_bodyE fuel cs x h) h
 rw[ca_cells_flat]at h5
 refine⟨A,c,L,h1,⟨h2,h3,h4,h5,fun z hz =>?_⟩,h6⟩
 rcases h6 with rfl|⟨_,_,_,_,h7⟩
 ·cases hz
 ·obtain⟨_,_,h8⟩:=h7 z hz
  exact h8.1
def ViewG(w:World)(q:Vl)(d:DataW H):Prop:=∃d0 d1 d2 d3 d4,d = .agg [d0,d1,d2,d3,d4]∧LenG d0 q.k.length∧ZonesG w q.z d1∧LenG d2 q.h.length∧BodiesG w q.b d3
theorem open_view{r:Reach}{b0:Nat}{v:Value}{d:DataW H}{p:List MemPlace}(hv:Value.okWide Tryz.prog w r b0 27 v)(h:DataW.Trod enc Tryz.prog w 0 (fun _=>true) true 27 v d p) :
  ∃q:Vl,v = .agg (vwCells q)∧VwAt w q∧ViewG w q d:=by
 obtain⟨cs,rfl,_⟩:=okWide_struct Tryz.underlying27 hv
 obtain⟨fuel,hf⟩:=h
 obtain⟨y0,y1,y2,y3,y4,m,hx,hl,q0,q1,q2,q3,q4⟩:=trod_struct5 Tryz.underlying27 hf
 have hcc:(Value.agg cs).cells.toList=cs.toList:=rfl
 rw[hcc]at hl q0 q1 q2 q3 q4
 rw[vwVw]at hl
 obtain⟨a0,a1,a2,a3,a4,hcl⟩:=vw_list5 hl
 rw[hcl]at q0 q1 q2 q3 q4
 dsimp only at q0 q1 q2 q3 q4
 rw[znLS]at q0
 rw[znLZ]at q1
 rw[vwLW]at q2
 rw[vwLB]at q3
 rw[znInt]at q4
 obtain⟨K,ck,k,e0,o0,g0⟩:=zn_vecE q0
 obtain⟨Z,cz,z,e1,o1,g1⟩:=vw_zonesE q1
 obtain⟨A,ch,hh,e2,o2,g2⟩:=vw_writesE q2
 obtain⟨B,cb,b,e3,o3,g3⟩:=vw_bodiesE q3
 obtain⟨n,e4,_,_⟩:=DataW.trod_int Tryz.underlying3 q4
 simp at e0 e1 e2 e3 e4
 subst e0 e1 e2 e3 e4
 exact⟨⟨K,ck,k,Z,cz,z,A,ch,hh,B,cb,b,n⟩,congrArg Value.agg (Array.toList_inj.1 hcl),⟨o0,o1,o2,o3⟩,_,_,_,_,_,congrArg Prod.fst hx,g0,g1,g2,g3⟩
end
end Go.Proofs.YtjlfehpockfkdaaGreat
namespace Go.Proofs.YtjlfehpockfkdaaGreat
open Go.RowKit Fb
theorem Vw.fold_own{v:Vw}:∀{l:List Note},(∀n∈l,Vw.takeR v n=(v,0))→Vw.goes v l∧Vw.fold v l=v
 | [],_=>⟨trivial,rfl⟩
 |n::r,h=>by
  have h1:=h n List.mem_cons_self
  have h2:=Vw.fold_own (v:=v) (l:=r) (fun x hx=>h x (List.mem_cons_of_mem _ hx))
  unfold Vw.goes Vw.fold
  rw[h1]
  exact⟨⟨rfl,h2.1⟩,h2.2⟩
set_option maxRecDepth 100000 in
set_option maxHeartbeats 6400000 in
theorem lawVTwice_any(SV:ViewSum)(q:Vl)(S E P U:Option Addr)(cs ce cp cu:Nat)(n:Note)(I:Option Addr)(ci:Nat)(it:List (Int × Int))(w:World)(h:VwAt w q)(hn:NoteAt w S E P U cs ce cp cu n)(hi:OneL w I ci it) :
  Calls Tryz.prog 7 #[.agg (vwCells q),.agg (noteCells S E P U cs ce cp cu n),.slice I it.length ci] w (Says (.bool true) w):=by
 have SS:=Hd SV
 have AL:=Hd (fun wx=>valive_any SV.toViewSpec wx)
 have hvw:=fun wx (hb:Below w.heap.size w wx)=>h.later hb
 have hnw:=fun wx (hb:Below w.heap.size w wx)=>hn.later hb
 obtain⟨fm,hfm⟩:∃b,Vw.fmd q.vw=b:=⟨_,rfl⟩
 have css:=fun (ht:fm=true) wx (hb:Below w.heap.size w wx)=>show Calls Tryz.prog 34 #[.agg (vwCells q),.agg (vwCells q),.slice I it.length ci] wx (GivesVwB q.vw true wx) from by
  have hok:=(Vw.ok_iff q.vw).1 (hfm.trans ht)
  have hso:=Vw.fold_own (Vw.sum_own hok it)
  have n:=summed_any SV q q I ci it wx (h.later hb) (h.later hb) (hi.later hb) (Vw.sum_ok hok it).1 (Vw.sum_ok hok it).2 hso.1
  rwa [hso.2]at n
 obtain⟨⟨nv,nk⟩,hnn⟩:∃p,Vw.takeR q.vw n=p:=⟨_,rfl⟩
 have hag:=fun (h0:nk=0)=>show Vw.takeR nv n=(nv,0) from by
  have:=Vw.take_again (v:=q.vw) (n:=n) (by rw[hnn];exact h0)
  rwa [hnn]at this
 have hze:=fun (h0:nk≠0)=>show nv=Vw.zero from by
  have:=Vw.take_not (v:=q.vw) (n:=n) (by rw[hnn];exact h0)
  rwa [hnn]at this
 clear SV h hn hi
 obtain⟨K,ck,kn,Z,cz,zs,H,ch,hs,B,cb,bs,room⟩:=q
 obtain⟨ns,ne,nb,nw⟩:=n
 unfold vwCells at css ⊢
 unfold noteCells
 dsimp only at css ⊢
 have HNN:=Hd hnn
 have HAG:=Hd hag
 have HZE:=Hd hze
 have HFM:=Hd hfm
 have CS:=Hd css
 have HVW:=Hd hvw
 have HNW:=Hd hnw
 clear css hvw hnw hnn hag hze hfm
 have hb0:=below_new (below_new (Below.refl w.heap.size w) (.cells #[.slice K kn.length ck,.slice Z zs.length cz,.slice H hs.length ch,.slice B bs.length cb,.int .i64 room] 27)) (.cells #[.slice S ns.length cs,.slice E ne.length ce,.slice P nb.length cp,.slice U nw.length cu] 40)
 have hV:=(Blk.new w 27 #[.slice K kn.length ck,.slice Z zs.length cz,.slice H hs.length ch,.slice B bs.length cb,.int .i64 room]).alloc (.cells #[.slice S ns.length cs,.slice E ne.length ce,.slice P nb.length cp,.slice U nw.length cu] 40)
 have hN:=Blk.new (w.alloc (.cells #[.slice K kn.length ck,.slice Z zs.length cz,.slice H hs.length ch,.slice B bs.length cb,.int .i64 room] 27)) 40 #[.slice S ns.length cs,.slice E ne.length ce,.slice P nb.length cp,.slice U nw.length cu]
 simp only[World.size_alloc]at hN
 obtain⟨W,hW⟩:∃W,(w.alloc (.cells #[.slice K kn.length ck,.slice Z zs.length cz,.slice H hs.length ch,.slice B bs.length cb,.int .i64 room] 27)).alloc (.cells #[.slice S ns.length cs,.slice E ne.length ce,.slice P nb.length cp,.slice U nw.length cu] 40)=W:=⟨_,rfl⟩
 rw[hW]at hb0 hV hN
 have HW:=Hd hW
 obtain⟨g,hgg⟩:∃g,w.heap.size=g:=⟨_,rfl⟩
 rw[hgg]at hV hN
 have HV:=Hd (show Blk W (g) 27 #[.slice K kn.length ck,.slice Z zs.length cz,.slice H hs.length ch,.slice B bs.length cb,.int .i64 room] from hV)
 have HN:=Hd (show Blk W (g+1) 40 #[.slice S ns.length cs,.slice E ne.length ce,.slice P nb.length cp,.slice U nw.length cu] from hN)
 have HB0:=Hd hb0
 clear hW hb0 hV hN
 go_enter Tryz.func7,Tryz.ntmps7
 go_upto_region 1 with (fail)
 rw[HW.out]
 clear HW
 go_wp2_with fail
 refine(AL.out _).mono ?_
 rintro e w1 ⟨rfl,b1⟩
 replace HV:=Hd (HV.out.later b1)
 replace HN:=Hd (HN.out.later b1)
 have HB1:=Hd (below_on HB0.out b1)
 clear HB0
 clear b1 AL
 have V_0:=HV.out.cell (i:=0) rfl
 have V_1:=HV.out.cell (i:=1) rfl
 have V_2:=HV.out.cell (i:=2) rfl
 have V_3:=HV.out.cell (i:=3) rfl
 have V_4:=HV.out.cell (i:=4) rfl
 go_wp2_with fail
 refine((show Calls Tryz.prog 16 #[.agg #[.slice K kn.length ck,.slice Z zs.length cz,.slice H hs.length ch,.slice B bs.length cb,.int .i64 room]] w1 (Says (.bool fm) w1) from by have n:=vformed_any ⟨K,ck,kn,Z,cz,zs,H,ch,hs,B,cb,bs,room⟩ w1 (HVW.out _ HB1.out);rw[HFM.out]at n;exact n)).mono ?_
 rintro e w2 ⟨rfl,b2⟩
 clear V_0 V_1 V_2 V_3 V_4
 replace HV:=Hd (HV.out.later b2)
 replace HN:=Hd (HN.out.later b2)
 have HB2:=Hd (below_on HB1.out b2)
 clear HB1
 clear b2
 cases fm with
 |false=>
  have HZ:=Hd HB2.out
  go_wp2
  go_ret
  exact⟨rfl,HZ.out⟩
 |true=>
 have V_0:=HV.out.cell (i:=0) rfl
 have V_1:=HV.out.cell (i:=1) rfl
 have V_2:=HV.out.cell (i:=2) rfl
 have V_3:=HV.out.cell (i:=3) rfl
 have V_4:=HV.out.cell (i:=4) rfl
 go_wp2_with fail
 refine(CS.out (by first|rfl|trivial) _ HB2.out).mono ?_
 rintro e w3 ⟨q5,rfl,hq5,hV5,b3⟩
 clear V_0 V_1 V_2 V_3 V_4
 replace HV:=Hd (HV.out.later b3)
 replace HN:=Hd (HN.out.later b3)
 have HB3:=Hd (below_on HB2.out b3)
 clear HB2
 clear b3 CS
 obtain⟨K5,ck5,k5,Z5,cz5,z5,H5,ch5,h5,B5,cb5,b5,r5⟩:=q5
 have HQ5:=Hd hq5
 have XV5:=Hd hV5
 clear hq5 hV5
 unfold vwCells
 dsimp only
 obtain⟨ga5,hgga5⟩:∃ga5,w3.heap.size=ga5:=⟨_,rfl⟩
 have lt_V_ga5:g<ga5:=by have:=HV.out.lt;rw[hgga5]at this;exact this
 have lt_N_ga5:g+1<ga5:=by have:=HN.out.lt;rw[hgga5]at this;exact this
 have le_ga5:w.heap.size≤ga5:=by have:=HB3.out.size;rw[hgga5]at this;exact this
 go_upto_region 6 with (fail)
 have b4:=below_new (Below.refl w3.heap.size w3) (.cells #[.slice K5 k5.length ck5,.slice Z5 z5.length cz5,.slice H5 h5.length ch5,.slice B5 b5.length cb5,.int .i64 r5] 27)
 have hP:=Blk.new w3 27 #[.slice K5 k5.length ck5,.slice Z5 z5.length cz5,.slice H5 h5.length ch5,.slice B5 b5.length cb5,.int .i64 r5]
 obtain⟨w4,hw4⟩:∃x,w3.alloc (.cells #[.slice K5 k5.length ck5,.slice Z5 z5.length cz5,.slice H5 h5.length ch5,.slice B5 b5.length cb5,.int .i64 r5] 27)=x:=⟨_,rfl⟩
 rw[hw4]at b4 hP
 rw[hw4]
 replace HV:=Hd (HV.out.later b4)
 replace HN:=Hd (HN.out.later b4)
 have HB4:=Hd (below_on HB3.out b4)
 clear HB3
 replace XV5:=Hd (XV5.out.later b4)
 rw[hgga5]at hP
 have HP:=Hd hP
 clear b4 hw4 hP
 have XV1:=Hd (HVW.out _ HB4.out)
 have P_0:=HP.out.cell (i:=0) rfl
 have P_1:=HP.out.cell (i:=1) rfl
 have P_2:=HP.out.cell (i:=2) rfl
 have P_3:=HP.out.cell (i:=3) rfl
 have P_4:=HP.out.cell (i:=4) rfl
 have V_0:=HV.out.cell (i:=0) rfl
 have V_1:=HV.out.cell (i:=1) rfl
 have V_2:=HV.out.cell (i:=2) rfl
 have V_3:=HV.out.cell (i:=3) rfl
 have V_4:=HV.out.cell (i:=4) rfl
 go_wp2_with fail
 refine((show Calls Tryz.prog 17 #[.agg #[.slice K5 k5.length ck5,.slice Z5 z5.length cz5,.slice H5 h5.length ch5,.slice B5 b5.length cb5,.int .i64 r5],.agg #[.slice K kn.length ck,.slice Z zs.length cz,.slice H hs.length ch,.slice B bs.length cb,.int .i64 room]] w4 (Says (.bool true) w4) from by have n:=vsame_any ⟨K5,ck5,k5,Z5,cz5,z5,H5,ch5,h5,B5,cb5,b5,r5⟩ ⟨K,ck,kn,Z,cz,zs,H,ch,hs,B,cb,bs,room⟩ w4 XV5.out XV1.out;rw[HQ5.out,decide_eq_true rfl]at n;exact n)).mono ?_
 rintro e w5 ⟨rfl,b5⟩
 clear P_0 P_1 P_2 P_3 P_4 V_0 V_1 V_2 V_3 V_4
 replace HV:=Hd (HV.out.later b5)
 replace HN:=Hd (HN.out.later b5)
 replace HP:=Hd (HP.out.later b5)
 have HB5:=Hd (below_on HB4.out b5)
 clear HB4
 replace XV5:=Hd (XV5.out.later b5)
 replace XV1:=Hd (XV1.out.later b5)
 clear b5
 clear XV5 HQ5
 have V_0:=HV.out.cell (i:=0) rfl
 have V_1:=HV.out.cell (i:=1) rfl
 have V_2:=HV.out.cell (i:=2) rfl
 have V_3:=HV.out.cell (i:=3) rfl
 have V_4:=HV.out.cell (i:=4) rfl
 have N_0:=HN.out.cell (i:=0) rfl
 have N_1:=HN.out.cell (i:=1) rfl
 have N_2:=HN.out.cell (i:=2) rfl
 have N_3:=HN.out.cell (i:=3) rfl
 go_wp2_with fail
 refine((show Calls Tryz.prog 22 #[.agg #[.slice K kn.length ck,.slice Z zs.length cz,.slice H hs.length ch,.slice B bs.length cb,.int .i64 room],.agg #[.slice S ns.length cs,.slice E ne.length ce,.slice P nb.length cp,.slice U nw.length cu]] w5 (GivesVwE nv nk w5) from by have n:=SS.out.take ⟨K,ck,kn,Z,cz,zs,H,ch,hs,B,cb,bs,room⟩ S E P U cs ce cp cu ⟨ns,ne,nb,nw⟩ w5 XV1.out (HNW.out _ HB5.out);rw[HNN.out]at n;exact n)).mono ?_
 rintro e w6 ⟨q6,rfl,hq6,hV6,b6⟩
 clear V_0 V_1 V_2 V_3 V_4 N_0 N_1 N_2 N_3
 replace HV:=Hd (HV.out.later b6)
 replace HN:=Hd (HN.out.later b6)
 replace HP:=Hd (HP.out.later b6)
 have HB6:=Hd (below_on HB5.out b6)
 clear HB5
 replace XV1:=Hd (XV1.out.later b6)
 clear b6
 obtain⟨K6,ck6,k6,Z6,cz6,z6,H6,ch6,h6,B6,cb6,b6,r6⟩:=q6
 have HQ6:=Hd hq6
 have XV6:=Hd hV6
 clear hq6 hV6
 unfold vwCells
 dsimp only
 obtain⟨ga6,hgga6⟩:∃ga6,w6.heap.size=ga6:=⟨_,rfl⟩
 have lt_V_ga6:g<ga6:=by have:=HV.out.lt;rw[hgga6]at this;exact this
 have lt_N_ga6:g+1<ga6:=by have:=HN.out.lt;rw[hgga6]at this;exact this
 have lt_P_ga6:ga5<ga6:=by have:=HP.out.lt;rw[hgga6]at this;exact this
 have le_ga6:w.heap.size≤ga6:=by have:=HB6.out.size;rw[hgga6]at this;exact this
 go_upto_region 9 with (fail)
 have b7:=below_new (Below.refl w6.heap.size w6) (.cells #[.slice K6 k6.length ck6,.slice Z6 z6.length cz6,.slice H6 h6.length ch6,.slice B6 b6.length cb6,.int .i64 r6] 27)
 have hQ:=Blk.new w6 27 #[.slice K6 k6.length ck6,.slice Z6 z6.length cz6,.slice H6 h6.length ch6,.slice B6 b6.length cb6,.int .i64 r6]
 obtain⟨w7,hw7⟩:∃x,w6.alloc (.cells #[.slice K6 k6.length ck6,.slice Z6 z6.length cz6,.slice H6 h6.length ch6,.slice B6 b6.length cb6,.int .i64 r6] 27)=x:=⟨_,rfl⟩
 rw[hw7]at b7 hQ
 rw[hw7]
 replace HV:=Hd (HV.out.later b7)
 replace HN:=Hd (HN.out.later b7)
 replace HP:=Hd (HP.out.later b7)
 have HB7:=Hd (below_on HB6.out b7)
 clear HB6
 replace XV1:=Hd (XV1.out.later b7)
 replace XV6:=Hd (XV6.out.later b7)
 rw[hgga6]at hQ
 have HQ:=Hd hQ
 clear b7 hw7 hQ
 by_cases c0:nk=0
 ·
  have hag:=HAG.out c0
  have HAG2:=Hd hag
  clear hag HAG HZE
  subst c0
  have Q_0:=HQ.out.cell (i:=0) rfl
  have Q_1:=HQ.out.cell (i:=1) rfl
  have Q_2:=HQ.out.cell (i:=2) rfl
  have Q_3:=HQ.out.cell (i:=3) rfl
  have Q_4:=HQ.out.cell (i:=4) rfl
  have N_0:=HN.out.cell (i:=0) rfl
  have N_1:=HN.out.cell (i:=1) rfl
  have N_2:=HN.out.cell (i:=2) rfl
  have N_3:=HN.out.cell (i:=3) rfl
  go_wp2_with fail
  refine((show Calls Tryz.prog 22 #[.agg #[.slice K6 k6.length ck6,.slice Z6 z6.length cz6,.slice H6 h6.length ch6,.slice B6 b6.length cb6,.int .i64 r6],.agg #[.slice S ns.length cs,.slice E ne.length ce,.slice P nb.length cp,.slice U nw.length cu]] w7 (GivesVwE nv 0 w7) from by have n:=SS.out.take ⟨K6,ck6,k6,Z6,cz6,z6,H6,ch6,h6,B6,cb6,b6,r6⟩ S E P U cs ce cp cu ⟨ns,ne,nb,nw⟩ w7 XV6.out (HNW.out _ HB7.out);rw[HQ6.out,HAG2.out]at n;exact n)).mono ?_
  rintro e w8 ⟨q7,rfl,hq7,hV7,b8⟩
  clear Q_0 Q_1 Q_2 Q_3 Q_4 N_0 N_1 N_2 N_3
  replace HV:=Hd (HV.out.later b8)
  replace HN:=Hd (HN.out.later b8)
  replace HP:=Hd (HP.out.later b8)
  replace HQ:=Hd (HQ.out.later b8)
  have HB8:=Hd (below_on HB7.out b8)
  clear HB7
  replace XV1:=Hd (XV1.out.later b8)
  replace XV6:=Hd (XV6.out.later b8)
  clear b8
  obtain⟨K7,ck7,k7,Z7,cz7,z7,H7,ch7,h7,B7,cb7,b7,r7⟩:=q7
  have HQ7:=Hd hq7
  have XV7:=Hd hV7
  clear hq7 hV7
  unfold vwCells
  dsimp only
  obtain⟨ga7,hgga7⟩:∃ga7,w8.heap.size=ga7:=⟨_,rfl⟩
  have lt_V_ga7:g<ga7:=by have:=HV.out.lt;rw[hgga7]at this;exact this
  have lt_N_ga7:g+1<ga7:=by have:=HN.out.lt;rw[hgga7]at this;exact this
  have lt_P_ga7:ga5<ga7:=by have:=HP.out.lt;rw[hgga7]at this;exact this
  have lt_Q_ga7:ga6<ga7:=by have:=HQ.out.lt;rw[hgga7]at this;exact this
  have le_ga7:w.heap.size≤ga7:=by have:=HB8.out.size;rw[hgga7]at this;exact this
  go_upto_region 12 with (fail)
  have b9:=below_new (Below.refl w8.heap.size w8) (.cells #[.slice K7 k7.length ck7,.slice Z7 z7.length cz7,.slice H7 h7.length ch7,.slice B7 b7.length cb7,.int .i64 r7] 27)
  have hY:=Blk.new w8 27 #[.slice K7 k7.length ck7,.slice Z7 z7.length cz7,.slice H7 h7.length ch7,.slice B7 b7.length cb7,.int .i64 r7]
  obtain⟨w9,hw9⟩:∃x,w8.alloc (.cells #[.slice K7 k7.length ck7,.slice Z7 z7.length cz7,.slice H7 h7.length ch7,.slice B7 b7.length cb7,.int .i64 r7] 27)=x:=⟨_,rfl⟩
  rw[hw9]at b9 hY
  rw[hw9]
  replace HV:=Hd (HV.out.later b9)
  replace HN:=Hd (HN.out.later b9)
  replace HP:=Hd (HP.out.later b9)
  replace HQ:=Hd (HQ.out.later b9)
  have HB9:=Hd (below_on HB8.out b9)
  clear HB8
  replace XV1:=Hd (XV1.out.later b9)
  replace XV6:=Hd (XV6.out.later b9)
  replace XV7:=Hd (XV7.out.later b9)
  rw[hgga7]at hY
  have HY:=Hd hY
  clear b9 hw9 hY
  have Q_0:=HQ.out.cell (i:=0) rfl
  have Q_1:=HQ.out.cell (i:=1) rfl
  have Q_2:=HQ.out.cell (i:=2) rfl
  have Q_3:=HQ.out.cell (i:=3) rfl
  have Q_4:=HQ.out.cell (i:=4) rfl
  have Y_0:=HY.out.cell (i:=0) rfl
  have Y_1:=HY.out.cell (i:=1) rfl
  have Y_2:=HY.out.cell (i:=2) rfl
  have Y_3:=HY.out.cell (i:=3) rfl
  have Y_4:=HY.out.cell (i:=4) rfl
  go_wp2_with fail
  refine((show Calls Tryz.prog 17 #[.agg #[.slice K6 k6.length ck6,.slice Z6 z6.length cz6,.slice H6 h6.length ch6,.slice B6 b6.length cb6,.int .i64 r6],.agg #[.slice K7 k7.length ck7,.slice Z7 z7.length cz7,.slice H7 h7.length ch7,.slice B7 b7.length cb7,.int .i64 r7]] w9 (Says (.bool true) w9) from by have n:=vsame_any ⟨K6,ck6,k6,Z6,cz6,z6,H6,ch6,h6,B6,cb6,b6,r6⟩ ⟨K7,ck7,k7,Z7,cz7,z7,H7,ch7,h7,B7,cb7,b7,r7⟩ w9 XV6.out XV7.out;rw[HQ6.out,HQ7.out,decide_eq_true rfl]at n;exact n)).mono ?_
  rintro e w10 ⟨rfl,b10⟩
  clear Q_0 Q_1 Q_2 Q_3 Q_4 Y_0 Y_1 Y_2 Y_3 Y_4
  replace HV:=Hd (HV.out.later b10)
  replace HN:=Hd (HN.out.later b10)
  replace HP:=Hd (HP.out.later b10)
  replace HQ:=Hd (HQ.out.later b10)
  replace HY:=Hd (HY.out.later b10)
  have HB10:=Hd (below_on HB9.out b10)
  clear HB9
  replace XV1:=Hd (XV1.out.later b10)
  replace XV6:=Hd (XV6.out.later b10)
  replace XV7:=Hd (XV7.out.later b10)
  clear b10
  have HZ:=Hd HB10.out
  go_wp2
  go_ret
  exact⟨rfl,HZ.out⟩
 ·
  have hze:=HZE.out c0
  have HZE2:=Hd hze
  clear hze HAG HZE
  have d0:(nk != 0)=true:=by rw[bne_iff_ne];exact c0
  have Q_0:=HQ.out.cell (i:=0) rfl
  have Q_1:=HQ.out.cell (i:=1) rfl
  have Q_2:=HQ.out.cell (i:=2) rfl
  have Q_3:=HQ.out.cell (i:=3) rfl
  have Q_4:=HQ.out.cell (i:=4) rfl
  go_wp2_with fail
  refine((show Calls Tryz.prog 17 #[.agg #[.slice K6 k6.length ck6,.slice Z6 z6.length cz6,.slice H6 h6.length ch6,.slice B6 b6.length cb6,.int .i64 r6],.agg #[.slice none 0 0,.slice none 0 0,.slice none 0 0,.slice none 0 0,.int .i64 0]] w7 (Says (.bool true) w7) from by have n:=vsame_any ⟨K6,ck6,k6,Z6,cz6,z6,H6,ch6,h6,B6,cb6,b6,r6⟩ Vl.none w7 XV6.out (VwAt.none _);rw[HQ6.out,HZE2.out,decide_eq_true (show Vw.zero=Vl.none.vw from rfl)]at n;exact n)).mono ?_
  rintro e w8 ⟨rfl,b8⟩
  clear Q_0 Q_1 Q_2 Q_3 Q_4
  replace HV:=Hd (HV.out.later b8)
  replace HN:=Hd (HN.out.later b8)
  replace HP:=Hd (HP.out.later b8)
  replace HQ:=Hd (HQ.out.later b8)
  have HB8:=Hd (below_on HB7.out b8)
  clear HB7
  replace XV1:=Hd (XV1.out.later b8)
  replace XV6:=Hd (XV6.out.later b8)
  clear b8
  have HZ:=Hd HB8.out
  go_wp2
  go_ret
  exact⟨rfl,HZ.out⟩
end Go.Proofs.YtjlfehpockfkdaaGreat
namespace Go.Proofs.YtjlfehpockfkdaaGreat.viewTwice
open Go.ChangeShapes Go.WideShapes Go.ChangeAt Go.RowKit
theorem cellsStamp:Tryz.prog.cellsOf 46=2:=by kernel_rfl
theorem bytesStamp:Tryz.prog.bytesOf 46=16:=by kernel_rfl
theorem cellsSpan:Tryz.prog.cellsOf 97=2:=by kernel_rfl
theorem bytesSpan:Tryz.prog.bytesOf 97=16:=by kernel_rfl
theorem cellsWrite:Tryz.prog.cellsOf 52=4:=by kernel_rfl
theorem bytesWrite:Tryz.prog.bytesOf 52=32:=by kernel_rfl
theorem stampE{H:Type}{enc:TypeId × Value→H}{w:World}(fuel:Nat)(cs:List Value)(x:DataW H × List MemPlace)(h:DataW.trod enc Tryz.prog w 0 (fun _=>true) true fuel 46 cs=some x):∃a,cs=stCell a:=by
 obtain⟨c,n,rfl,_⟩:=stamp_cells Tryz.underlying46 (by kernel_rfl) (by kernel_rfl) rfl rfl Tryz.underlying3 h
 exact⟨(c,n),rfl⟩
theorem spanE{H:Type}{enc:TypeId × Value→H}{w:World}(fuel:Nat)(cs:List Value)(x:DataW H × List MemPlace)(h:DataW.trod enc Tryz.prog w 0 (fun _=>true) true fuel 97 cs=some x):∃a,cs=stCell a:=by
 obtain⟨c,n,rfl,_⟩:=stamp_cells Tryz.underlying97 (by kernel_rfl) (by kernel_rfl) rfl rfl Tryz.underlying3 h
 exact⟨(c,n),rfl⟩
theorem writeE{H:Type}{enc:TypeId × Value→H}{w:World}(fuel:Nat)(cs:List Value)(x:DataW H × List MemPlace)(h:DataW.trod enc Tryz.prog w 0 (fun _=>true) true fuel 52 cs=some x):∃a,cs=Nt.wrCell a:=
 write_cells Tryz.underlying52 (by kernel_rfl) (by kernel_rfl) rfl (by kernel_rfl) rfl (by kernel_rfl) rfl Tryz.underlying46 (by kernel_rfl) rfl rfl Tryz.underlying3 Tryz.underlying3 Tryz.underlying4 h
theorem own:ownKnob Tryz.prog.godebug=none:=by kernel_rfl
theorem laidOut:laidOutB Tryz.prog=true:=by kernel_rfl
theorem reads:∀t∈Tryz.f7.params.toList,Tryz.prog.readableRec t=true∧t<Tryz.prog.types.size:=by
 intro t ht
 rw[Tryz.params7]at ht
 have:t=27∨t=40∨t=28:=by simpa using ht
 rcases this with rfl|rfl|rfl<;>exact⟨by kernel_rfl,of_decide_eq_true (by kernel_rfl)⟩
set_option maxRecDepth 100000 in
theorem lifted(os:Os)(started:os.Started)(H:Type)(enc:TypeId × Value→H) :
  ReturnsInHanded {} Tryz.checked os 7 .any (Rows.viewTwiceSpec.pre6 enc Tryz.prog Tryz.f7 Rows.viewTwiceRow.domain false) (Rows.viewTwiceSpec.post enc Tryz.prog Tryz.f7 false true false false):=by
 refine returnsInHanded_of_change (C:=Tryz.checked) own started (by kernel_rfl) Tryz.func7
  (ChangeSpec.witness6 (enc:=enc) (C:=Tryz.checked) false ⟨#[],#[.agg #[.slice none 0 0,.slice none 0 0,.slice none 0 0,.slice none 0 0,.int .i64 0],.agg #[.slice none 0 0,.slice none 0 0,.slice none 0 0,.slice none 0 0],.slice none 0 0],[]⟩ 8 (by kernel_rfl) (by kernel_rfl) (by kernel_rfl) (by kernel_rfl)) ?_
 intro W base args ds gs before hval0 hW _ _
 have hval:∀(j:Nat) t v,Tryz.f7.params[j]?=some t→args[j]?=some v→Value.okWide Tryz.prog W .any base t v:=hval0
 have hW':=hW
 obtain⟨p,q,hA0,hV,rfl,hfz,hnd⟩:=hW
 have hA:DataW.TrodAll enc Tryz.prog W 0 (fun _=>true) true Tryz.f7.params.toList args.toList ds p:=hA0
 rw[Tryz.params7]at hA hval
 obtain⟨v0,vs0,d0,ds0,p0,q0,hargs,rfl,rfl,h0,r0⟩:=trodAll_cons hA
 obtain⟨v1,vs1,d1,ds1,p1,q1,rfl,rfl,rfl,h1,r1⟩:=trodAll_cons r0
 obtain⟨v2,vs2,d2,ds2,p2,q2,rfl,rfl,rfl,h2,r2⟩:=trodAll_cons r1
 obtain⟨rfl,rfl,rfl⟩:=trodAll_nil r2
 obtain rfl:args=#[v0,v1,v2]:=by cases args;simp_all
 obtain⟨rfl,rfl⟩:=trodVars_none hV
 obtain⟨q0,rfl,o0,g0⟩:=open_view (hval 0 27 v0 rfl rfl) h0
 obtain⟨S1,E1,B1,V1,cs1,ce1,cb1,cv1,n1,rfl,o1,x10,x11,x12,x13,rfl,m10,m11,m12,m13⟩:=open_note Tryz.underlying40 (by kernel_rfl) (by kernel_rfl) Tryz.underlying22 Tryz.underlying22 Tryz.underlying28 Tryz.underlying24 (by kernel_rfl) (by kernel_rfl) (by kernel_rfl) stampE spanE writeE (hval 1 40 v1 rfl rfl) h1
 obtain⟨A2,cap2,l2,rfl,hc2,hm2,hn2,hl2,_,hd2⟩:=open_stamps Tryz.underlying28 Tryz.underlying97 (by kernel_rfl) cellsSpan rfl rfl Tryz.underlying3 (hval 2 28 v2 rfl rfl) h2
 have o2:OneL W A2 cap2 l2:=⟨hc2,hm2,hn2,hl2⟩
 clear hA0 hval0
 refine(lawVTwice_any viewSum q0 S1 E1 B1 V1 cs1 ce1 cb1 cv1 n1 A2 cap2 l2 W o0 o1 o2).mono fun e W' ⟨he,hg⟩ =>?_
 subst he
 exact⟨_,rfl,law_post laidOut hW' rfl rfl (by kernel_rfl) Tryz.underlying4 reads hg⟩
theorem over:Rows.viewTwiceRow.holds Tryz.pinned (OpenSpec.ofChange Rows.viewTwiceSpec):=
 OpenClaim.holds_of_wide 7 Tryz.f7 rfl rfl rfl rfl rfl rfl rfl ⟨rfl,rfl,rfl,rfl,rfl⟩ rfl rfl rfl rfl rfl (by kernel_rfl) Tryz.func7 (by kernel_rfl)
  (of_decide_eq_true (by kernel_rfl)) (by unfold Func.isWrapper;first|(rw[if_pos (by decide +kernel)];kernel_rfl)|(rw[if_neg (by decide +kernel)];exact⟨rfl,rfl⟩))
  (fun os started H enc _=>lifted os started H enc)
theorem proved:Rows.ViewTwiceSaid:=
 over
end Go.Proofs.YtjlfehpockfkdaaGreat.viewTwice
