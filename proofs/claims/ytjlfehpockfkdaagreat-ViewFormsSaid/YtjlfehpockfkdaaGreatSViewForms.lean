/-
  For any view, any number and any list of spans, the law ViewForms returns true and leaves its arguments as they were. No condition.
-/
import Derived.Test.YtjlfehpockfkdaaGreatB01
import Derived.ProofKit
import Derived.Below
import Derived.WideKeyArgs
import Derived.OpenShut
import Derived.Lib.SmallJoins
import Derived.Deep.Slices
import Derived.Test.YtjlfehpockfkdaaGreatRows
import Derived.WalkKit
import Derived.SizedLaws
import Derived.Test.YtjlfehpockfkdaaGreatB05
import Derived.Test.YtjlfehpockfkdaaGreatSViewFormsB
import Derived.Test.YtjlfehpockfkdaaGreatB04
import Derived.Test.YtjlfehpockfkdaaGreatSViewFormsA
import Derived.Test.YtjlfehpockfkdaaGreatB03
import Derived.Test.YtjlfehpockfkdaaGreatB07
import Derived.Test.YtjlfehpockfkdaaGreatB02
import Derived.Test.YtjlfehpockfkdaaGreatB06
import Derived.Lib.SlBytesConst
namespace Go.Proofs.YtjlfehpockfkdaaGreat
open Go.RowKit Go.Shelf Fb
attribute [local go_sem] Oper.semAt_some
def hitK(P:List Zc)(us:List (Int × Int))(pre:List Nat):List Nat:=pre.filter fun k=>Tr.hits (Sp.inL us) (P.getD k Zc.none).zn
def hitV(P:List Zc)(us:List (Int × Int))(pre:List Nat):List Value:=(hitK P us pre).map fun k =>.slice (P.getD k Zc.none).X (P.getD k Zc.none).l.length (P.getD k Zc.none).c
theorem hitK_snoc(P:List Zc)(us:List (Int × Int))(pre:List Nat)(x:Nat):hitK P us (pre++[x])=hitK P us pre++(if Tr.hits (Sp.inL us) (P.getD x Zc.none).zn=true then [x] else []):=by
 unfold hitK
 rw[List.filter_append,List.filter_cons]
 split<;>rfl
theorem hitK_len(P:List Zc)(us:List (Int × Int))(pre:List Nat):(hitK P us pre).length≤pre.length:=List.length_filter_le _ _
theorem hit_list(P:List Zc)(us:List (Int × Int)):∀l:List Nat,(hitK P us l).map (fun k=>(P.getD k Zc.none).l)=(((l.map fun k=>P.getD k Zc.none).map Zc.zn).filter (Tr.hits (Sp.inL us))).map fun z=>z.2.2
 | []=>rfl
 |k::r=>by
  have ih:=hit_list P us r
  unfold hitK at ih ⊢
  rw[List.filter_cons,List.map_cons,List.map_cons,List.filter_cons]
  by_cases h:Tr.hits (Sp.inL us) (P.getD k Zc.none).zn=true
  ·rw[if_pos h,if_pos h,List.map_cons,List.map_cons,ih]
   rfl
  ·rw[if_neg h,if_neg h,ih]
theorem hitK_all(P:List Zc)(us:List (Int × Int)):(hitK P us (List.range P.length)).map (fun k=>(P.getD k Zc.none).l)=((P.map Zc.zn).filter (Tr.hits (Sp.inL us))).map fun z=>z.2.2:=by rw[hit_list,range_all]
set_option maxRecDepth 100000 in
set_option maxHeartbeats 6400000 in
theorem tsince_any(A B C:Option Addr)(c cb cc:Nat)(L:List Zc)(kn it:List (Int × Int))(w:World)(h:OneZ w A c L)(hb:OneL w B cb kn)(hc:OneL w C cc it) :
  Calls Tryz.prog 63 #[.slice A L.length c,.slice B kn.length cb,.slice C it.length cc] w (Ans (Tr.sncR (L.map Zc.zn) kn it) w):=by
 have N1:=Hd (fun (w':World) (b:Below w.heap.size w w')=>tformed_any A c L w' (h.later b))
 have N2:=Hd (fun (w':World) (b:Below w.heap.size w w')=>formed_any B cb kn w' (hb.later b))
 have HD:=Hd h
 have HK:=Hd hb
 have HI:=Hd hc
 clear h hb hc
 refine(callsIn_wide (n:=3)).1 ?_
 refine callsIn_of_wp_marks Tryz.func63 rfl trivial ?_ rfl
 simp only[Tryz.ntmps63,List.size_toArray,List.length_cons,List.length_nil,Nat.reduceAdd,Nat.reduceSub,Array.replicate_succ,Array.replicate_zero,List.push_toArray,List.append_toArray,List.nil_append,List.cons_append]
 cases hq:Tr.fmd (L.map Zc.zn) with
 |false=>
  have hR:Tr.sncR (L.map Zc.zn) kn it=[]:=by unfold Tr.sncR;rw[if_neg (fun h=>by rw[hq]at h;exact absurd h.1 Bool.false_ne_true)]
  rw[hR]
  rw[hq]at N1
  clear hR hq
  gi_wp2_with fail
  refine⟨trivial,(callsIn_wide.2 (N1.out _ (Below.refl _ _))).mono ?_⟩
  rintro e w1 ⟨rfl,b1⟩
  clear N1 N2
  gi_wp2_with fail
  refine⟨trivial,?_⟩
  gi_wp2
  exact⟨_,results_tmp rfl _ _ _,none,0,rfl,OneL.nil,b1⟩
 |true=>
 rw[hq]at N1
 cases hk:Ve.fmd kn with
 |false=>
  have hR:Tr.sncR (L.map Zc.zn) kn it=[]:=by unfold Tr.sncR;rw[if_neg (fun h=>by rw[hk]at h;exact absurd h.2 Bool.false_ne_true)]
  rw[hR]
  rw[hk]at N2
  clear hR hk
  gi_wp2_with fail
  refine⟨trivial,(callsIn_wide.2 (N1.out _ (Below.refl _ _))).mono ?_⟩
  rintro e w1 ⟨rfl,b1⟩
  gi_wp2_with fail
  refine⟨trivial,(callsIn_wide.2 (N2.out _ b1)).mono ?_⟩
  rintro e w2 ⟨rfl,b2⟩
  have FB:=Hd (below_on b1 b2)
  clear N1 N2 b1 b2
  gi_wp2
  exact⟨_,results_tmp rfl _ _ _,none,0,rfl,OneL.nil,FB.out⟩
 |true=>
 rw[hk]at N2
 have HQ:=Hd hq
 have HKF:=Hd hk
 obtain⟨us,hus⟩:∃us,Sp.ofL (Sp.inL it)=us:=⟨_,rfl⟩
 have hsnc:=Tr.snc_hit hq hk it (f:=Sp.inL us) (fun o ho=>by rw[←hus];exact Sp.inL_ofL _ o ho)
 have husl:us.length≤128:=by rw[←hus];exact Sp.ofL_len _
 have HSN:=Hd hsnc
 have HUS:=Hd hus
 clear hq hk hsnc hus
 gi_wp2_with fail
 refine⟨trivial,(callsIn_wide.2 (N1.out _ (Below.refl _ _))).mono ?_⟩
 rintro e w1 ⟨rfl,b1⟩
 gi_wp2_with fail
 refine⟨trivial,(callsIn_wide.2 (N2.out _ b1)).mono ?_⟩
 rintro e w2 ⟨rfl,b2⟩
 have bb2:=below_on b1 b2
 have JN:=join_one (HI.out.later bb2) 28
 rw[HUS.out]at JN
 have NJ:=Hd JN
 clear b1 b2 N1 N2 JN
 gi_wp2_with fail
 refine⟨trivial,(callsIn_wide.2 NJ.out).mono ?_⟩
 rintro e w3 ⟨u,rfl,ho3,b3⟩
 obtain⟨U,du,rfl,-,-,-,-⟩:=own_form ho3
 have bb3:=below_on bb2 b3
 have B7:=(Blk.new w3 28 #[.slice U us.length du]).alloc (.cells #[.slice none 0 0] 151)
 have B8:=Blk.new (w3.alloc (.cells #[.slice U us.length du] 28)) 151 #[.slice none 0 0]
 rw[show(w3.alloc (.cells #[.slice U us.length du] 28)).heap.size=w3.heap.size+1 from by simp]at B8
 have b5:Below w3.heap.size w3 ((w3.alloc (.cells #[.slice U us.length du] 28)).alloc (.cells #[.slice none 0 0] 151)):=below_new (below_new (Below.refl _ _) _) _
 have hUs:=own_later (own_base ho3 bb2.size) b5
 have bb5:=below_on bb3 b5
 have hz3:=bb3.size
 obtain⟨W5,hW5⟩:∃W5,(w3.alloc (.cells #[.slice U us.length du] 28)).alloc (.cells #[.slice none 0 0] 151)=W5:=⟨_,rfl⟩
 rw[hW5]at B7 B8 hUs bb5
 obtain⟨g,hg⟩:∃g,w3.heap.size=g:=⟨_,rfl⟩
 rw[hg]at B7 B8 hz3
 have HW5:=Hd hW5
 have HG:=Hd hg
 clear b3 b5 ho3 bb2 bb3 hW5 hg NJ HI HUS
 gi_wp2_with fail
 rw[HW5.out]
 refine⟨trivial,(callsIn_wide.2 (everything_any W5)).mono ?_⟩
 rintro e w6 ⟨rfl,b6⟩
 have D7:=B7.later b6
 have D8:=B8.later b6
 have hU6:=own_later hUs b6
 have bb6:=below_on bb5 b6
 have NP:=Hd (pieces_any A c L ⟨0,0,B,cb,kn⟩ 0 255 w6)
 clear b6 B7 B8 bb5 hUs
 gi_wp2_with fail
 refine⟨trivial,(callsIn_wide.2 NP.out).mono ?_⟩
 rintro e w4 ⟨bw,bz,br,rfl,Bw,Bz,Br,l1,l2,l3,b4⟩
 have E7:=D7.later b4
 have E8:=D8.later b4
 have bb4:=below_on bb6 b4
 have hU4:=own_later hU6 b4
 have hlt8:=D8.lt
 clear NP
 gi_wp2_with fail
 rw[HG.out]
 have hrn:rowIn w4 (g+1)=none:=by unfold rowIn;rw[E8.cell (i:=0) rfl];rfl
 have hok:RowOk (g+1) w4:=⟨E8.lt,fun r e=>by rw[hrn]at e;cases e⟩
 have hok3:RowOk (g+1) w6:=⟨D8.lt,fun r e=>by
  have:rowIn w6 (g+1)=none:=by unfold rowIn;rw[D8.cell (i:=0) rfl];rfl
  rw[this]at e;cases e⟩
 obtain⟨P,hP⟩:∃P,pcc ⟨0,0,B,cb,kn⟩ 255 0 L=P:=⟨_,rfl⟩
 have hpc:=fun k=>all_piece HQ.out (R:=⟨0,0,B,cb,kn⟩) HKF.out k
 have hsh:=all_short HQ.out ⟨0,0,B,cb,kn⟩
 have hzn:=all_zn L ⟨0,0,B,cb,kn⟩
 rw[hP]at hpc hsh hzn
 have HPC:=Hd hpc
 have HZN:=Hd hzn
 have SEQ:=pieces_stops (g+1) 2 L P ⟨0,0,B,cb,kn⟩ 0 255 hP (fmd_bounds HQ.out) (by omega) (by omega) HD.out.len A c bw bz br w4 hok (Safe.newer hok3 b4 l1 Bw.isCells) (Safe.newer hok3 b4 l3 Br.isCells) Bw Bz Br (ZoneSafe.old HD.out bb4 (by omega) (fun r e=>by rw[hrn]at e;cases e))
 have hz4:=bb4.size
 have hg4:=E8.lt
 obtain⟨i0,hIf,hz0,hz1,hz2⟩:=info_parts infoVe
 have HBB4:=Hd bb4
 clear hpc hzn hP hok3 Bw Bz Br l1 l2 l3 D7 D8 b4 bb6 hU6 hlt8
 refine wpIn_rangeFunc_ownH rfl (by omega) (gf:=163) (lb:=#[.pointer (some ⟨bw,0,none⟩),.pointer (some ⟨bz,0,none⟩),.pointer (some ⟨br,0,none⟩)]) rfl trivial enters_eachP SEQ KeepB.trans (fun W l' o o' hl h1 h2 _=>KeepB.put l' o o' h1 h2 (show l'≠g+1 by omega)) (Below.refl _ _) (fun _=>rfl)
  (fun pre W=>((Blk W g 28 #[.slice U us.length du]∧W.ownsRow w.heap.size 97 2 (.slice U us.length du) us.length (stCells us))∧∃v,Boxed W (g+1) 151 v∧W.ownsRow w.heap.size 22 1 v (hitK P us pre).length (hitV P us pre)∧True)∧Below w.heap.size w W)
  (fun _ _ _=>False)
  ?hI (fun _ _ _ _ _ h _ _=>h) ⟨⟨⟨E7,hU4⟩,.slice none 0 0,E8,⟨rfl,.inl ⟨rfl,rfl⟩⟩,trivial⟩,bb4⟩
  (fun x a' W=>∃Bx,g+1<Bx∧Blk W Bx 97 #[.int .i64 (P.getD x Zc.none).lo,.int .i64 (P.getD x Zc.none).hi]∧a'={ tmps:=#[.slice A L.length c,.slice B kn.length cb,.slice C it.length cc,undef,undef,undef,.slice none 0 0,.pointer (some ⟨g,0,none⟩),.pointer (some ⟨g+1,0,none⟩),.pointer (some ⟨Bx,0,none⟩),.slice (P.getD x Zc.none).X (P.getD x Zc.none).l.length (P.getD x Zc.none).c,.slice A L.length c,.bool true,.bool false,.bool false,.slice B kn.length cb,.bool true,.bool false,.bool false,.slice C it.length cc,.slice (some ⟨w2.heap.size,0,none⟩) 1 1,.slice U us.length du,.slice A L.length c,.slice B kn.length cb,.agg #[.int .i64 0,.int .i64 255],.func (.func 163) #[] #[.pointer (some ⟨bw,0,none⟩),.pointer (some ⟨bz,0,none⟩),.pointer (some ⟨br,0,none⟩)],.agg #[.int .i64 (P.getD x Zc.none).lo,.int .i64 (P.getD x Zc.none).hi],.slice (P.getD x Zc.none).X (P.getD x Zc.none).l.length (P.getD x Zc.none).c,undef,undef,undef,undef,undef,undef,undef,undef,undef,undef,undef,undef,undef,undef,undef],defers:=[] })
  ?hAx ?assign ?body ?done ?stop
 case hI=>exact OwnFrom.and (OwnFrom.and (OwnFrom.and (Own.from (blk_own _ _ fun _=>#[.slice U us.length du]) _) (Own.from (own_row _ _ _ _ _ _) _)) (Own.from (holdsRow_own w.heap.size (g+1) 151 22 1 (fun pre=>(hitK P us pre).length) (fun pre=>hitV P us pre) (fun _ _=>True)) _)) (ownFrom_below (Nat.le_refl _) hz4)
 case hAx=>exact fun x a' _ X Y row ⟨Bx,h1,h2,h3⟩ hg hr=>⟨Bx,h1,blk_own _ _ (fun (_:Unit)=>#[.int .i64 (P.getD x Zc.none).lo,.int .i64 (P.getD x Zc.none).hi]) () X Y row h2 hg (fun r e=>(hr r e).2),h3⟩
 case assign=>
  rintro l' pre x W K ⟨⟨⟨i1,i2⟩,v,hv,hrow,-⟩,i3⟩ hK
  unfold tellP toldP
  have hrW:=RowOk.boxed hv hrow
  have bN:=below_new (Below.refl W.heap.size W) (.cells #[.int .i64 (P.getD x Zc.none).lo,.int .i64 (P.getD x Zc.none).hi] 97)
  have HK:=Hd (fun a' W' h1 h2 h3 h4=>hK a' W' h1 h2 h3 h4)
  have FIN:=Hd (show(KeepsFrom w4.heap.size W (W.alloc (.cells #[.int .i64 (P.getD x Zc.none).lo,.int .i64 (P.getD x Zc.none).hi] 97))∧KeepB (g+1) W (W.alloc (.cells #[.int .i64 (P.getD x Zc.none).lo,.int .i64 (P.getD x Zc.none).hi] 97))∧((Blk (W.alloc (.cells #[.int .i64 (P.getD x Zc.none).lo,.int .i64 (P.getD x Zc.none).hi] 97)) g 28 #[.slice U us.length du]∧(W.alloc (.cells #[.int .i64 (P.getD x Zc.none).lo,.int .i64 (P.getD x Zc.none).hi] 97)).ownsRow w.heap.size 97 2 (.slice U us.length du) us.length (stCells us))∧∃v,Boxed (W.alloc (.cells #[.int .i64 (P.getD x Zc.none).lo,.int .i64 (P.getD x Zc.none).hi] 97)) (g+1) 151 v∧(W.alloc (.cells #[.int .i64 (P.getD x Zc.none).lo,.int .i64 (P.getD x Zc.none).hi] 97)).ownsRow w.heap.size 22 1 v (hitK P us pre).length (hitV P us pre)∧True)∧Below w.heap.size w (W.alloc (.cells #[.int .i64 (P.getD x Zc.none).lo,.int .i64 (P.getD x Zc.none).hi] 97)))∧Blk (W.alloc (.cells #[.int .i64 (P.getD x Zc.none).lo,.int .i64 (P.getD x Zc.none).hi] 97)) W.heap.size 97 #[.int .i64 (P.getD x Zc.none).lo,.int .i64 (P.getD x Zc.none).hi] from
   ⟨⟨(KeepsOthers.alloc _ _).from _,KeepB.below hrW bN,⟨⟨i1.alloc _,own_later i2 bN⟩,v,hv.alloc _,own_later hrow bN,trivial⟩,below_new i3 _⟩,Blk.new _ _ _⟩)
  have hlt:=hv.lt
  clear hK i1 i2 hv hrow i3 hrW bN
  gi_wp2
  obtain⟨⟨f1,f2,f3,f4⟩,f6⟩:=FIN.out
  exact HK.out _ _ f1 f2 ⟨f3,f4⟩ ⟨W.heap.size,hlt,f6,rfl⟩
 case body=>
  rintro l' pre x a' W hl _ ⟨⟨⟨i1,i2⟩,v8,hv,hrow,-⟩,i3⟩ ⟨Bx,hBx,hX,rfl⟩ hlt
  obtain⟨p1,p2,p3,p4,p5⟩:=HPC.out x
  have p5:=p5 W (fun z hz=>(HD.out.each z hz).later i3) (HK.out.later i3)
  have hsnoc:=hitK_snoc P us pre x
  have hlen:=hitK_len P us pre
  have hval:hitV P us (pre++[x])=hitV P us pre++(if Tr.hits (Sp.inL us) (P.getD x Zc.none).zn=true then [.slice (P.getD x Zc.none).X (P.getD x Zc.none).l.length (P.getD x Zc.none).c] else []):=by
   unfold hitV
   rw[hsnoc,List.map_append]
   split<;>rfl
  obtain⟨p,hp⟩:∃p,P.getD x Zc.none=p:=⟨_,rfl⟩
  rw[hp]at hX p1 p2 p3 p4 p5 hsnoc hval ⊢
  obtain⟨hk0,hhk⟩:∃q,hitK P us pre=q:=⟨_,rfl⟩
  obtain⟨hv0,hhv⟩:∃q,hitV P us pre=q:=⟨_,rfl⟩
  rw[hhk,hhv]at hrow
  rw[hhk]at hsnoc hlen
  rw[hhv]at hval
  obtain⟨VA,vc,hvv,-,hvm,hvn,-⟩:=own_form hrow
  unfold maxLen at hvm
  subst hvv
  have HX:=Hd hX
  have HU:=Hd i2
  have HO7:=Hd i1
  have HV:=Hd hv
  have HROW:=Hd hrow
  have H5:=Hd p5
  have I3:=Hd i3
  have HSN2:=Hd hsnoc
  have HVAL:=Hd hval
  clear hX i1 i2 p5 p4 i3 hp E7 E8 hok SEQ hv hrow hsnoc hval hhk hhv bb4
  gi_wp2_with fail
  refine wpIn_region_facts 3 (by kernel_rfl) (by kernel_rfl) (by kernel_rfl) ?letsoutR
   (fun v=>{ tmps:=#[.slice A L.length c,.slice B kn.length cb,.slice C it.length cc,undef,undef,undef,.slice none 0 0,.pointer (some ⟨g,0,none⟩),.pointer (some ⟨g+1,0,none⟩),.pointer (some ⟨Bx,0,none⟩),.slice p.X p.l.length p.c,.slice A L.length c,.bool true,.bool false,.bool false,.slice B kn.length cb,.bool true,.bool false,.bool false,.slice C it.length cc,.slice (some ⟨w2.heap.size,0,none⟩) 1 1,.slice U us.length du,.slice A L.length c,.slice B kn.length cb,.agg #[.int .i64 0,.int .i64 255],.func (.func 163) #[] #[.pointer (some ⟨bw,0,none⟩),.pointer (some ⟨bz,0,none⟩),.pointer (some ⟨br,0,none⟩)],.agg #[.int .i64 p.lo,.int .i64 p.hi],.slice p.X p.l.length p.c,v 0,v 1,v 2,undef,undef,undef,undef,undef,undef,undef,undef,undef,undef,undef,undef],defers:=[] }) (fun _=>undef)
   (fun i x wx=>match i with
    |0=>x = .agg #[.int .i64 p.lo,.int .i64 p.hi]
    |1=>∃g,x = .slice (some ⟨g,0,none⟩) 1 1∧Blk wx g 97 #[.int .i64 p.lo,.int .i64 p.hi]
    |2=>x = .slice U us.length du
    |_=>True)
   (fun w1 w2=>Below w1.heap.size w1 w2) (fun h1 h2=>below_on h1 h2) (fun _=>Below.refl _ _) (Below.drew (Below.refl _ _)) ?stabR ?stepR ?doneR
  case letsoutR=>exact fun⟨_,_,h⟩=>h
  case stabR=>
   rintro i x w1 w2 h hb
   match i,h with
   |0,h=>exact h
   |1,h=>obtain⟨g,h1,h2⟩:=h;exact⟨g,h1,h2.later hb⟩
   |2,h=>exact h
   |i+3,_=>trivial
  case stepR=>
   intro i hi v w' hb hd
   match i,hi with
   |0,_=>
    refine wpOp_oneH rfl fun KK HKK =>?_
    clear hd
    have q0:=cell_later hb (HX.out.cell (i:=0) rfl)
    have q1:=cell_later hb (HX.out.cell (i:=1) rfl)
    go_wp2
    exact HKK.out _ _ ⟨_,(by simp[upd];done),Below.refl _ _,rfl⟩
   |1,_=>
    have h0:v 0=_:=hdx hd 0 (by kernel_rfl)
    refine wpOp_oneH rfl fun KK HKK =>?_
    clear hd
    rw[h0]
    go_wp2_with fail
    refine(alone_any _ _ _).mono ?_
    rintro e w'' ⟨g,rfl,ob,-,b⟩
    go_wp2
    exact HKK.out _ _ ⟨_,(by simp[upd,h0];done),b,g,rfl,ob⟩
   |2,_=>
    refine wpOp_oneH rfl fun KK HKK =>?_
    clear hd
    have q0:=cell_later hb (HO7.out.cell (i:=0) rfl)
    go_wp2
    exact HKK.out _ _ ⟨_,(by simp[upd];done),Below.refl _ _,rfl⟩
   |k+3,hk=>exact absurd hk (by omega)
  case doneR=>
   intro v w5 hb hf
   obtain⟨g1,h1,o1⟩:=hf 1 (by decide)
   have h2:v 2=_:=hf 2 (by decide)
   clear hf
   rw[h1,h2]
   obtain⟨U9,d9,e9,hU9⟩:=OneL.of_own (own_later HU.out hb)
   injection e9 with e9 _ e10
   subst e9 e10
   have NH:=sptouch_any (some ⟨g1,0,none⟩) U 1 du [(p.lo,p.hi)] us w5 (one_stamp o1) hU9
   have BW:=Hd hb
   have hhit:Tr.hits (Sp.inL us) p.zn=Sp.touch (Sp.inL [(p.lo,p.hi)]) (Sp.inL us):=rfl
   rw[←hhit]at NH
   have hrW:=RowOk.boxed HV.out HROW.out
   have HRW:=Hd hrW
   cases hin:Tr.hits (Sp.inL us) p.zn with
   |false=>
    rw[hin]at NH
    have HN:=Hd NH
    have h1':=HSN2.out
    have h2':=HVAL.out
    rw[hin,if_neg Bool.false_ne_true,List.append_nil]at h1' h2'
    have HH1:=Hd h1'
    have HH2:=Hd h2'
    clear NH hin hb o1 h1 hU9 hhit hrW h1' h2' HSN2 HVAL
    go_wp2_with fail
    refine HN.out.mono ?_
    rintro e w6 ⟨rfl,b6⟩
    have b7:=below_on BW.out b6
    have FIN:=Hd (show KeepsFrom w4.heap.size W w6∧KeepB (g+1) W w6∧((Blk w6 g 28 #[.slice U us.length du]∧w6.ownsRow w.heap.size 97 2 (.slice U us.length du) us.length (stCells us))∧∃v,Boxed w6 (g+1) 151 v∧w6.ownsRow w.heap.size 22 1 v (hitK P us (pre++[x])).length (hitV P us (pre++[x]))∧True)∧Below w.heap.size w w6 from
     ⟨⟨b7.size,fun k u _ hk0 _=>(b7.block k (Array.getElem?_eq_some_iff.1 hk0).1).trans hk0⟩,KeepB.below HRW.out b7,⟨⟨HO7.out.later b7,own_later HU.out b7⟩,_,Blk.later HV.out b7,by rw[HH1.out,HH2.out];exact own_later HROW.out b7,trivial⟩,below_on I3.out b7⟩)
    clear b6 b7
    go_wp2_with fail
    gi_wp2
    exact FIN.out
   |true=>
    rw[hin]at NH
    have HN:=Hd NH
    have h1':=HSN2.out
    have h2':=HVAL.out
    rw[hin,if_pos rfl]at h1' h2'
    have HH1:=Hd h1'
    have HH2:=Hd h2'
    clear NH hin hb o1 h1 hU9 hhit hrW h1' h2' HSN2 HVAL
    go_wp2_with fail
    refine HN.out.mono ?_
    rintro e w6 ⟨rfl,b6⟩
    have b7:=below_on BW.out b6
    have hv6:Boxed w6 (g+1) 151 (.slice VA hk0.length vc):=Blk.later HV.out b7
    have hc6:=hv6.cell
    have hrow6:=own_later HROW.out b7
    have hU6:=own_later HU.out b7
    have hO6:=HO7.out.later b7
    have hlt6:=hv6.lt
    have hbw6:=below_on I3.out b7
    have hsz6:=hbw6.size
    have HV6:=Hd hv6
    have HR6:=Hd hrow6
    have HU6:=Hd hU6
    have HO6:=Hd hO6
    have HBW6:=Hd hbw6
    have B7:=Hd b7
    clear b6 b7 hU6 hO6 hbw6
    go_wp2_with fail
    gi_wp2_with (gi_at_builtin;refine Go.Proofs.YtjlfehpockfkdaaGreat.wpListIn_append_lies _ rfl _ _ 151 rfl w.heap.size 22 i0 (.slice none 0 0) 1 24 undRows hIf hz0 hz1 hz2 rfl (by decide) _ hk0.length hv0 rfl (hrow6.alloc _) (some ⟨w6.heap.size,0,none⟩) 1 1 (fun h=>by cases h) [.slice p.X p.l.length p.c] rfl rfl ?c1 (by intro u hu;simp at hu;subst hu;rfl) ?c3 ?c4 ?c5 ?_)
    case c1=>
     intro _
     refine⟨w6.heap.size,0,rfl,fun j u hu =>?_⟩
     rw[Nat.zero_add]
     exact(Blk.new w6 22 #[.slice p.X p.l.length p.c]).cell (by simpa using hu)
    case c3=>unfold maxLen;omega
    case c4=>omega
    case c5=>simp;omega
    intro v' w7 hown1 hg1 hm1
    obtain⟨g',cap',rfl⟩:=ownsRow_succ hown1
    obtain⟨hv1,hv2,hr2,hk2,hb2⟩:=hv6.appended (by decide) hrow6 hsz6 (by omega) hown1 hg1
    have hc1:=hv1.cell
    have hf1:=hv1.frozen
    have KB:=Hd ((KeepB.below HRW.out B7.out).trans (KeepB.appended hv6 hv1 hown1 hg1 hm1))
    have hUN:(w7.setCell ⟨g+1,0,none⟩ (.slice (some ⟨g',0,none⟩) (hk0.length+1) cap')).ownsRow w.heap.size 97 2 (.slice U us.length du) us.length (stCells us):=by
     have q1:=own_later HU6.out (below_new (Below.refl w6.heap.size w6) (.cells #[.slice p.X p.l.length p.c] 22))
     have q2:=own_stays q1 (fun k hk=>hg1.block k (own_lt q1 k hk) (fun e=>own_apart HU6.out HR6.out (by decide) k hk e))
     exact own_stays q2 (fun k hk=>Below.heap_setCell _ _ _ k (fun e=>by
      have e:k=g+1:=e
      exact hv1.not_row (by decide) q2 (by rw[hk,e])))
    have hON:Blk (w7.setCell ⟨g+1,0,none⟩ (.slice (some ⟨g',0,none⟩) (hk0.length+1) cap')) g 28 #[.slice U us.length du]:=by
     have q1:=HO6.out.alloc (.cells #[.slice p.X p.l.length p.c] 22)
     have q2:Blk w7 g 28 #[.slice U us.length du]:=(hg1.block g q1.lt (fun e=>by
      have q1':Boxed w6 g 28 (.slice U us.length du):=HO6.out
      exact q1'.not_row (by decide) HR6.out e)).trans q1
     exact q2.far (p:=⟨g+1,0,none⟩) (by show g≠g+1;omega) _
    have HUN:=Hd hUN
    have HON:=Hd hON
    have HV2:=Hd hv2
    have HR2:=Hd hr2
    have KF:=Hd (show KeepsFrom w4.heap.size W (w7.setCell ⟨g+1,0,none⟩ (.slice (some ⟨g',0,none⟩) (hk0.length+1) cap')) from KeepsFrom.trans ⟨B7.out.size,fun k u _ hk0 _=>(B7.out.block k (Array.getElem?_eq_some_iff.1 hk0).1).trans hk0⟩ (hk2.from _))
    have FB:=Hd (HBW6.out.trans hb2)
    clear hv2 hr2 hown1 hg1 hrow6 hv6 hv1 hUN hON hk2 hb2 hc6
    gi_wp2
    exact⟨KF.out,KB.out,⟨⟨HON.out,HUN.out⟩,_,HV2.out,by rw[HH1.out,HH2.out,List.length_append];exact HR2.out,trivial⟩,FB.out⟩
 case done=>
  rintro DD ys W hDD hys ⟨⟨-,v,hv,hrow,-⟩,i3⟩ hK
  have hall:=hitK_all P us
  rw[HZN.out]at hall
  have hall:(hitK P us (List.range P.length)).map (fun k=>(P.getD k Zc.none).l)=Tr.hit (L.map Zc.zn) kn (Sp.inL us):=hall
  rw[←hys]at hall
  have hkl:=hitK_len P us ys
  have hyl:ys.length=P.length:=by rw[hys,List.length_range]
  have hR:=HSN.out
  rw[←hall,List.length_map]at hR
  obtain⟨ks,hks⟩:∃ks,hitK P us ys=ks:=⟨_,rfl⟩
  have hval:hitV P us ys=ks.map fun k =>.slice (P.getD k Zc.none).X (P.getD k Zc.none).l.length (P.getD k Zc.none).c:=by unfold hitV;rw[hks]
  rw[hks]at hrow hR hkl
  rw[hval]at hrow
  obtain⟨VA,vc,hvv,hvl,hvm,hvn,hvL⟩:=own_form hrow
  subst hvv
  have hrows:∀w':World,Below W.heap.size W w'→Rows w' VA (ks.map fun k=>(P.getD k Zc.none).l):=fun w' hb' hne=>by
   have hne2:ks≠[]:=fun e=>hne (by rw[e];rfl)
   obtain⟨b,off,hA,hcs⟩:=(hvL.later hb') (fun e=>hne2 (List.map_eq_nil_iff.1 e))
   refine⟨b,off,hA,fun j hj =>?_⟩
   rw[List.length_map]at hj
   have hgd:(ks.map fun k=>(P.getD k Zc.none).l).getD j []=(P.getD ks[j] Zc.none).l:=by rw[List.getD_eq_getElem?_getD,List.getElem?_map,List.getElem?_eq_getElem hj];rfl
   rw[hgd]
   exact⟨_,_,hcs j _ (by rw[List.getElem?_map,List.getElem?_eq_getElem hj];rfl),((HPC.out ks[j]).2.2.2.2 W (fun z hz=>(HD.out.each z hz).later i3) (HK.out.later i3)).later hb'⟩
  have hc:=hv.cell
  have hz5:=i3.size
  have HR:=Hd hR
  have HROWS:=Hd hrows
  have HK2:=Hd hK
  have I3:=Hd i3
  have hDl:=(Array.getElem?_eq_some_iff.1 hK).1
  have HML:=Hd (fun w' hb'=>meet_any VA vc (ks.map fun k=>(P.getD k Zc.none).l) w' (by rw[List.length_map];exact hvl) hvm (hrows w' hb'))
  obtain⟨m,hm⟩:∃m,ks.length=m:=⟨_,rfl⟩
  obtain⟨ms,hms⟩:∃ms,Ve.meetL (ks.map fun k=>(P.getD k Zc.none).l)=ms:=⟨_,rfl⟩
  rw[hm,hms]at HR
  rw[hm]at hc
  have HM:=Hd (show ∀w',Below W.heap.size W w'→Calls Tryz.prog 122 #[.slice VA m vc] w' (Gives ms w') from fun w' hb'=>by
   have h1:=HML.out w' hb'
   rw[List.length_map,hm,hms]at h1
   exact h1)
  have hmm:m≤513:=by omega
  clear hv hrow hall hkl hyl hR hks hval hvL hrows i3 hK HML hms hm hys SEQ E7 E8 hok HSN hU4 hvl hvn bb4
  by_cases h0:m=0
  ·subst h0
   have hr2:=HR.out
   rw[if_pos rfl]at hr2
   have HR2:=Hd hr2
   have dn:(((0:Nat):Int) == 0)=true:=rfl
   have CL:=Hd (cloneS_any B cb kn W (by have:=Tr.short HKF.out;omega) (HK.out.later I3.out))
   clear hr2 HR HM HROWS
   gi_wp2_with fail
   refine⟨trivial,(callsIn_wide.2 CL.out).mono ?_⟩
   rintro e w5 ⟨v5,rfl,ho5,b5⟩
   have hK5:=(b5.block DD hDl).trans HK2.out
   have hb5:=below_on I3.out b5
   obtain⟨X5,c5,hv5,hO5⟩:=OneL.of_own (ownsRow_putObj ho5 (.deferred none) hK5 rfl)
   subst hv5
   have HO5:=Hd hO5
   have HK5:=Hd hK5
   have FB:=Hd (hb5.trans (belowK_b (w:=w) (Nat.le_refl _) w5 DD _ (.deferred none) (by omega) hK5 rfl rfl))
   clear ho5 b5 hb5 hO5 hK5 CL hDl
   gi_wp2
   refine⟨by simp,.inl ⟨_,_,rfl,run_takeDeferred HK5.out,?_⟩⟩
   exact⟨_,results_tmp rfl _ _ _,by rw[HR2.out];exact⟨X5,c5,rfl,HO5.out,FB.out⟩⟩
  ·have hr2:=HR.out
   rw[if_neg h0]at hr2
   have HR2:=Hd hr2
   have dn:((m:Int) == 0)=false:=by rw[beq_eq_false_iff_ne];omega
   have dn2:decide ((m:Int)=0)=false:=decide_eq_false (by omega)
   clear hr2 HR HROWS h0
   gi_wp2_with fail
   refine⟨trivial,(callsIn_wide.2 (HM.out _ (Below.refl _ _))).mono ?_⟩
   rintro e w5 ⟨v5,rfl,ho5,b5⟩
   have hK5:=(b5.block DD hDl).trans HK2.out
   have hb5:=below_on I3.out b5
   obtain⟨X5,c5,hv5,hO5⟩:=OneL.of_own (ownsRow_putObj ho5 (.deferred none) hK5 rfl)
   subst hv5
   have HO5:=Hd hO5
   have HK5:=Hd hK5
   have FB:=Hd (hb5.trans (belowK_b (w:=w) (Nat.le_refl _) w5 DD _ (.deferred none) (by omega) hK5 rfl rfl))
   clear ho5 b5 hb5 hO5 hK5 HM hDl
   gi_wp2
   refine⟨by simp,.inl ⟨_,_,rfl,run_takeDeferred HK5.out,?_⟩⟩
   exact⟨_,results_tmp rfl _ _ _,by rw[HR2.out];exact⟨X5,c5,rfl,HO5.out,FB.out⟩⟩
 case stop=>
  rintro DD cd pre W _ _ h _
  exact h.elim
end Go.Proofs.YtjlfehpockfkdaaGreat
namespace Go.Proofs.YtjlfehpockfkdaaGreat
open Go.RowKit Fb
set_option maxRecDepth 100000 in
set_option maxHeartbeats 6400000 in
theorem vdsince_any(q:Vl)(I:Option Addr)(ci:Nat)(it:List (Int × Int))(w:World)(h:VwAt w q)(hi:OneL w I ci it) :
  Calls Tryz.prog 19 #[.agg (vwCells q),.slice I it.length ci] w (Ans (Vw.sncR q.vw it) w):=by
 have hS:Vw.sncR q.vw it=if Vw.fmd q.vw=true then Tr.sncR (q.z.map Zc.zn) q.k it else []:=rfl
 rw[hS]
 have n1:=fun wx (hb:Below w.heap.size w wx)=>vdformed_any q wx (h.later hb)
 have n2:=fun wx (hb:Below w.heap.size w wx)=>tsince_any q.Z q.K I q.cz q.ck ci q.z q.k it wx (h.later hb).z (h.later hb).k (hi.later hb)
 obtain⟨t,ht⟩:∃t,Vw.fmd q.vw=t:=⟨_,rfl⟩
 obtain⟨R,hR⟩:∃R,Tr.sncR (q.z.map Zc.zn) q.k it=R:=⟨_,rfl⟩
 rw[ht]at n1 ⊢
 rw[hR]at n2 ⊢
 clear ht hR hS h hi
 obtain⟨K,ck,kn,Z,cz,zs,H,ch,hs,B,cb,bs,room⟩:=q
 unfold vwCells at n1 ⊢
 dsimp only at n1 n2 ⊢
 have N1:=Hd n1
 have N2:=Hd n2
 clear n1 n2
 cases t with
 |false=>
  rw[if_neg Bool.false_ne_true]
  have hb0:=below_new (Below.refl w.heap.size w) (.cells #[.slice K kn.length ck,.slice Z zs.length cz,.slice H hs.length ch,.slice B bs.length cb,.int .i64 room] 27)
  have hV:=Blk.new w 27 #[.slice K kn.length ck,.slice Z zs.length cz,.slice H hs.length ch,.slice B bs.length cb,.int .i64 room]
  obtain⟨W,hW⟩:∃W,w.alloc (.cells #[.slice K kn.length ck,.slice Z zs.length cz,.slice H hs.length ch,.slice B bs.length cb,.int .i64 room] 27)=W:=⟨_,rfl⟩
  rw[hW]at hb0 hV
  have HW:=Hd hW
  obtain⟨g,hgg⟩:∃g,w.heap.size=g:=⟨_,rfl⟩
  rw[hgg]at hV
  have HV:=Hd (show Blk W (g) 27 #[.slice K kn.length ck,.slice Z zs.length cz,.slice H hs.length ch,.slice B bs.length cb,.int .i64 room] from hV)
  have HB0:=Hd hb0
  clear hW hb0 hV
  go_enter Tryz.func19,Tryz.ntmps19
  go_upto_region 1 with (fail)
  rw[HW.out]
  clear HW
  have V_0:=HV.out.cell (i:=0) rfl
  have V_1:=HV.out.cell (i:=1) rfl
  have V_2:=HV.out.cell (i:=2) rfl
  have V_3:=HV.out.cell (i:=3) rfl
  have V_4:=HV.out.cell (i:=4) rfl
  go_wp2_with fail
  refine(N1.out _ HB0.out).mono ?_
  rintro e w1 ⟨rfl,b1⟩
  clear V_0 V_1 V_2 V_3 V_4
  replace HV:=Hd (HV.out.later b1)
  have HB1:=Hd (below_on HB0.out b1)
  clear HB0
  clear b1 N1
  go_wp2
  go_ret
  exact⟨none,0,rfl,OneL.nil,HB1.out⟩
 |true=>
  rw[if_pos rfl]
  have hb0:=below_new (Below.refl w.heap.size w) (.cells #[.slice K kn.length ck,.slice Z zs.length cz,.slice H hs.length ch,.slice B bs.length cb,.int .i64 room] 27)
  have hV:=Blk.new w 27 #[.slice K kn.length ck,.slice Z zs.length cz,.slice H hs.length ch,.slice B bs.length cb,.int .i64 room]
  obtain⟨W,hW⟩:∃W,w.alloc (.cells #[.slice K kn.length ck,.slice Z zs.length cz,.slice H hs.length ch,.slice B bs.length cb,.int .i64 room] 27)=W:=⟨_,rfl⟩
  rw[hW]at hb0 hV
  have HW:=Hd hW
  obtain⟨g,hgg⟩:∃g,w.heap.size=g:=⟨_,rfl⟩
  rw[hgg]at hV
  have HV:=Hd (show Blk W (g) 27 #[.slice K kn.length ck,.slice Z zs.length cz,.slice H hs.length ch,.slice B bs.length cb,.int .i64 room] from hV)
  have HB0:=Hd hb0
  clear hW hb0 hV
  go_enter Tryz.func19,Tryz.ntmps19
  go_upto_region 1 with (fail)
  rw[HW.out]
  clear HW
  have V_0:=HV.out.cell (i:=0) rfl
  have V_1:=HV.out.cell (i:=1) rfl
  have V_2:=HV.out.cell (i:=2) rfl
  have V_3:=HV.out.cell (i:=3) rfl
  have V_4:=HV.out.cell (i:=4) rfl
  go_wp2_with fail
  refine(N1.out _ HB0.out).mono ?_
  rintro e w1 ⟨rfl,b1⟩
  clear V_0 V_1 V_2 V_3 V_4
  replace HV:=Hd (HV.out.later b1)
  have HB1:=Hd (below_on HB0.out b1)
  clear HB0
  clear b1 N1
  have V_0:=HV.out.cell (i:=0) rfl
  have V_1:=HV.out.cell (i:=1) rfl
  go_wp2_with fail
  refine(N2.out _ HB1.out).mono ?_
  rintro e w2 ⟨SA,sc,rfl,hS,b2⟩
  clear V_0 V_1
  replace HV:=Hd (HV.out.later b2)
  have HB2:=Hd (below_on HB1.out b2)
  clear HB1
  clear b2 N2
  have HS:=Hd hS
  clear hS
  go_wp2
  go_ret
  exact⟨_,_,rfl,HS.out,HB2.out⟩
end Go.Proofs.YtjlfehpockfkdaaGreat
namespace Go.Proofs.YtjlfehpockfkdaaGreat
open Go.RowKit
theorem viewSince:ViewSince:={ viewSpec with since:=vdsince_any }
end Go.Proofs.YtjlfehpockfkdaaGreat
namespace Go.Proofs.YtjlfehpockfkdaaGreat
open Go.ChangeShapes Go.WideShapes Go.RowKit
section
variable {H:Type} {enc:TypeId × Value→H} {P:Program}
theorem args_stay(hl:laidOutB P=true){W W':World}{sp:Nat→Bool}(hb:Below W.heap.size W W') :
  ∀{ts:List TypeId} {vs:List Value} {ds:List (DataW H)} {ps:List MemPlace},(∀t∈ts,P.readableRec t=true∧t<P.types.size) →
   DataW.TrodAll enc P W 0 (fun _=>true) true ts vs ds ps→(∀x∈ps,x.block<W.heap.size)→(∀x∈ps,sp x.block=true) →
   DataW.TrodAll enc P W' 0 sp true ts vs ds ps
 | [],_,_,_,_,h,_,_=>by
  obtain⟨rfl,rfl,rfl⟩:=trodAll_nil h
  exact trodAll_mk0
 |t::ts,_,_,_,ht,h,hlt,hsp=>by
  obtain⟨v,vs1,d,ds1,a,b,rfl,rfl,rfl,h1,h2⟩:=trodAll_cons h
  have htt:=ht t (List.mem_cons_self ..)
  refine⟨a,b,?_,?_,rfl⟩
  ·exact WideElems.Trod_stays hl htt.1 htt.2 h1 (fun x hx=>hb.same (hlt x (List.mem_append_left _ hx))) (fun x hx=>hsp x (List.mem_append_left _ hx))
  ·exact args_stay hl hb (fun t' h'=>ht t' (List.mem_cons_of_mem _ h')) h2 (fun x hx=>hlt x (List.mem_append_right _ hx)) (fun x hx=>hsp x (List.mem_append_right _ hx))
theorem law_post(hl:laidOutB P=true){f:Func}{s:ChangeSpec}{W W':World}{args:Array Value}{ds gs:List (DataW H)}{before:List MemPlace}{tb:TypeId}
  (hW:DataW.Whole enc P f.params.toList s.vars false W args.toList ds gs before)
  (hvars:s.vars=[])(hfn:s.fn H (ds++gs)={ results:=[.lit (.bool true)],args:=ds })
  (hres:f.resultTypes=#[tb])(htb:P.underlying tb=some .bool)
  (hts:∀t∈f.params.toList,P.readableRec t=true∧t<P.types.size)(hb:Below W.heap.size W W') :
  s.post enc P f false true false false W args (.bool true) W':=by
 have hlt:∀x∈before,x.block<W.heap.size:=fun x hx=>hW.lt x hx
 have hW0:=hW
 obtain⟨p,q,hA,hV,hpq,_,_⟩:=hW0
 rw[hvars]at hV
 obtain⟨rfl,rfl⟩:=trodVars_none hV
 obtain rfl:before=p:=by rw[hpq,List.append_nil]
 refine⟨ds,[],before,[],before,[],hW,?_,?_,?_,?_,fun h=>by cases h⟩
 ·rw[hfn,hres]
  exact trodAll_mk1 (shut_bool htb _)
 ·rw[hfn]
  exact args_stay hl hb hts hA hlt (fun x hx=>by simpa using hlt x hx)
 ·rw[hvars,hfn]
  rfl
 ·exact World.keptBut_mono (fun x hx=>hx.elim) (hb.frame (fun _=>False))
theorem stamp_cells{w:World}{base:Nat}{spare:Nat→Bool}{held:Bool}{fuel:Nat}{t ti:TypeId}{f0 f1:Field}{cs:List Value}{x:DataW H × List MemPlace}
  (hs:P.underlying t=some (.struct #[f0,f1]))(hone:Deep.oneCellFields P #[f0,f1]=true)(hC:P.cellsOf t=2)(hi0:f0.type=ti)(hi1:f1.type=ti)(hi:P.underlying ti=some (.int .i64))
  (h:DataW.trod enc P w base spare held fuel t cs=some x) :
  ∃c n:Int,cs=[.int .i64 c,.int .i64 n]∧x.2=[] ∧ -9223372036854775808≤c∧c≤9223372036854775807 ∧ -9223372036854775808≤n∧n≤9223372036854775807:=by
 obtain⟨y0,y1,m,rfl,hl,hy0,hy1⟩:=trod_struct2 hs h
 obtain⟨o0,k0⟩:=Deep.hone_of hone 0 f0 rfl
 obtain⟨o1,k1⟩:=Deep.hone_of hone 1 f1 rfl
 rw[hC]at hl
 obtain⟨a0,a1,rfl⟩:∃a0 a1,cs=[a0,a1]:=by
  match cs,hl with
  | [a0,a1],_=>exact⟨a0,a1,rfl⟩
 rw[o0,k0,hi0]at hy0
 rw[o1,k1,hi1]at hy1
 obtain⟨a,e0,rfl,wa⟩:=DataW.trod_int hi hy0
 obtain⟨b,e1,rfl,wb⟩:=DataW.trod_int hi hy1
 simp at e0 e1
 subst e0 e1
 exact⟨a,b,rfl,rfl,(bounds_i64 wa).1,(bounds_i64 wa).2,(bounds_i64 wb).1,(bounds_i64 wb).2⟩
end
end Go.Proofs.YtjlfehpockfkdaaGreat
namespace Go.Proofs.YtjlfehpockfkdaaGreat
open Go.ChangeShapes Go.WideShapes Go.RowKit Go.Deep
theorem pick{α:Type}(z:α){n:Nat}{p:Nat→α→Prop}(h:∀i,i<n→∃s,p i s):∃f:Nat→α,∀i,i<n→p i (f i):=by
 refine⟨fun i=>if hi:i<n then Classical.choose (h i hi) else z,fun i hi =>?_⟩
 simp only[hi,dite_true]
 exact Classical.choose_spec (h i hi)
theorem flat_get{α:Type}{size:Nat}(f:α→List Value)(hf:∀a,(f a).length=size):∀(l:List α) (j:Nat) (u:Value),(l.flatMap f)[j]?=some u →
  ∃i r a,l[i]?=some a∧r<size∧j=i*size+r∧(f a)[r]?=some u
 | [],j,u,h=>by simp at h
 |a::l,j,u,h=>by
  rw[List.flatMap_cons]at h
  by_cases hj:j<size
  ·rw[List.getElem?_append_left (by rw[hf];exact hj)]at h
   exact⟨0,j,a,rfl,hj,by omega,h⟩
  ·rw[List.getElem?_append_right (by rw[hf];omega),hf]at h
   obtain⟨i,r,b,h1,h2,h3,h4⟩:=flat_get f hf l (j-size) u h
   refine⟨i+1,r,b,by simpa using h1,h2,?_,h4⟩
   rw[Nat.add_mul]
   omega
section
variable {H:Type} {enc:TypeId × Value→H} {P:Program} {w:World}
theorem open_list{α:Type}(z:α)(f:α→List Value)(good:α→Prop){size:Nat}(hf:∀a,(f a).length=size){r:Reach}{b0:Nat}{t e:TypeId}{v:Value}{d:DataW H}{p:List MemPlace}
  (ht:P.underlying t=some (.slice e))(hC:P.cellsOf e=size)(hsz:0<size)
  (helem:∀(fuel:Nat) (cs:List Value) (x:DataW H × List MemPlace),DataW.trod enc P w 0 (fun _=>true) true fuel e cs=some x→∃a,cs=f a∧good a)
  (hv:Value.okWide P w r b0 t v)(h:DataW.Trod enc P w 0 (fun _=>true) true t v d p) :
  ∃(A:Option Addr) (cap:Nat) (l:List α),v = .slice A l.length cap∧l.length≤cap∧cap≤maxLen∧(A=none→l.length=0∧cap=0)∧Lies w A (l.flatMap f)∧(∀a∈l,good a) ∧
   ((d = .nil∧l.length=0∧cap=0)∨∃elems spare,d = .slice elems spare∧elems.length=l.length∧elems.length+spare.length=cap):=by
 obtain⟨a0,len0,cap0,rfl⟩:=okWide_slice ht hv
 obtain⟨fuel,hfu⟩:=h
 rcases open_slice ht hfu with ⟨hcs,hx⟩|⟨a,len,cap,m,n,D,Pl,hcs,_,hl,hm,hmm,hx,hi⟩
 ·simp[Value.cells]at hcs hx
  obtain⟨rfl,rfl,rfl⟩:=hcs
  exact⟨none,0,[],rfl,Nat.le_refl _,Nat.zero_le _,fun _=>⟨rfl,rfl⟩,Lies.nil,by simp,.inl ⟨hx.1,rfl,rfl⟩⟩
 ·simp[Value.cells]at hcs hx hmm
  obtain⟨rfl,rfl,rfl⟩:=hcs
  subst hmm
  obtain⟨g,hg⟩:=pick (n:=len0) (p:=fun i s=>good s∧∀j,j<size→w.cell? (a.add (i*size+j))=(f s)[j]?) z (fun i hi'=>by
   obtain⟨cs',hc,ht'⟩:=hi i (by omega)
   rw[hC]at hc
   obtain⟨s,rfl,hs⟩:=helem _ _ _ ht'
   obtain⟨_,_,hcell⟩:=World.cells?_some hc
   refine⟨s,hs,fun j hj =>?_⟩
   rw[←hcell j hj,Go.Deep.add_add])
  refine⟨some a,m,(List.range len0).map g,by simp,by simpa using hl,hm,(fun h=>by cases h),(fun hne =>?_),?_,.inr ⟨_,_,hx.1,by simp,by simp;omega⟩⟩
  ·have hpos:0<len0:=by
    rcases Nat.eq_zero_or_pos len0 with h0|h0
    ·subst h0;simp at hne
    ·exact h0
   obtain⟨b,off,spot⟩:=a
   have h00:=(hg 0 hpos).2 0 hsz
   have hspot:spot=none:=by
    have hlen:=hf (g 0)
    rw[List.getElem?_eq_getElem (by omega)]at h00
    simpa[Addr.add] using World.cell?_spot h00
   subst hspot
   refine⟨b,off,rfl,fun j u hu =>?_⟩
   obtain⟨i,r,s,h1,h2,h3,h4⟩:=flat_get f hf _ j u hu
   have hil:i<len0:=by
    have:=(List.getElem?_eq_some_iff.1 h1).1
    simpa using this
   simp[hil]at h1
   subst h1
   rw[←Go.WideShapes.add_plain,h3,(hg i hil).2 r h2]
   exact h4
  ·intro s hs
   simp at hs
   obtain⟨i,hil,rfl⟩:=hs
   exact(hg i hil).1
def stCell(s:Int × Int):List Value:=[.int .i64 s.1,.int .i64 s.2]
theorem stCells_flat(l:List (Int × Int)):l.flatMap stCell=stCells l:=by
 induction l with
 |nil=>rfl
 |cons s r ih=>simp[stCells,stCell,ih]
theorem open_stamps{r:Reach}{b0:Nat}{t e ti:TypeId}{f0 f1:Field}{v:Value}{d:DataW H}{p:List MemPlace}
  (ht:P.underlying t=some (.slice e))(hs:P.underlying e=some (.struct #[f0,f1]))(hone:Deep.oneCellFields P #[f0,f1]=true)(hC:P.cellsOf e=2)(hi0:f0.type=ti)(hi1:f1.type=ti)(hi:P.underlying ti=some (.int .i64))
  (hv:Value.okWide P w r b0 t v)(h:DataW.Trod enc P w 0 (fun _=>true) true t v d p) :
  ∃(A:Option Addr) (cap:Nat) (l:List (Int × Int)),v = .slice A l.length cap∧l.length≤cap∧cap≤maxLen∧(A=none→l.length=0∧cap=0)∧Lies w A (stCells l) ∧
   (∀s∈l,-9223372036854775808≤s.1∧s.1≤9223372036854775807 ∧ -9223372036854775808≤s.2∧s.2≤9223372036854775807) ∧
   ((d = .nil∧l.length=0∧cap=0)∨∃elems spare,d = .slice elems spare∧elems.length=l.length∧elems.length+spare.length=cap):=by
 have:=open_list (0,0) stCell (fun s=> -9223372036854775808≤s.1∧s.1≤9223372036854775807 ∧ -9223372036854775808≤s.2∧s.2≤9223372036854775807) (size:=2) (fun _=>rfl) ht hC (by decide)
  (fun fuel cs x hx=>by
   obtain⟨c,n,rfl,_,h1,h2,h3,h4⟩:=stamp_cells hs hone hC hi0 hi1 hi hx
   exact⟨(c,n),rfl,h1,h2,h3,h4⟩) hv h
 obtain⟨A,cap,l,h1,h2,h3,h4,h5,h6,h7⟩:=this
 rw[stCells_flat]at h5
 exact⟨A,cap,l,h1,h2,h3,h4,h5,h6,h7⟩
end
set_option maxRecDepth 100000
theorem list3{cs:List Value}(h:cs.length=3):∃a0 a1 a2,cs=[a0,a1,a2]:=by
 match cs,h with
 | [a0,a1,a2],_=>exact⟨a0,a1,a2,rfl⟩
theorem list2{cs:List Value}(h:cs.length=2):∃a0 a1,cs=[a0,a1]:=by
 match cs,h with
 | [a0,a1],_=>exact⟨a0,a1,rfl⟩
section
variable {H:Type} {enc:TypeId × Value→H} {w:World}
def LenG(d:DataW H)(k:Nat):Prop:=k=0∨∃elems spare,d = .slice elems spare∧elems.length=k
theorem open_list_with{P:Program}{α:Type}(z:α)(f:α→List Value)(good:α→DataW H→Prop){size:Nat}(hf:∀a,(f a).length=size){t e:TypeId}{fuel0:Nat}{cs0:List Value}{y:DataW H × List MemPlace}
  (ht:P.underlying t=some (.slice e))(hC:P.cellsOf e=size)(hsz:0<size)
  (helem:∀(fuel:Nat) (cs:List Value) (x:DataW H × List MemPlace),DataW.trod enc P w 0 (fun _=>true) true fuel e cs=some x→∃a,cs=f a∧good a x.1)
  (hfu:DataW.trod enc P w 0 (fun _=>true) true fuel0 t cs0=some y) :
  ∃(A:Option Addr) (cap:Nat) (l:List α),cs0=[.slice A l.length cap]∧l.length≤cap∧cap≤maxLen∧(A=none→l.length=0∧cap=0)∧Lies w A (l.flatMap f) ∧
   (l=[]∨∃elems spare,y.1 = .slice elems spare∧elems.length=l.length∧∀a∈l,∃d∈elems,good a d):=by
 rcases open_slice ht hfu with ⟨hcs,hx⟩|⟨a,len,cap,m,n,D,Pl,hcs,_,hl,hm,hmm,hx,hi⟩
 ·subst hcs hx
  exact⟨none,0,[],rfl,Nat.le_refl _,Nat.zero_le _,fun _=>⟨rfl,rfl⟩,Lies.nil,.inl rfl⟩
 ·simp at hmm
  subst hmm
  obtain⟨g,hg⟩:=pick (n:=len) (p:=fun i s=>good s (D i)∧∀j,j<size→w.cell? (a.add (i*size+j))=(f s)[j]?) z (fun i hi'=>by
   obtain⟨cs',hc,ht'⟩:=hi i (by omega)
   rw[hC]at hc
   obtain⟨s,rfl,hs⟩:=helem _ _ _ ht'
   obtain⟨_,_,hcell⟩:=World.cells?_some hc
   refine⟨s,hs,fun j hj =>?_⟩
   rw[←hcell j hj,Go.Deep.add_add])
  refine⟨some a,m,(List.range len).map g,by simpa using hcs,by simpa using hl,hm,(fun h=>by cases h),(fun hne =>?_),.inr ⟨_,_,by rw[hx],by simp,fun s hs =>?_⟩⟩
  ·have hpos:0<len:=by
    rcases Nat.eq_zero_or_pos len with h0|h0
    ·subst h0;simp at hne
    ·exact h0
   obtain⟨b,off,spot⟩:=a
   have h00:=(hg 0 hpos).2 0 hsz
   have hspot:spot=none:=by
    have hlen:=hf (g 0)
    rw[List.getElem?_eq_getElem (by omega)]at h00
    simpa[Addr.add] using World.cell?_spot h00
   subst hspot
   refine⟨b,off,rfl,fun j u hu =>?_⟩
   obtain⟨i,r,s,h1,h2,h3,h4⟩:=flat_get f hf _ j u hu
   have hil:i<len:=by
    have:=(List.getElem?_eq_some_iff.1 h1).1
    simpa using this
   simp[hil]at h1
   subst h1
   rw[←Go.WideShapes.add_plain,h3,(hg i hil).2 r h2]
   exact h4
  ·simp at hs
   obtain⟨i,hil,rfl⟩:=hs
   exact⟨D i,List.mem_map.2 ⟨i,List.mem_range.2 hil,rfl⟩,(hg i hil).1⟩
theorem dk_weightsAll(P:Program)(e:TypeId):∀l:List (DataW H),DataW.weightsAll P e l=l.flatMap (DataW.weights P e)
 | []=>rfl
 |d::r=>by rw[List.flatMap_cons,←dk_weightsAll P e r];rfl
end
end Go.Proofs.YtjlfehpockfkdaaGreat
namespace Go.Proofs.YtjlfehpockfkdaaGreat
open Go.ChangeShapes Go.WideShapes Go.RowKit Go.Deep
set_option maxRecDepth 100000
section
variable {H:Type} {enc:TypeId × Value→H} {w:World}
theorem znInt:Tryz.prog.cellsOf 3=1:=by kernel_rfl
theorem znSt:Tryz.prog.cellsOf 46=2:=by kernel_rfl
theorem znSp:Tryz.prog.cellsOf 97=2:=by kernel_rfl
theorem znLS:Tryz.prog.cellsOf 22=1:=by kernel_rfl
theorem znZn:Tryz.prog.cellsOf 99=3:=by kernel_rfl
theorem znLZ:Tryz.prog.cellsOf 23=1:=by kernel_rfl
theorem znBytesS:Tryz.prog.bytesOf 46=16:=by kernel_rfl
theorem znBytesZ:Tryz.prog.bytesOf 99=40:=by kernel_rfl
theorem zn_stampE(fuel:Nat)(cs:List Value)(x:DataW H × List MemPlace)(h:DataW.trod enc Tryz.prog w 0 (fun _=>true) true fuel 46 cs=some x):∃a:Int × Int,cs=stCells [a]:=by
 obtain⟨y0,y1,m,hx,hl,q0,q1⟩:=trod_struct2 Tryz.underlying46 h
 rw[znSt]at hl
 obtain⟨a0,a1,rfl⟩:=list2 hl
 dsimp only at q0 q1
 rw[znInt]at q0 q1
 obtain⟨n,e0,_,_⟩:=DataW.trod_int Tryz.underlying3 q0
 obtain⟨s,e1,_,_⟩:=DataW.trod_int Tryz.underlying3 q1
 simp at e0 e1
 subst e0 e1
 exact⟨(n,s),rfl⟩
theorem zn_flat(l:List (Int × Int)):l.flatMap (fun n=>stCells [n])=stCells l:=by
 induction l with
 |nil=>rfl
 |cons s r ih=>
  rw[List.flatMap_cons,ih]
  rfl
theorem zn_vecE{fuel:Nat}{cs:List Value}{x:DataW H × List MemPlace}(h:DataW.trod enc Tryz.prog w 0 (fun _=>true) true fuel 22 cs=some x):∃A c l,cs=[.slice A (List.length l) c]∧OneL w A c l∧LenG x.1 l.length:=by
 obtain⟨A,c,l,h1,h2,h3,h4,h5,h6⟩:=open_list_with ((0,0):Int × Int) (fun n=>stCells [n]) (fun _ _=>True) (size:=2) (fun _=>rfl) Tryz.underlying22 znSt (by decide) (fun fuel cs x h=>(zn_stampE fuel cs x h).imp fun _ h=>⟨h,trivial⟩) h
 rw[zn_flat]at h5
 refine⟨A,c,l,h1,⟨h2,h3,h4,h5⟩,?_⟩
 rcases h6 with rfl|⟨el,sp,h7,h8,_⟩
 ·exact .inl rfl
 ·exact .inr ⟨el,sp,h7,h8⟩
def ZoneG(w:World)(z:Zc)(d:DataW H):Prop:=OneL w z.X z.c z.l∧∃d0 d1,d = .agg [d0,d1]∧LenG d1 z.l.length
def Zc.zero:Zc:=⟨0,0,Option.none,0,[]⟩
theorem zn_zoneE(fuel:Nat)(cs:List Value)(x:DataW H × List MemPlace)(h:DataW.trod enc Tryz.prog w 0 (fun _=>true) true fuel 99 cs=some x):∃z:Zc,cs=zCells [z]∧ZoneG w z x.1:=by
 obtain⟨y0,y1,m,hx,hl,q0,q1⟩:=trod_struct2 Tryz.underlying99 h
 rw[znZn]at hl
 obtain⟨a0,a1,a2,rfl⟩:=list3 hl
 dsimp only at q0 q1
 rw[znSp]at q0
 rw[znLS]at q1
 obtain⟨z0,z1,m2,hx2,hl2,r0,r1⟩:=trod_struct2 Tryz.underlying97 q0
 dsimp only at r0 r1
 rw[znInt]at r0 r1
 obtain⟨n,e0,_,_⟩:=DataW.trod_int Tryz.underlying3 r0
 obtain⟨s,e1,_,_⟩:=DataW.trod_int Tryz.underlying3 r1
 obtain⟨X,c,l,e2,o1,g1⟩:=zn_vecE q1
 simp at e0 e1 e2
 subst e0 e1 e2
 exact⟨⟨n,s,X,c,l⟩,rfl,o1,_,_,congrArg Prod.fst hx,g1⟩
theorem zCells_flat(l:List Zc):l.flatMap (fun f=>zCells [f])=zCells l:=by
 induction l with
 |nil=>rfl
 |cons s r ih=>
  rw[List.flatMap_cons,ih]
  rfl
theorem fit_zones{ts:List TypeId}{ds:List (DataW H)}(h:(DataW.weightsEach Tryz.prog ts ds).all (· ≤ reachBytes)=true){j:Nat}{d:DataW H}{L:List Zc}(ht:ts[j]?=some 23)(hd:ds[j]?=some d)
  (h6:L=[]∨∃elems spare,d = .slice elems spare∧elems.length=L.length∧∀f∈L,∃x∈elems,ZoneG w f x):L.length*40≤140737488355328∧∀z∈L,z.l.length*16≤140737488355328:=by
 rcases h6 with rfl|⟨elems,spare,rfl,hl,h7⟩
 ·exact⟨by simp,fun _ h=>by cases h⟩
 ·have top:∀k,k∈DataW.weights Tryz.prog 23 (.slice elems spare)→k≤reachBytes:=fun k hk=>by
   simpa using List.all_eq_true.1 h _ (DataW.weights_mem_each ht hd _ hk)
  refine⟨?_,fun f hf =>?_⟩
  ·have h1:=top ((elems.length+spare.length)*Tryz.prog.bytesOf 99) (by unfold DataW.weights;rw[Tryz.underlying23];exact List.mem_cons_self ..)
   rw[znBytesZ]at h1
   simp only[reachBytes]at h1
   omega
  ·obtain⟨x,hx,-,q0,q1,rfl,z⟩:=h7 f hf
   rcases z with z|⟨el,sp,rfl,z⟩
   ·omega
   ·have h1:=top ((el.length+sp.length)*Tryz.prog.bytesOf 46) (by
     unfold DataW.weights
     rw[Tryz.underlying23]
     refine List.mem_cons_of_mem _ (List.mem_append_left _ ?_)
     rw[dk_weightsAll]
     refine List.mem_flatMap.2 ⟨_,hx,?_⟩
     unfold DataW.weights
     rw[Tryz.underlying99]
     refine DataW.weights_mem_each (j:=1) rfl rfl _ ?_
     unfold DataW.weights
     rw[Tryz.underlying22]
     exact List.mem_cons_self ..)
    rw[znBytesS]at h1
    simp only[reachBytes]at h1
    omega
end
end Go.Proofs.YtjlfehpockfkdaaGreat
namespace Go.Proofs.YtjlfehpockfkdaaGreat
open Go.ChangeShapes Go.WideShapes Go.RowKit Go.Deep
set_option maxRecDepth 100000
theorem ca_list4{cs:List Value}(h:cs.length=4):∃a0 a1 a2 a3,cs=[a0,a1,a2,a3]:=by
 match cs,h with
 | [a0,a1,a2,a3],_=>exact⟨a0,a1,a2,a3,rfl⟩
section
variable {H:Type} {enc:TypeId × Value→H} {w:World}
theorem caInt:Tryz.prog.cellsOf 3=1:=by kernel_rfl
theorem caB:Tryz.prog.cellsOf 5=1:=by kernel_rfl
theorem caLB:Tryz.prog.cellsOf 47=1:=by kernel_rfl
theorem caSt:Tryz.prog.cellsOf 46=2:=by kernel_rfl
theorem caBd:Tryz.prog.cellsOf 49=4:=by kernel_rfl
theorem caBytesB:Tryz.prog.bytesOf 5=1:=by kernel_rfl
theorem caBytesBd:Tryz.prog.bytesOf 49=48:=by kernel_rfl
theorem ca_byteE(fuel:Nat)(cs:List Value)(x:DataW H × List MemPlace)(h:DataW.trod enc Tryz.prog w 0 (fun _=>true) true fuel 5 cs=some x):∃a:Int,cs=[.int .u8 a]∧isB a:=by
 obtain⟨a,e0,rfl,wa⟩:=DataW.trod_int Tryz.underlying5 h
 refine⟨a,e0,?_⟩
 have hb:IntKind.u8.min≤a∧a≤IntKind.u8.max:=by simpa[Lit.wf] using wa
 have e1:IntKind.u8.min=0:=by decide
 have e2:IntKind.u8.max=255:=by decide
 rw[e1,e2]at hb
 exact⟨hb.1,by omega⟩
theorem ca_flat(l:List Int):l.flatMap (fun n=>[Value.int .u8 n])=bCells l:=by
 induction l with
 |nil=>rfl
 |cons s r ih=>
  rw[List.flatMap_cons,ih]
  rfl
theorem ca_bytesE{fuel:Nat}{cs:List Value}{x:DataW H × List MemPlace}(h:DataW.trod enc Tryz.prog w 0 (fun _=>true) true fuel 47 cs=some x):∃A c l,cs=[.slice A (List.length l) c]∧OneB w A c l∧LenG x.1 l.length:=by
 obtain⟨A,c,l,h1,h2,h3,h4,h5,h6⟩:=open_list_with (0:Int) (fun n=>[Value.int .u8 n]) (fun a _=>isB a) (size:=1) (fun _=>rfl) Tryz.underlying47 caB (by decide) (fun fuel cs x h=>ca_byteE fuel cs x h) h
 rw[ca_flat]at h5
 refine⟨A,c,l,h1,⟨h2,h3,h4,h5,fun x hx =>?_⟩,?_⟩
 ·rcases h6 with rfl|⟨_,_,_,_,h7⟩
  ·cases hx
  ·obtain⟨_,_,h8⟩:=h7 x hx
   exact h8
 ·rcases h6 with rfl|⟨el,sp,h7,h8,_⟩
  ·exact .inl rfl
  ·exact .inr ⟨el,sp,h7,h8⟩
def BodyG(w:World)(f:Bc)(d:DataW H):Prop:=OneB w f.X f.d f.b.v∧∃d0 d1 d2,d = .agg [d0,d1,d2]∧LenG d2 f.b.v.length
theorem ca_bodyE(fuel:Nat)(cs:List Value)(x:DataW H × List MemPlace)(h:DataW.trod enc Tryz.prog w 0 (fun _=>true) true fuel 49 cs=some x):∃f:Bc,cs=Ca.cell f∧BodyG w f x.1:=by
 obtain⟨y0,y1,y2,m,hx,hl,q0,q1,q2⟩:=trod_struct3 Tryz.underlying49 h
 rw[caBd]at hl
 obtain⟨a0,a1,a2,a3,rfl⟩:=ca_list4 hl
 dsimp only at q0 q1 q2
 rw[caInt]at q0
 rw[caSt]at q1
 rw[caLB]at q2
 obtain⟨o,e0,_,_⟩:=DataW.trod_int Tryz.underlying3 q0
 obtain⟨c,n,e1,_,_,_,_⟩:=stamp_cells Tryz.underlying46 (by kernel_rfl) (by kernel_rfl) rfl rfl Tryz.underlying3 q1
 obtain⟨X,d,l,e2,o2,z2⟩:=ca_bytesE q2
 simp at e0 e1 e2
 obtain⟨rfl,rfl⟩:=e1
 subst e0 e2
 exact⟨⟨X,d,⟨o,c,n,l⟩⟩,rfl,o2,_,_,_,congrArg Prod.fst hx,z2⟩
theorem ca_cells_flat(l:List Bc):l.flatMap Ca.cell=Ca.cells l:=by
 induction l with
 |nil=>rfl
 |cons s r ih=>
  rw[List.flatMap_cons,ih]
  rfl
def BodiesG(w:World)(L:List Bc)(d:DataW H):Prop:=L=[]∨∃elems spare,d = .slice elems spare∧elems.length=L.length∧∀z∈L,∃x∈elems,BodyG w z x
theorem fit_datum{z:Bc}{x:DataW H}(hx:BodyG w z x)(hk:∀k,k∈DataW.weights Tryz.prog 49 x→k≤reachBytes):z.b.v.length≤140737488355328:=by
 obtain⟨-,q0,q1,q2,rfl,z2⟩:=hx
 rcases z2 with z2|⟨el,sp,rfl,z2⟩
 ·omega
 ·have h1:=hk ((el.length+sp.length)*Tryz.prog.bytesOf 5) (by
   unfold DataW.weights
   rw[Tryz.underlying49]
   refine DataW.weights_mem_each (j:=2) rfl rfl _ ?_
   unfold DataW.weights
   rw[Tryz.underlying47]
   exact List.mem_cons_self ..)
  rw[caBytesB]at h1
  simp only[reachBytes]at h1
  omega
theorem fit_bodies{ts:List TypeId}{ds:List (DataW H)}(h:(DataW.weightsEach Tryz.prog ts ds).all (· ≤ reachBytes)=true){j:Nat}{d:DataW H}{L:List Bc}(ht:ts[j]?=some 25)(hd:ds[j]?=some d)(h6:BodiesG w L d) :
  L.length*48≤140737488355328∧∀z∈L,z.b.v.length≤140737488355328:=by
 rcases h6 with rfl|⟨elems,spare,rfl,hl,h7⟩
 ·exact⟨by simp,fun _ h=>by cases h⟩
 ·have top:∀k,k∈DataW.weights Tryz.prog 25 (.slice elems spare)→k≤reachBytes:=fun k hk=>by
   simpa using List.all_eq_true.1 h _ (DataW.weights_mem_each ht hd _ hk)
  refine⟨?_,fun z hz =>?_⟩
  ·have h1:=top ((elems.length+spare.length)*Tryz.prog.bytesOf 49) (by unfold DataW.weights;rw[Tryz.underlying25];exact List.mem_cons_self ..)
   rw[caBytesBd]at h1
   simp only[reachBytes]at h1
   omega
  ·obtain⟨x,hx,hg⟩:=h7 z hz
   refine fit_datum hg (fun k hk=>top k ?_)
   unfold DataW.weights
   rw[Tryz.underlying25]
   refine List.mem_cons_of_mem _ (List.mem_append_left _ ?_)
   rw[dk_weightsAll]
   exact List.mem_flatMap.2 ⟨_,hx,hk⟩
end
end Go.Proofs.YtjlfehpockfkdaaGreat
namespace Go.Proofs.YtjlfehpockfkdaaGreat
open Go.ChangeShapes Go.WideShapes Go.RowKit Go.Deep
section
variable {H:Type} {enc:TypeId × Value→H} {P:Program} {w:World}
theorem write_cells{base:Nat}{spare:Nat→Bool}{held:Bool}{fuel:Nat}{t ti:TypeId}{g0 g1 g2 s0 s1:Field}{cs:List Value}{x:DataW H × List MemPlace}
  (hs:P.underlying t=some (.struct #[g0,g1,g2]))(hC:P.cellsOf t=4)(k0:P.cellsOf g0.type=2)(o0:g0.offset=0)(k1:P.cellsOf g1.type=1)(o1:g1.offset=2)(k2:P.cellsOf g2.type=1)(o2:g2.offset=3)
  (hss:P.underlying g0.type=some (.struct #[s0,s1]))(hone:Deep.oneCellFields P #[s0,s1]=true)(hi0:s0.type=ti)(hi1:s1.type=ti)(hi:P.underlying ti=some (.int .i64))(h1:P.underlying g1.type=some (.int .i64))(hb:P.underlying g2.type=some .bool)
  (h:DataW.trod enc P w base spare held fuel t cs=some x):∃y:Wr,cs=Nt.wrCell y:=by
 obtain⟨y0,y1,y2,m,rfl,hl,q0,q1,q2⟩:=trod_struct3 hs h
 rw[hC]at hl
 obtain⟨a0,a1,a2,a3,rfl⟩:∃a0 a1 a2 a3,cs=[a0,a1,a2,a3]:=by
  match cs,hl with
  | [a0,a1,a2,a3],_=>exact⟨a0,a1,a2,a3,rfl⟩
 rw[o0,k0]at q0
 rw[o1,k1]at q1
 rw[o2,k2]at q2
 obtain⟨c,n,e0,_⟩:=stamp_cells hss hone k0 hi0 hi1 hi q0
 obtain⟨o,e1,_,_⟩:=DataW.trod_int h1 q1
 obtain⟨g,e2,_⟩:=DataW.trod_bool hb q2
 simp at e0 e1 e2
 obtain⟨rfl,rfl⟩:=e0
 subst e1 e2
 exact⟨(c,n,o,g),rfl⟩
end
set_option maxRecDepth 100000
section
variable {H:Type} {enc:TypeId × Value→H} {w:World}
theorem trod_struct5{P:Program}{base:Nat}{spare:Nat→Bool}{held:Bool}{t:TypeId}{f0 f1 f2 f3 f4:Field}{fuel:Nat}{cs:List Value}{x:DataW H × List MemPlace}(ht:P.underlying t=some (.struct #[f0,f1,f2,f3,f4]))(h:DataW.trod enc P w base spare held fuel t cs=some x) :
  ∃y0 y1 y2 y3 y4 n,x=(.agg [y0.1,y1.1,y2.1,y3.1,y4.1],y0.2++(y1.2++(y2.2++(y3.2++y4.2))))∧cs.length=P.cellsOf t∧DataW.trod enc P w base spare held n f0.type ((cs.drop f0.offset).take (P.cellsOf f0.type))=some y0 ∧
   DataW.trod enc P w base spare held n f1.type ((cs.drop f1.offset).take (P.cellsOf f1.type))=some y1∧DataW.trod enc P w base spare held n f2.type ((cs.drop f2.offset).take (P.cellsOf f2.type))=some y2 ∧
   DataW.trod enc P w base spare held n f3.type ((cs.drop f3.offset).take (P.cellsOf f3.type))=some y3∧DataW.trod enc P w base spare held n f4.type ((cs.drop f4.offset).take (P.cellsOf f4.type))=some y4:=by
 obtain⟨xs,n,_,rfl,hl,hlen,hf⟩:=DataW.trod_struct ht h
 match xs,hlen with
 | [y0,y1,y2,y3,y4],_=>exact⟨y0,y1,y2,y3,y4,n,by simp,hl,by simpa using hf 0 f0 rfl,by simpa using hf 1 f1 rfl,by simpa using hf 2 f2 rfl,by simpa using hf 3 f3 rfl,by simpa using hf 4 f4 rfl⟩
theorem vw_list5{cs:List Value}(h:cs.length=5):∃a0 a1 a2 a3 a4,cs=[a0,a1,a2,a3,a4]:=by
 match cs,h with
 | [a0,a1,a2,a3,a4],_=>exact⟨a0,a1,a2,a3,a4,rfl⟩
theorem vwWr:Tryz.prog.cellsOf 52=4:=by kernel_rfl
theorem vwLW:Tryz.prog.cellsOf 24=1:=by kernel_rfl
theorem vwLB:Tryz.prog.cellsOf 25=1:=by kernel_rfl
theorem vwVw:Tryz.prog.cellsOf 27=5:=by kernel_rfl
theorem vwBytesW:Tryz.prog.bytesOf 52=32:=by kernel_rfl
theorem vw_writeE(fuel:Nat)(cs:List Value)(x:DataW H × List MemPlace)(h:DataW.trod enc Tryz.prog w 0 (fun _=>true) true fuel 52 cs=some x):∃a,cs=Nt.wrCell a:=
 write_cells Tryz.underlying52 (by kernel_rfl) (by kernel_rfl) rfl (by kernel_rfl) rfl (by kernel_rfl) rfl Tryz.underlying46 (by kernel_rfl) rfl rfl Tryz.underlying3 Tryz.underlying3 Tryz.underlying4 h
theorem vw_writesE{fuel:Nat}{cs:List Value}{x:DataW H × List MemPlace}(h:DataW.trod enc Tryz.prog w 0 (fun _=>true) true fuel 24 cs=some x):∃A c l,cs=[.slice A (List.length l) c]∧OneW w A c l∧LenG x.1 l.length:=by
 obtain⟨A,c,l,h1,h2,h3,h4,h5,h6⟩:=open_list_with Nt.zeroW Nt.wrCell (fun _ _=>True) (size:=4) (fun _=>rfl) Tryz.underlying24 vwWr (by decide) (fun fuel cs x h=>(vw_writeE fuel cs x h).imp fun _ h=>⟨h,trivial⟩) h
 refine⟨A,c,l,h1,⟨h2,h3,h4,h5⟩,?_⟩
 rcases h6 with rfl|⟨el,sp,h7,h8,_⟩
 ·exact .inl rfl
 ·exact .inr ⟨el,sp,h7,h8⟩
def ZonesG(w:World)(L:List Zc)(d:DataW H):Prop:=L=[]∨∃elems spare,d = .slice elems spare∧elems.length=L.length∧∀f∈L,∃x∈elems,ZoneG w f x
theorem vw_zonesE{fuel:Nat}{cs:List Value}{x:DataW H × List MemPlace}(h:DataW.trod enc Tryz.prog w 0 (fun _=>true) true fuel 23 cs=some x):∃A c L,cs=[.slice A (List.length L) c]∧OneZ w A c L∧ZonesG w L x.1:=by
 obtain⟨A,c,L,e1,h2,h3,h4,h5,h6⟩:=open_list_with Zc.zero (fun f=>zCells [f]) (fun f d=>ZoneG w f d) (size:=3) (fun _=>rfl) Tryz.underlying23 znZn (by decide) (fun fuel cs x h=>zn_zoneE fuel cs x h) h
 rw[zCells_flat]at h5
 refine⟨A,c,L,e1,⟨h2,h3,h4,h5,fun f hf2 =>?_⟩,h6⟩
 rcases h6 with rfl|⟨_,_,_,_,h7⟩
 ·cases hf2
 ·obtain⟨_,_,h8⟩:=h7 f hf2
  exact h8.1
theorem vw_bodiesE{fuel:Nat}{cs:List Value}{x:DataW H × List MemPlace}(h:DataW.trod enc Tryz.prog w 0 (fun _=>true) true fuel 25 cs=some x):∃A c L,cs=[.slice A (List.length L) c]∧OneC w A c L∧BodiesG w L x.1:=by
 obtain⟨A,c,L,h1,h2,h3,h4,h5,h6⟩:=open_list_with Bc.zero Ca.cell (fun z d=>BodyG w z d) (size:=4) (fun _=>rfl) Tryz.underlying25 caBd (by decide) (fun fuel cs x h=>ca_bodyE fuel cs x h) h
 rw[ca_cells_flat]at h5
 refine⟨A,c,L,h1,⟨h2,h3,h4,h5,fun z hz =>?_⟩,h6⟩
 rcases h6 with rfl|⟨_,_,_,_,h7⟩
 ·cases hz
 ·obtain⟨_,_,h8⟩:=h7 z hz
  exact h8.1
def ViewG(w:World)(q:Vl)(d:DataW H):Prop:=∃d0 d1 d2 d3 d4,d = .agg [d0,d1,d2,d3,d4]∧LenG d0 q.k.length∧ZonesG w q.z d1∧LenG d2 q.h.length∧BodiesG w q.b d3
theorem open_view{r:Reach}{b0:Nat}{v:Value}{d:DataW H}{p:List MemPlace}(hv:Value.okWide Tryz.prog w r b0 27 v)(h:DataW.Trod enc Tryz.prog w 0 (fun _=>true) true 27 v d p) :
  ∃q:Vl,v = .agg (vwCells q)∧VwAt w q∧ViewG w q d:=by
 obtain⟨cs,rfl,_⟩:=okWide_struct Tryz.underlying27 hv
 obtain⟨fuel,hf⟩:=h
 obtain⟨y0,y1,y2,y3,y4,m,hx,hl,q0,q1,q2,q3,q4⟩:=trod_struct5 Tryz.underlying27 hf
 have hcc:(Value.agg cs).cells.toList=cs.toList:=rfl
 rw[hcc]at hl q0 q1 q2 q3 q4
 rw[vwVw]at hl
 obtain⟨a0,a1,a2,a3,a4,hcl⟩:=vw_list5 hl
 rw[hcl]at q0 q1 q2 q3 q4
 dsimp only at q0 q1 q2 q3 q4
 rw[znLS]at q0
 rw[znLZ]at q1
 rw[vwLW]at q2
 rw[vwLB]at q3
 rw[znInt]at q4
 obtain⟨K,ck,k,e0,o0,g0⟩:=zn_vecE q0
 obtain⟨Z,cz,z,e1,o1,g1⟩:=vw_zonesE q1
 obtain⟨A,ch,hh,e2,o2,g2⟩:=vw_writesE q2
 obtain⟨B,cb,b,e3,o3,g3⟩:=vw_bodiesE q3
 obtain⟨n,e4,_,_⟩:=DataW.trod_int Tryz.underlying3 q4
 simp at e0 e1 e2 e3 e4
 subst e0 e1 e2 e3 e4
 exact⟨⟨K,ck,k,Z,cz,z,A,ch,hh,B,cb,b,n⟩,congrArg Value.agg (Array.toList_inj.1 hcl),⟨o0,o1,o2,o3⟩,_,_,_,_,_,congrArg Prod.fst hx,g0,g1,g2,g3⟩
theorem fit_len{ts:List TypeId}{ds:List (DataW H)}(h:(DataW.weightsEach Tryz.prog ts ds).all (· ≤ reachBytes)=true){j:Nat}{d:DataW H}{n b:Nat}{t e:TypeId}(hu:Tryz.prog.underlying t=some (.slice e))(hb:Tryz.prog.bytesOf e=b)(ht:ts[j]?=some t)(hd:ds[j]?=some d)(hl:LenG d n):n*b≤140737488355328:=by
 rcases hl with rfl|⟨el,sp,rfl,hl⟩
 ·simp
 ·have h1:(el.length+sp.length)*Tryz.prog.bytesOf e≤reachBytes:=by
   simpa using List.all_eq_true.1 h _ (DataW.weights_mem_each ht hd _ (by unfold DataW.weights;rw[hu];exact List.mem_cons_self ..))
  rw[hb,hl]at h1
  simp only[reachBytes]at h1
  have h2:n*b≤(n+sp.length)*b:=Nat.mul_le_mul_right _ (Nat.le_add_right _ _)
  omega
theorem fit_view{ts:List TypeId}{ds:List (DataW H)}(h:(DataW.weightsEach Tryz.prog ts ds).all (· ≤ reachBytes)=true){j:Nat}{d:DataW H}{q:Vl}(ht:ts[j]?=some 27)(hd:ds[j]?=some d)(hg:ViewG w q d):VwFit q:=by
 obtain⟨d0,d1,d2,d3,d4,rfl,g0,g1,g2,g3⟩:=hg
 have hin:(DataW.weightsEach Tryz.prog [22,23,24,25,3] [d0,d1,d2,d3,d4]).all (· ≤ reachBytes)=true:=List.all_eq_true.2 (fun k hk=>List.all_eq_true.1 h k (DataW.weights_mem_each ht hd k (by
  unfold DataW.weights
  rw[Tryz.underlying27]
  exact hk)))
 have z1:=fit_zones hin (j:=1) rfl rfl g1
 have z3:=fit_bodies hin (j:=3) rfl rfl g3
 exact⟨fit_len hin (j:=0) Tryz.underlying22 znBytesS rfl rfl g0,z1.1,z1.2,fit_len hin (j:=2) Tryz.underlying24 vwBytesW rfl rfl g2,⟨z3.1,z3.2⟩⟩
end
end Go.Proofs.YtjlfehpockfkdaaGreat
namespace Go.Proofs.YtjlfehpockfkdaaGreat.viewForms
open Go.ChangeShapes Go.WideShapes Go.ChangeAt Go.RowKit
theorem cellsStamp:Tryz.prog.cellsOf 46=2:=by kernel_rfl
theorem bytesStamp:Tryz.prog.bytesOf 46=16:=by kernel_rfl
theorem cellsSpan:Tryz.prog.cellsOf 97=2:=by kernel_rfl
theorem bytesSpan:Tryz.prog.bytesOf 97=16:=by kernel_rfl
theorem cellsWrite:Tryz.prog.cellsOf 52=4:=by kernel_rfl
theorem bytesWrite:Tryz.prog.bytesOf 52=32:=by kernel_rfl
theorem own:ownKnob Tryz.prog.godebug=none:=by kernel_rfl
theorem laidOut:laidOutB Tryz.prog=true:=by kernel_rfl
theorem reads:∀t∈Tryz.f3.params.toList,Tryz.prog.readableRec t=true∧t<Tryz.prog.types.size:=by
 intro t ht
 rw[Tryz.params3]at ht
 have:t=27∨t=3∨t=28:=by simpa using ht
 rcases this with rfl|rfl|rfl<;>exact⟨by kernel_rfl,of_decide_eq_true (by kernel_rfl)⟩
set_option maxRecDepth 100000 in
theorem lifted(os:Os)(started:os.Started)(H:Type)(enc:TypeId × Value→H) :
  ReturnsInHanded {} Tryz.checked os 3 .any (Rows.viewFormsSpec.pre6 enc Tryz.prog Tryz.f3 Rows.viewFormsRow.domain false) (Rows.viewFormsSpec.post enc Tryz.prog Tryz.f3 false true false false):=by
 refine returnsInHanded_of_change_sized (C:=Tryz.checked) own started (by kernel_rfl) Tryz.func3
  (ChangeSpec.witness6 (enc:=enc) (C:=Tryz.checked) false ⟨#[],#[.agg #[.slice none 0 0,.slice none 0 0,.slice none 0 0,.slice none 0 0,.int .i64 0],.int .i64 0,.slice none 0 0],[]⟩ 8 (by kernel_rfl) (by kernel_rfl) (by kernel_rfl) (by kernel_rfl)) ?_
 intro W base args ds gs before hval0 hW _ hsz0 _
 have hval:∀(j:Nat) t v,Tryz.f3.params[j]?=some t→args[j]?=some v→Value.okWide Tryz.prog W .any base t v:=hval0
 have hsz:(DataW.weightsEach Tryz.prog (Tryz.f3.params.toList++Rows.viewFormsSpec.plain.varTypes Tryz.prog) (ds++gs)).all (· ≤ reachBytes)=true:=hsz0
 have hW':=hW
 obtain⟨p,q,hA0,hV,rfl,hfz,hnd⟩:=hW
 have hA:DataW.TrodAll enc Tryz.prog W 0 (fun _=>true) true Tryz.f3.params.toList args.toList ds p:=hA0
 rw[Tryz.params3]at hA hval hsz
 obtain⟨v0,vs0,d0,ds0,p0,q0,hargs,rfl,rfl,h0,r0⟩:=trodAll_cons hA
 obtain⟨v1,vs1,d1,ds1,p1,q1,rfl,rfl,rfl,h1,r1⟩:=trodAll_cons r0
 obtain⟨v2,vs2,d2,ds2,p2,q2,rfl,rfl,rfl,h2,r2⟩:=trodAll_cons r1
 obtain⟨rfl,rfl,rfl⟩:=trodAll_nil r2
 obtain rfl:args=#[v0,v1,v2]:=by cases args;simp_all
 obtain⟨rfl,rfl⟩:=trodVars_none hV
 obtain⟨q0,rfl,o0,g0⟩:=open_view (hval 0 27 v0 rfl rfl) h0
 have z0:=fit_view hsz (j:=0) rfl rfl g0
 obtain⟨a1,rfl,rfl,rfl,w1⟩:=open_int Tryz.underlying3 (hval 1 3 v1 rfl rfl) h1
 obtain⟨A2,cap2,l2,rfl,hc2,hm2,hn2,hl2,_,hd2⟩:=open_stamps Tryz.underlying28 Tryz.underlying97 (by kernel_rfl) cellsSpan rfl rfl Tryz.underlying3 (hval 2 28 v2 rfl rfl) h2
 have o2:OneL W A2 cap2 l2:=⟨hc2,hm2,hn2,hl2⟩
 clear hA0 hval0 hsz hsz0
 refine(lawVForms_any viewSince q0 a1 A2 cap2 l2 W o0 z0 o2).mono fun e W' ⟨he,hg⟩ =>?_
 subst he
 exact⟨_,rfl,law_post laidOut hW' rfl rfl (by kernel_rfl) Tryz.underlying4 reads hg⟩
theorem over:Rows.viewFormsRow.holds Tryz.pinned (OpenSpec.ofChange Rows.viewFormsSpec):=
 OpenClaim.holds_of_wide 3 Tryz.f3 rfl rfl rfl rfl rfl rfl rfl ⟨rfl,rfl,rfl,rfl,rfl⟩ rfl rfl rfl rfl rfl (by kernel_rfl) Tryz.func3 (by kernel_rfl)
  (of_decide_eq_true (by kernel_rfl)) (by unfold Func.isWrapper;first|(rw[if_pos (by decide +kernel)];kernel_rfl)|(rw[if_neg (by decide +kernel)];exact⟨rfl,rfl⟩))
  (fun os started H enc _=>lifted os started H enc)
theorem proved:Rows.ViewFormsSaid:=
 over
end Go.Proofs.YtjlfehpockfkdaaGreat.viewForms
